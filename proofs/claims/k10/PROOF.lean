import PyProof.Rows.All
import Wide.All
import OpenK.AllK
import Wide.FinOn
import HandS.ForMost
import HandS.ForExc
import HandS.TryMany
import HandS.Star
import HandS.Strs
import HandS.SetFor
import HandS.IsInst
import HandS.Property
import HandS.Conv
import HandS.Small
import HandS.RevRange
import KE.GoesEnum
import KE.GoesMore
import KE.KOpsOwn
import HandS.More
import HandS.SlotsOwn
import PyProof.InstNe
import HandS.IterVal
import HandS.OwnEq
import HandS.Flow
import HandS.OwnIter
import HandS.DictComp
import HandS.WideBits
import HandS.List
import HandS.Gcd
import HandS.ClsMeth
import HandS.Wide
import HandS.Defaults
import Flt.RightSqrt
import KE.DataMinMax
import HandS.SortKw
import HandS.Style
import PySem.Challenge.RW_pursewebs_k10_levels_listed_and_by_round
set_option Elab.async false
set_option linter.all false
set_option maxRecDepth 100000
set_option maxHeartbeats 4000000
namespace Den
open PySem L2
inductive Ty where
  | non | bl | int | str | lst | tup
  deriving DecidableEq
def Ty.name : Ty → String
  | .non => "NoneType"
  | .bl => "bool"
  | .int => "int"
  | .str => "str"
  | .lst => "list"
  | .tup => "tuple"
inductive D where
  | non | bl (b : Bool) | int (i : Int) | str (x : Str) | lst (ds : List D) | tup (ds : List D) | ins (C : Addr) (ns : List Str) (ds : List D) | pot | ty (n : Ty) | cls (C : Addr) | dct (kvs : List (Key × V))

mutual
/-- the value v is the datum d, as far as the standing part G of the heap tells -/
inductive At (P : Addr) (G : Hp) : V → D → Prop
  | non : At P G .non .non
  | bl (b : Bool) : At P G (.bl b) (.bl b)
  | int (i : Int) : At P G (.int i) (.int i)
  | str (x : Str) : At P G (.str x) (.str x)
  | lst {p : Addr} {vs : List V} {ds : List D} (h : G p = some (.lst vs)) (a : AtL P G vs ds) : At P G (.ref p) (.lst ds)
  | tup {p : Addr} {vs : List V} {ds : List D} (h : G p = some (.tup vs)) (a : AtL P G vs ds) : At P G (.ref p) (.tup ds)
  | ins {p dx C : Addr} {ns : List Str} {vs : List V} {ds : List D} (h : G p = some (.ins C dx (ns.zip vs))) (a : AtL P G vs ds) : At P G (.ref p) (.ins C ns ds)
  | pot : At P G (.ref P) .pot
  | ty (n : Ty) : At P G (.ty n.name) (.ty n)
  | cls (C : Addr) : At P G (.ref C) (.cls C)
  | dct {p : Addr} {o : Obj} {kvs : List (Key × V)} (h : G p = some (.frz o (.dK kvs))) : At P G (.ref p) (.dct kvs)
inductive AtL (P : Addr) (G : Hp) : List V → List D → Prop
  | nil : AtL P G [] []
  | cons {v : V} {d : D} {vs : List V} {ds : List D} (h : At P G v d) (t : AtL P G vs ds) : AtL P G (v :: vs) (d :: ds)
end
def Ex (H H' : Hp) : Prop := ∀ a o, H a = some o → H' a = some o
theorem Ex.refl (H : Hp) : Ex H H := fun _ _ h => h
theorem Ex.trans {H H1 H2 : Hp} (a : Ex H H1) (b : Ex H1 H2) : Ex H H2 := fun x o h => b x o (a x o h)
theorem Ex.new {H : Hp} {p : Addr} {o : HO} (h : H p = none) : Ex H (upd H p o) := fun a u e => by
  rw [upd_ne (ne_of_none e h)]
  exact e

mutual
theorem At.mono {P : Addr} {G G' : Hp} (e : Ex G G') : ∀ {v : V} {d : D}, At P G v d → At P G' v d
  | _, _, .non => .non
  | _, _, .bl b => .bl b
  | _, _, .int i => .int i
  | _, _, .str x => .str x
  | _, _, .lst h a => .lst (e _ _ h) (AtL.mono e a)
  | _, _, .tup h a => .tup (e _ _ h) (AtL.mono e a)
  | _, _, .ins h a => .ins (e _ _ h) (AtL.mono e a)
  | _, _, .pot => .pot
  | _, _, .ty n => .ty n
  | _, _, .cls C => .cls C
  | _, _, .dct h => .dct (e _ _ h)
theorem AtL.mono {P : Addr} {G G' : Hp} (e : Ex G G') : ∀ {vs : List V} {ds : List D}, AtL P G vs ds → AtL P G' vs ds
  | _, _, .nil => .nil
  | _, _, .cons h t => .cons (At.mono e h) (AtL.mono e t)
end
section
variable {P : Addr} {G : Hp}
theorem AtL.length : ∀ {vs : List V} {ds : List D}, AtL P G vs ds → vs.length = ds.length
  | _, _, .nil => rfl
  | _, _, .cons _ t => by simp [AtL.length t]
theorem AtL.get : ∀ {vs : List V} {ds : List D} {i : Nat} {d : D}, AtL P G vs ds → ds[i]? = some d → ∃ v, vs[i]? = some v ∧ At P G v d
  | _, _, _, _, .nil, e => by simp at e
  | _, _, 0, _, .cons h _, e => by simp at e; subst e; exact ⟨_, rfl, h⟩
  | _, _, i + 1, d, .cons _ t, e => by
    obtain ⟨v, h1, h2⟩ := AtL.get (i := i) (d := d) t (by simpa using e)
    exact ⟨v, by simpa using h1, h2⟩
theorem AtL.getV : ∀ {vs : List V} {ds : List D} {i : Nat} {v : V}, AtL P G vs ds → vs[i]? = some v → ∃ d, ds[i]? = some d ∧ At P G v d
  | _, _, _, _, .nil, e => by simp at e
  | _, _, 0, _, .cons h _, e => by simp at e; subst e; exact ⟨_, rfl, h⟩
  | _, _, i + 1, v, .cons _ t, e => by
    obtain ⟨d, h1, h2⟩ := AtL.getV (i := i) (v := v) t (by simpa using e)
    exact ⟨d, by simpa using h1, h2⟩
theorem AtL.append : ∀ {vs ws : List V} {ds es : List D}, AtL P G vs ds → AtL P G ws es → AtL P G (vs ++ ws) (ds ++ es)
  | _, _, _, _, .nil, s => s
  | _, _, _, _, .cons h t, s => .cons h (AtL.append t s)
theorem AtL.take : ∀ {vs : List V} {ds : List D} (n : Nat), AtL P G vs ds → AtL P G (vs.take n) (ds.take n)
  | _, _, 0, _ => .nil
  | _, _, _ + 1, .nil => .nil
  | _, _, n + 1, .cons h t => .cons h (AtL.take n t)
theorem AtL.drop : ∀ {vs : List V} {ds : List D} (n : Nat), AtL P G vs ds → AtL P G (vs.drop n) (ds.drop n)
  | _, _, 0, a => a
  | _, _, _ + 1, .nil => .nil
  | _, _, n + 1, .cons h t => AtL.drop n t
theorem AtL.set {v : V} {d : D} (h : At P G v d) : ∀ {vs : List V} {ds : List D} (i : Nat), AtL P G vs ds → AtL P G (vs.set i v) (ds.set i d)
  | _, _, _, .nil => .nil
  | _, _, 0, .cons _ t => .cons h t
  | _, _, i + 1, .cons q t => .cons q (AtL.set h i t)
theorem AtL.ints : ∀ {ns : List Int}, AtL P G (ns.map V.int) (ns.map D.int)
  | [] => .nil
  | n :: ns => .cons (.int n) AtL.ints
end
/-- from (G, H) on: the standing part grows, what stood stands (but the pot), what is new was free -/
structure Stp (B : Addr → Prop) (G H G' H' : Hp) : Prop where
  gg : Ex G G'
  gh : Ex G' H'
  keep : ∀ q o, H q = some o → ¬ B q → H' q = some o
  there : ∀ q, H' q = none → H q = none
  new : ∀ p o, G' p = some o → G p = some o ∨ H p = none
theorem Stp.refl {B : Addr → Prop} {G H : Hp} (gh : Ex G H) : Stp B G H G H := ⟨Ex.refl G, gh, fun _ _ h _ => h, fun _ h => h, fun _ _ h => .inl h⟩
theorem Stp.trans {B : Addr → Prop} {G H G1 H1 G2 H2 : Hp} (a : Stp B G H G1 H1) (b : Stp B G1 H1 G2 H2) : Stp B G H G2 H2 :=
  ⟨a.gg.trans b.gg, b.gh, fun q o h n => b.keep q o (a.keep q o h n) n, fun q h => a.there q (b.there q h), fun p o h => (b.new p o h).elim (fun z => a.new p o z) fun z => .inr (a.there p z)⟩
/-- a new object, standing from now on -/
theorem Stp.lay {B : Addr → Prop} {G H : Hp} {p : Addr} {o : HO} (gh : Ex G H) (h : H p = none) : Stp B G H (upd G p o) (upd H p o) := by
  refine ⟨fun a u e => ?_, fun a u e => ?_, fun q u e _ => ?_, fun q e => ?_, fun a u e => ?_⟩
  · rw [upd_ne (ne_of_none (gh a u e) h)]; exact e
  · by_cases z : a = p
    · subst z; rw [upd_same] at e; rw [upd_same]; exact e
    · rw [upd_ne z] at e; rw [upd_ne z]; exact gh a u e
  · rw [upd_ne (ne_of_none e h)]; exact e
  · by_cases z : q = p
    · subst z; exact h
    · rw [upd_ne z] at e; exact e
  · by_cases z : a = p
    · subst z; exact .inr h
    · rw [upd_ne z] at e; exact .inl e
/-- a new object that does not stand yet -/
theorem Stp.lay0 {B : Addr → Prop} {G H : Hp} {p : Addr} {o : HO} (gh : Ex G H) (h : H p = none) : Stp B G H G (upd H p o) := by
  refine ⟨Ex.refl G, fun a u e => ?_, fun q u e _ => ?_, fun q e => ?_, fun a u e => .inl e⟩
  · rw [upd_ne (ne_of_none (gh a u e) h)]; exact gh a u e
  · rw [upd_ne (ne_of_none e h)]; exact e
  · by_cases z : q = p
    · subst z; exact h
    · rw [upd_ne z] at e; exact e

/-- what a slot holds: a datum, a list of one's own, an instance that is being made -/
inductive L where
  | dat (d : D) | cell (ds : List D) | obj (a C : Addr) (ns : List Str) (ds : List D)
abbrev Loc := List (Option L)

/-- P: the place of what the reading changes (the pot); B: all places that belong to it; inv: what it holds -/
structure Cfg where
  K : PySem.W.Frag
  P : Addr
  ec : Nat → Addr
  B : Addr → Prop
  inv : List Int → Hp → Prop
  full : ∀ {p : List Int} {H : Hp}, inv p H → ∀ a, B a → H a ≠ none
  ext : ∀ {p : List Int} {H H' : Hp}, (∀ a, B a → H' a = H a) → inv p H → inv p H'

def SlotAt (c : Cfg) (H0 G H : Hp) : Option (Option V) → L → Prop
  | some (some v), .dat d => At c.P G v d
  | some (some (.ref p)), .cell ds => ∃ vs, H p = some (.lst vs) ∧ AtL c.P G vs ds ∧ G p = none ∧ H0 p = none
  | some (some (.ref p)), .obj a C ns ds => p = a ∧ ∃ vs dx, H p = some (.ins C dx (ns.zip vs)) ∧ AtL c.P G vs ds ∧ G p = none ∧ H0 p = none ∧ ¬ c.B p
  | _, _ => False
def owned : L → Bool
  | .dat _ => false
  | _ => true

structure Rel (c : Cfg) (G0 H0 G H : Hp) (σ : St) (l : Loc) (pot : List Int) : Prop where
  stp : Stp c.B G0 H0 G H
  pot : c.inv pot H
  gP : ∀ a, c.B a → G a = none
  hP : ∀ a, c.B a → H0 a ≠ none
  len : σ.length = l.length
  slot : ∀ (i : Nat) (x : L), l[i]? = some (some x) → SlotAt c H0 G H σ[i]? x
  dist : ∀ (i j : Nat) (x y : L), l[i]? = some (some x) → l[j]? = some (some y) → owned x = true → owned y = true → i ≠ j → σ[i]? ≠ σ[j]?

inductive R (α : Type) where
  | ok (a : α) (pot : List Int) | err (n : Nat) (pot : List Int) | bad
def R.bind {α β : Type} : R α → (α → List Int → R β) → R β
  | .ok a p, k => k a p
  | .err n p, _ => .err n p
  | .bad, _ => .bad
abbrev M (α : Type) := Loc → List Int → R α

section
variable {c : Cfg} {G0 H0 G H G' H' : Hp} {σ : St} {l : Loc} {pot pot' : List Int}
theorem SlotAt.step {x : L} {o : Option (Option V)} (hh : ∀ a, c.B a → H0 a ≠ none) (s : Stp c.B G H G' H') (a : SlotAt c H0 G H o x) : SlotAt c H0 G' H' o x := by
  have pres : ∀ {p : Addr} {u : HO}, H p = some u → G p = none → G' p = none := fun {p u} h1 h2 => by
    cases e : G' p with
    | none => rfl
    | some w =>
      rcases s.new p w e with z | z
      · rw [h2] at z; cases z
      · rw [h1] at z; cases z
  match o, x, a with
  | some (some v), .dat d, a => exact At.mono s.gg a
  | some (some (.ref p)), .cell ds, ⟨vs, h1, h2, h3, h4⟩ =>
    exact ⟨vs, s.keep p _ h1 (fun z => hh p z h4), AtL.mono s.gg h2, pres h1 h3, h4⟩
  | some (some (.ref p)), .obj a C ns ds, ⟨ea, vs, dx, h1, h2, h3, h4, h5⟩ => exact ⟨ea, vs, dx, s.keep p _ h1 h5, AtL.mono s.gg h2, pres h1 h3, h4, h5⟩
theorem Rel.hp (r : Rel c G0 H0 G H σ l pot) : ∀ a, c.B a → H a ≠ none := fun a b z => r.hP a b (r.stp.there a z)
/-- the state behind an expression -/
theorem Rel.step (r : Rel c G0 H0 G H σ l pot) (s : Stp c.B G H G' H') (hp : c.inv pot' H') : Rel c G0 H0 G' H' σ l pot' := by
  refine ⟨r.stp.trans s, hp, fun a b => ?_, r.hP, r.len, fun i x e => (r.slot i x e).step r.hP s, r.dist⟩
  cases e : G' a with
  | none => rfl
  | some w =>
    rcases s.new _ w e with z | z
    · rw [r.gP a b] at z; cases z
    · exact absurd z (r.hp a b)
/-- nothing that belongs to the pot is touched -/
theorem Rel.same (r : Rel c G0 H0 G H σ l pot) (s : Stp c.B G H G' H') (hp : ∀ a, c.B a → H' a = H a) : Rel c G0 H0 G' H' σ l pot := r.step s (c.ext hp r.pot)
end
/-- what is changed is a list of ints: the pot -/
structure Cfg.Pot (c : Cfg) : Prop where
  b : ∀ a, c.B a ↔ a = c.P
  i : ∀ p H, c.inv p H ↔ H c.P = some (.lst (p.map V.int))
def potCfg (K : PySem.W.Frag) (P : Addr) (ec : Nat → Addr) : Cfg := ⟨K, P, ec, fun a => a = P, fun p H => H P = some (.lst (p.map V.int)), (fun {p H} h a b z => by rw [b, h] at z; cases z), (fun {p H H'} e h => by rw [e P rfl]; exact h)⟩
theorem potCfg_pot (K : PySem.W.Frag) (P : Addr) (ec : Nat → Addr) : (potCfg K P ec).Pot := ⟨fun _ => Iff.rfl, fun _ _ => Iff.rfl⟩

/-- what is wanted behind a reading that comes to r -/
def Post (c : Cfg) (E : St → XK) {α β : Type} (rel : Hp → α → β → Prop) (G0 H0 G H : Hp) (σ : St) (l : Loc) : R β → (α → Hp → Prop) → Prop
  | .ok b p, Q => ∀ a G' H', Stp c.B G H G' H' → Rel c G0 H0 G' H' σ l p → rel G' a b → Q a H'
  | .err n p, _ => ∀ G' H', Ex G G' → Rel c G0 H0 G' H' σ l p → E σ (.ref (c.ec n)) none H'
  | .bad, _ => False
/-- what an expression's (a test's, an argument list's) reading owes to its function -/
def Sn (c : Cfg) (E : St → XK) {α β : Type} (rel : Hp → α → β → Prop) (t : St → Hp → (α → Hp → Prop) → Prop) (e : M β) : Prop :=
  ∀ G0 H0 G H σ l pot, Rel c G0 H0 G H σ l pot → ∀ Q : α → Hp → Prop, Post c E rel G0 H0 G H σ l (e l pot) Q → t σ H Q
abbrev rD (c : Cfg) : Hp → V → D → Prop := fun G v d => At c.P G v d
abbrev rB : Hp → Bool → Bool → Prop := fun _ a b => a = b
abbrev rA (c : Cfg) : Hp → List V → List D → Prop := fun G v d => AtL c.P G v d
abbrev SE (c : Cfg) (E : St → XK) (t : TE) (e : M D) : Prop := Sn c E (rD c) t e
abbrev ST (c : Cfg) (E : St → XK) (t : TT) (e : M Bool) : Prop := Sn c E rB t e
abbrev SA (c : Cfg) (E : St → XK) (t : TA) (e : M (List D)) : Prop := Sn c E (rA c) t e
def mbind {α β : Type} (a : M α) (k : α → M β) : M β := fun l p => (a l p).bind fun x p' => k x l p'
def mret {α : Type} (a : α) : M α := fun _ p => .ok a p
def mlift {α : Type} : Option α → M α
  | some a => mret a
  | none => fun _ _ => .bad

section
variable {c : Cfg} {E : St → XK} {α β : Type} {rel : Hp → α → β → Prop} {G0 H0 G H G' H' : Hp} {σ : St} {l : Loc} {pot pot' : List Int}
theorem Post.mono {r : R β} {Q : α → Hp → Prop} (p : Post c E rel G0 H0 G H σ l r Q) (s : Stp c.B G H G' H') : Post c E rel G0 H0 G' H' σ l r Q := by
  cases r with
  | ok b q => exact fun a G2 H2 s2 r2 ra => p a G2 H2 (s.trans s2) r2 ra
  | err n q => exact fun G2 H2 e2 r2 => p G2 H2 (s.gg.trans e2) r2
  | bad => exact p
theorem Post.ok {b : β} {Q : α → Hp → Prop} {a : α} (p : Post c E rel G0 H0 G H σ l (.ok b pot) Q) (r : Rel c G0 H0 G H σ l pot) (h : rel G a b) : Q a H := p a G H (Stp.refl r.stp.gh) r h
theorem Sn.go {γ δ : Type} {rel' : Hp → γ → δ → Prop} {t1 : St → Hp → (γ → Hp → Prop) → Prop} {e1 : M δ} (h1 : Sn c E rel' t1 e1) (r : Rel c G0 H0 G H σ l pot) {k : δ → M β} {Q : α → Hp → Prop} {X : γ → Hp → Prop}
    (post : Post c E rel G0 H0 G H σ l (mbind e1 k l pot) Q)
    (h2 : ∀ a b p G' H', Stp c.B G H G' H' → Rel c G0 H0 G' H' σ l p → rel' G' a b → Post c E rel G0 H0 G' H' σ l (k b l p) Q → X a H') : t1 σ H X := by
  refine h1 G0 H0 G H σ l pot r _ ?_
  unfold mbind at post
  cases e : e1 l pot with
  | ok b p =>
    rw [e] at post
    exact fun a G' H' s r' ra => h2 a b p G' H' s r' ra (Post.mono post s)
  | err n p =>
    rw [e] at post
    exact post
  | bad =>
    rw [e] at post
    exact post
end
end Den
namespace Den
open PySem L2
section
variable {c : Cfg} {E : St → XK}
def mvar (i : Nat) : M D := fun l p => match l[i]? with
  | some (some (.dat d)) => .ok d p
  | _ => .bad
theorem se_var {i : Nat} : SE c E (tVar i) (mvar i) := by
  intro G0 H0 G H σ l pot r Q post
  unfold mvar at post
  split at post
  · rename_i d e
    have a := r.slot i _ e
    cases e2 : σ[i]? with
    | none => rw [e2] at a; exact a.elim
    | some o =>
      cases o with
      | none => rw [e2] at a; exact a.elim
      | some v =>
        rw [e2] at a
        exact ⟨v, e2, Post.ok post r a⟩
  · exact post.elim
theorem se_c {v : V} {d : D} (h : ∀ P G, At P G v d) : SE c E (tC v) (mret d) := fun G0 H0 G H σ l pot r Q post => Post.ok post r (h _ _)
theorem se_int {i : Int} : SE c E (tC (.int i)) (mret (.int i)) := se_c fun _ _ => .int i
theorem se_str {x : Str} : SE c E (tC (.str x)) (mret (.str x)) := se_c fun _ _ => .str x
theorem se_bl {b : Bool} : SE c E (tC (.bl b)) (mret (.bl b)) := se_c fun _ _ => .bl b
theorem se_non : SE c E (tC .non) (mret .non) := se_c fun _ _ => .non

/-- behind an operation: perhaps something new, the pot as it was -/
def OpS (c : Cfg) (t : Hp → VK → Prop) (G H : Hp) (d : D) : Prop := ∀ Q : VK, (∀ v G' H', Stp c.B G H G' H' → (∀ a, c.B a → H' a = H a) → At c.P G' v d → Q v H') → t H Q
structure S2 (c : Cfg) (r : R2) (f : D → D → Option D) : Prop where
  run : ∀ G H x y dx dy d, Ex G H → (∀ a, c.B a → H a ≠ none) → At c.P G x dx → At c.P G y dy → f dx dy = some d → OpS c (r x y) G H d
structure S1 (c : Cfg) (r : V → Hp → VK → Prop) (f : D → Option D) : Prop where
  run : ∀ G H x dx d, Ex G H → (∀ a, c.B a → H a ≠ none) → At c.P G x dx → f dx = some d → OpS c (r x) G H d
structure SN (c : Cfg) (r : List V → Hp → VK → Prop) (f : List D → Option D) : Prop where
  run : ∀ G H xs ds d, Ex G H → (∀ a, c.B a → H a ≠ none) → AtL c.P G xs ds → f ds = some d → OpS c (r xs) G H d
def op2 (f : D → D → Option D) (a b : M D) : M D := mbind a fun x => mbind b fun y => mlift (f x y)
def op1 (f : D → Option D) (a : M D) : M D := mbind a fun x => mlift (f x)
def opn (f : List D → Option D) (a : M (List D)) : M D := mbind a fun x => mlift (f x)
theorem post_op {G0 H0 G H : Hp} {σ : St} {l : Loc} {pot : List Int} {o : Option D} {t : Hp → VK → Prop} {Q : VK} (r : Rel c G0 H0 G H σ l pot) (post : Post c E (rD c) G0 H0 G H σ l (mlift o l pot) Q)
    (h : ∀ d, o = some d → OpS c t G H d) : t H Q := by
  cases o with
  | none => exact post.elim
  | some d => exact h d rfl Q fun v G' H' s hp a => post v G' H' s (r.same s hp) a
theorem se_op2 {r : R2} {f : D → D → Option D} {ta tb : TE} {a b : M D} (hr : S2 c r f) (ha : SE c E ta a) (hb : SE c E tb b) : SE c E (tOp r ta tb) (op2 f a b) := by
  intro G0 H0 G H σ l pot rl Q post
  refine Sn.go ha rl post fun x dx p G1 H1 s1 r1 hx post1 => ?_
  refine Sn.go hb r1 post1 fun y dy p2 G2 H2 s2 r2 hy post2 => ?_
  exact post_op (t := r x y) r2 post2 fun d e => hr.run G2 H2 x y dx dy d r2.stp.gh r2.hp (At.mono s2.gg hx) hy e
theorem se_cb {r : List V → Hp → VK → Prop} {f : List D → Option D} {ta : TA} {a : M (List D)} (hr : SN c r f) (ha : SA c E ta a) : SE c E (tCB r ta) (opn f a) := by
  intro G0 H0 G H σ l pot rl Q post
  refine Sn.go ha rl post fun x dx p G1 H1 s1 r1 hx post1 => ?_
  exact post_op (t := r x) r1 post1 fun d e => hr.run G1 H1 x dx d r1.stp.gh r1.hp hx e
def anil : M (List D) := mret []
def acons (a : M D) (b : M (List D)) : M (List D) := mbind a fun x => mbind b fun ys => mret (x :: ys)
theorem sa_nil : SA c E tNil anil := fun G0 H0 G H σ l pot r Q post => Post.ok post r .nil
theorem sa_cons {te : TE} {t : TA} {a : M D} {b : M (List D)} (ha : SE c E te a) (hb : SA c E t b) : SA c E (tCons te t) (acons a b) := by
  intro G0 H0 G H σ l pot rl Q post
  refine Sn.go ha rl post fun x dx p G1 H1 s1 r1 hx post1 => ?_
  refine Sn.go hb r1 post1 fun ys dys p2 G2 H2 s2 r2 hy post2 => ?_
  exact Post.ok post2 r2 (.cons (At.mono s2.gg hx) hy)
def seqOf : D → Option (List D)
  | .lst ds => some ds
  | .tup ds => some ds
  | _ => none
theorem seq_at {P : Addr} {G : Hp} {x : V} {d : D} {ds : List D} (h : At P G x d) (e : seqOf d = some ds) : ∃ p vs, x = .ref p ∧ (G p = some (.lst vs) ∨ G p = some (.tup vs)) ∧ AtL P G vs ds := by
  cases h with
  | lst h a => cases e; exact ⟨_, _, rfl, .inl h, a⟩
  | tup h a => cases e; exact ⟨_, _, rfl, .inr h, a⟩
  | _ => cases e
theorem sqLT {K : PySem.W.Frag} {G H : Hp} {p : Addr} {vs : List V} (e : Ex G H) (h : G p = some (.lst vs) ∨ G p = some (.tup vs)) : SqL K H p vs ∨ SqT K H p vs := h.elim (fun z => .inl (.inl (.inl (e _ _ z)))) fun z => .inr (.inl (.inl (e _ _ z)))
def astar (a : M D) (b : M (List D)) : M (List D) := mbind a fun x => mbind (mlift (seqOf x)) fun ds => mbind b fun ys => mret (ds ++ ys)
theorem post_lift {α β : Type} {rel : Hp → α → β → Prop} {G0 H0 G H : Hp} {σ : St} {l : Loc} {pot : List Int} {γ : Type} {o : Option γ} {k : γ → M β} {Q : α → Hp → Prop} (post : Post c E rel G0 H0 G H σ l (mbind (mlift o) k l pot) Q) :
    ∃ g, o = some g ∧ Post c E rel G0 H0 G H σ l (k g l pot) Q := by
  cases o with
  | none => exact post.elim
  | some g => exact ⟨g, rfl, post⟩
theorem sa_star {te : TE} {t : TA} {a : M D} {b : M (List D)} (ha : SE c E te a) (hb : SA c E t b) : SA c E (StX.tStar c.K te t) (astar a b) := by
  intro G0 H0 G H σ l pot rl Q post
  refine Sn.go ha rl post fun x dx p G1 H1 s1 r1 hx post1 => ?_
  obtain ⟨ds, e, post2⟩ := post_lift post1
  obtain ⟨q, vs, rfl, h, a⟩ := seq_at hx e
  refine ⟨_, _, rfl, (sqLT r1.stp.gh h).symm, ?_⟩
  refine Sn.go hb r1 post2 fun ys dys p2 G2 H2 s2 r2 hy post2 => ?_
  exact Post.ok post2 r2 (AtL.append (AtL.mono s2.gg a) hy)

theorem ops_pure {t : Hp → VK → Prop} {G H : Hp} {d : D} {v : V} (gh : Ex G H) (a : At c.P G v d) (h : ∀ Q : VK, Q v H → t H Q) : OpS c t G H d := fun Q q => h Q (q v G H (Stp.refl gh) (fun _ _ => rfl) a)
theorem ops_new {t : Hp → VK → Prop} {G H : Hp} {d : D} (o : HO) (gh : Ex G H) (hP : (∀ a, c.B a → H a ≠ none)) (a : ∀ p, H p = none → At c.P (upd G p o) (.ref p) d) (h : ∀ Q : VK, (∀ p, H p = none → Q (.ref p) (upd H p o)) → t H Q) : OpS c t G H d := fun Q q =>
  h Q fun p hp => q _ _ _ (Stp.lay gh hp) (fun b hb => upd_ne (fun z => hP b hb (by rw [z]; exact hp))) (a p hp)
theorem at_new_l {P : Addr} {G H : Hp} {p : Addr} {vs : List V} {ds : List D} (gh : Ex G H) (h : H p = none) (a : AtL P G vs ds) : At P (upd G p (.lst vs)) (.ref p) (.lst ds) := .lst upd_same (AtL.mono (fun b o e => by rw [upd_ne (ne_of_none (gh b o e) h)]; exact e) a)
theorem at_new_t {P : Addr} {G H : Hp} {p : Addr} {vs : List V} {ds : List D} (gh : Ex G H) (h : H p = none) (a : AtL P G vs ds) : At P (upd G p (.tup vs)) (.ref p) (.tup ds) := .tup upd_same (AtL.mono (fun b o e => by rw [upd_ne (ne_of_none (gh b o e) h)]; exact e) a)
def fI (g : Int → Int → Option D) : D → D → Option D
  | .int i, .int j => g i j
  | _, _ => none
theorem fI_at {g : Int → Int → Option D} {P : Addr} {G : Hp} {x y : V} {dx dy d : D} (hx : At P G x dx) (hy : At P G y dy) (e : fI g dx dy = some d) : ∃ i j, x = .int i ∧ y = .int j ∧ g i j = some d := by
  cases hx with
  | int i =>
    cases hy with
    | int j => exact ⟨i, j, rfl, rfl, e⟩
    | _ => cases e
  | _ => cases e
def fAdd : D → D → Option D := fI fun i j => some (.int (i + j))
def fSub : D → D → Option D := fI fun i j => some (.int (i - j))
def fMul : D → D → Option D := fI fun i j => if i.natAbs < 18446744073709551616 ∨ j.natAbs < 18446744073709551616 then some (.int (i * j)) else none
def fDiv : D → D → Option D := fI fun i j => if 0 < j ∧ j.natAbs < 1073741824 then some (.int (i / j)) else none
def fMod : D → D → Option D := fI fun i j => if 0 < j then some (.int (i % j)) else none
def fPow : D → D → Option D := fI fun i j => if 0 ≤ j ∧ j.natAbs ≤ 1000000 ∧ i.natAbs < 18446744073709551616 then some (.int (i ^ j.toNat)) else none
def fLt : D → D → Option D := fI fun i j => some (.bl (decide (i < j)))
def fLe : D → D → Option D := fI fun i j => some (.bl (decide (i ≤ j)))
def fGt : D → D → Option D := fI fun i j => some (.bl (decide (j < i)))
def fGe : D → D → Option D := fI fun i j => some (.bl (decide (j ≤ i)))
theorem s2_add : S2 c (rI0 fun i j => .int (i + j)) fAdd := ⟨fun G H x y dx dy d gh _ hx hy e => by
  obtain ⟨i, j, rfl, rfl, e⟩ := fI_at hx hy e
  cases e
  exact ops_pure gh (.int _) fun Q q => ⟨i, j, rfl, rfl, q⟩⟩
theorem s2_sub : S2 c (rI0 fun i j => .int (i - j)) fSub := ⟨fun G H x y dx dy d gh _ hx hy e => by
  obtain ⟨i, j, rfl, rfl, e⟩ := fI_at hx hy e
  cases e
  exact ops_pure gh (.int _) fun Q q => ⟨i, j, rfl, rfl, q⟩⟩
theorem s2_mul : S2 c (rI CMul fun i j => .int (i * j)) fMul := ⟨fun G H x y dx dy d gh _ hx hy e => by
  obtain ⟨i, j, rfl, rfl, e⟩ := fI_at hx hy e
  split at e
  · rename_i z
    cases e
    exact ops_pure gh (.int _) fun Q q => ⟨i, j, rfl, rfl, (by unfold CMul; omega), q⟩
  · cases e⟩
theorem s2_div : S2 c (rI CDiv fun i j => .int (i / j)) fDiv := ⟨fun G H x y dx dy d gh _ hx hy e => by
  obtain ⟨i, j, rfl, rfl, e⟩ := fI_at hx hy e
  split at e
  · rename_i z
    cases e
    exact ops_pure gh (.int _) fun Q q => ⟨i, j, rfl, rfl, (by unfold CDiv; omega), q⟩
  · cases e⟩
theorem s2_mod : S2 c (rI (fun _ j => 0 < j) fun i j => .int (i % j)) fMod := ⟨fun G H x y dx dy d gh _ hx hy e => by
  obtain ⟨i, j, rfl, rfl, e⟩ := fI_at hx hy e
  split at e
  · rename_i z
    cases e
    exact ops_pure gh (.int _) fun Q q => ⟨i, j, rfl, rfl, z, q⟩
  · cases e⟩
theorem s2_pow : S2 c (rI CPow fun i j => .int (i ^ j.toNat)) fPow := ⟨fun G H x y dx dy d gh _ hx hy e => by
  obtain ⟨i, j, rfl, rfl, e⟩ := fI_at hx hy e
  split at e
  · rename_i z
    cases e
    exact ops_pure gh (.int _) fun Q q => ⟨i, j, rfl, rfl, (by unfold CPow; omega), q⟩
  · cases e⟩
theorem s2_lt : S2 c (rI0 fun i j => .bl (decide (i < j))) fLt := ⟨fun G H x y dx dy d gh _ hx hy e => by
  obtain ⟨i, j, rfl, rfl, e⟩ := fI_at hx hy e
  cases e
  exact ops_pure gh (.bl _) fun Q q => ⟨i, j, rfl, rfl, q⟩⟩
theorem s2_le : S2 c (rI0 fun i j => .bl (decide (i ≤ j))) fLe := ⟨fun G H x y dx dy d gh _ hx hy e => by
  obtain ⟨i, j, rfl, rfl, e⟩ := fI_at hx hy e
  cases e
  exact ops_pure gh (.bl _) fun Q q => ⟨i, j, rfl, rfl, q⟩⟩
theorem s2_gt : S2 c (rI0 fun i j => .bl (decide (j < i))) fGt := ⟨fun G H x y dx dy d gh _ hx hy e => by
  obtain ⟨i, j, rfl, rfl, e⟩ := fI_at hx hy e
  cases e
  exact ops_pure gh (.bl _) fun Q q => ⟨i, j, rfl, rfl, q⟩⟩
theorem s2_ge : S2 c (rI0 fun i j => .bl (decide (j ≤ i))) fGe := ⟨fun G H x y dx dy d gh _ hx hy e => by
  obtain ⟨i, j, rfl, rfl, e⟩ := fI_at hx hy e
  cases e
  exact ops_pure gh (.bl _) fun Q q => ⟨i, j, rfl, rfl, q⟩⟩
def fNeg : D → Option D
  | .int i => some (.int (-i))
  | _ => none
/-- == of the scalars -/
def sc : D → Option V
  | .non => some .non
  | .int i => some (.int i)
  | .str x => some (.str x)
  | .bl b => some (.bl b)
  | _ => none
theorem sc_at {P : Addr} {G : Hp} {x : V} {d : D} {v : V} (h : At P G x d) (e : sc d = some v) : x = v := by
  cases h with
  | non => cases e; rfl
  | bl b => cases e; rfl
  | int i => cases e; rfl
  | str s => cases e; rfl
  | _ => cases e
def fEq (a b : D) : Option D := match sc a, sc b with
  | some v, some w => if scal v w = true then some (.bl (decide (v = w))) else none
  | _, _ => none
def fNe (a b : D) : Option D := match sc a, sc b with
  | some v, some w => if scal v w = true then some (.bl (!decide (v = w))) else none
  | _, _ => none
theorem s2_eq : S2 c rEq fEq := ⟨fun G H x y dx dy d gh _ hx hy e => by
  unfold fEq at e
  split at e
  · rename_i v w e1 e2
    have q1 := sc_at hx e1
    have q2 := sc_at hy e2
    subst q1 q2
    split at e
    · rename_i z
      cases e
      exact ops_pure gh (.bl _) fun Q q => ⟨z, q⟩
    · cases e
  · cases e⟩
theorem s2_ne : S2 c rNe fNe := ⟨fun G H x y dx dy d gh _ hx hy e => by
  unfold fNe at e
  split at e
  · rename_i v w e1 e2
    have q1 := sc_at hx e1
    have q2 := sc_at hy e2
    subst q1 q2
    split at e
    · rename_i z
      cases e
      exact ops_pure gh (.bl _) fun Q q => ⟨z, q⟩
    · cases e
  · cases e⟩
def isNon : D → Bool
  | .non => true
  | _ => false
theorem isNon_at {P : Addr} {G : Hp} {x : V} {d : D} (h : At P G x d) : decide (x = .non) = isNon d := by
  cases h <;> rfl
def fIsN (a b : D) : Option D := if isNon b then some (.bl (isNon a)) else none
def fNotN (a b : D) : Option D := if isNon b then some (.bl (!isNon a)) else none
theorem s2_isN : S2 c (fun x y H Q => y = .non ∧ Q (.bl (decide (x = .non))) H) fIsN := ⟨fun G H x y dx dy d gh _ hx hy e => by
  unfold fIsN at e
  split at e
  · rename_i z
    cases e
    rw [← isNon_at hy] at z
    exact ops_pure gh (.bl _) fun Q q => ⟨of_decide_eq_true z, by rw [isNon_at hx]; exact q⟩
  · cases e⟩
theorem s2_notN : S2 c (fun x y H Q => y = .non ∧ Q (.bl (!decide (x = .non))) H) fNotN := ⟨fun G H x y dx dy d gh _ hx hy e => by
  unfold fNotN at e
  split at e
  · rename_i z
    cases e
    rw [← isNon_at hy] at z
    exact ops_pure gh (.bl _) fun Q q => ⟨of_decide_eq_true z, by rw [isNon_at hx]; exact q⟩
  · cases e⟩

def mand (a b : M Bool) : M Bool := mbind a fun x => if x = true then b else mret false
def mor (a b : M Bool) : M Bool := mbind a fun x => if x = true then mret true else b
def mnot (a : M Bool) : M Bool := mbind a fun x => mret (!x)
def mif {α : Type} (t : M Bool) (a b : M α) : M α := mbind t fun x => if x = true then a else b
def boolOf : D → Option Bool
  | .bl b => some b
  | _ => none
theorem bool_at {P : Addr} {G : Hp} {x : V} {d : D} {b : Bool} (h : At P G x d) (e : boolOf d = some b) : x = .bl b := by
  cases h with
  | bl b => cases e; rfl
  | _ => cases e
def mtest (a : M D) : M Bool := mbind a fun x => mlift (boolOf x)
theorem st_test {t : TE} {a : M D} (ha : SE c E t a) : ST c E (tTest t) (mtest a) := by
  intro G0 H0 G H σ l pot rl Q post
  refine Sn.go ha rl post fun x dx p G1 H1 s1 r1 hx post1 => ?_
  cases e : boolOf dx with
  | none => rw [e] at post1; exact post1.elim
  | some b =>
    rw [e] at post1
    exact ⟨b, bool_at hx e, Post.ok post1 r1 rfl⟩
theorem st_and {t u : TT} {a b : M Bool} (ha : ST c E t a) (hb : ST c E u b) : ST c E (tAnd t u) (mand a b) := by
  intro G0 H0 G H σ l pot rl Q post
  refine Sn.go ha rl post fun x dx p G1 H1 s1 r1 hx post1 => ?_
  subst hx
  cases x with
  | true => rw [if_pos rfl]; exact hb _ _ _ _ _ _ _ r1 Q post1
  | false => rw [if_neg Bool.false_ne_true]; exact Post.ok post1 r1 rfl
theorem st_or {t u : TT} {a b : M Bool} (ha : ST c E t a) (hb : ST c E u b) : ST c E (tOr t u) (mor a b) := by
  intro G0 H0 G H σ l pot rl Q post
  refine Sn.go ha rl post fun x dx p G1 H1 s1 r1 hx post1 => ?_
  subst hx
  cases x with
  | true => rw [if_pos rfl]; exact Post.ok post1 r1 rfl
  | false => rw [if_neg Bool.false_ne_true]; exact hb _ _ _ _ _ _ _ r1 Q post1
theorem st_not {t : TT} {a : M Bool} (ha : ST c E t a) : ST c E (tNot t) (mnot a) := by
  intro G0 H0 G H σ l pot rl Q post
  refine Sn.go ha rl post fun x dx p G1 H1 s1 r1 hx post1 => ?_
  subst hx
  exact Post.ok post1 r1 rfl
def vand (a b : M D) : M D := mbind (mtest a) fun x => if x = true then b else mret (.bl false)
def vor (a b : M D) : M D := mbind (mtest a) fun x => if x = true then mret (.bl true) else b
def vnot (a : M D) : M D := mbind (mtest a) fun x => mret (.bl (!x))
theorem se_and {ta tb : TE} {a b : M D} (ha : SE c E ta a) (hb : SE c E tb b) : SE c E (tAndV ta tb) (vand a b) := by
  intro G0 H0 G H σ l pot rl Q post
  refine Sn.go (X := fun x H1 => ∃ c, x = .bl c ∧ if c = true then tb σ H1 Q else Q (.bl false) H1) ha rl (k := fun x => mbind (mlift (boolOf x)) fun x => if x = true then b else mret (.bl false)) (by unfold vand mtest at post; unfold mbind at post ⊢; cases e : a l pot <;> simp only [e, R.bind] at post ⊢ <;> exact post) fun x dx p G1 H1 s1 r1 hx post1 => ?_
  obtain ⟨k, e, post2⟩ := post_lift post1
  refine ⟨k, bool_at hx e, ?_⟩
  cases k with
  | true => rw [if_pos rfl]; exact hb _ _ _ _ _ _ _ r1 Q post2
  | false => rw [if_neg Bool.false_ne_true]; exact Post.ok post2 r1 (.bl false)
theorem se_or {ta tb : TE} {a b : M D} (ha : SE c E ta a) (hb : SE c E tb b) : SE c E (tOrV ta tb) (vor a b) := by
  intro G0 H0 G H σ l pot rl Q post
  refine Sn.go (X := fun x H1 => ∃ c, x = .bl c ∧ if c = true then Q (.bl true) H1 else tb σ H1 Q) ha rl (k := fun x => mbind (mlift (boolOf x)) fun x => if x = true then mret (.bl true) else b) (by unfold vor mtest at post; unfold mbind at post ⊢; cases e : a l pot <;> simp only [e, R.bind] at post ⊢ <;> exact post) fun x dx p G1 H1 s1 r1 hx post1 => ?_
  obtain ⟨k, e, post2⟩ := post_lift post1
  refine ⟨k, bool_at hx e, ?_⟩
  cases k with
  | true => rw [if_pos rfl]; exact Post.ok post2 r1 (.bl true)
  | false => rw [if_neg Bool.false_ne_true]; exact hb _ _ _ _ _ _ _ r1 Q post2
theorem se_not {ta : TE} {a : M D} (ha : SE c E ta a) : SE c E (tNotV ta) (vnot a) := by
  intro G0 H0 G H σ l pot rl Q post
  refine Sn.go (β := D) (rel := rD c) (Q := Q) (X := fun x H1 => ∃ c, x = V.bl c ∧ Q (V.bl (!c)) H1) ha rl (k := fun x => mbind (mlift (boolOf x)) fun x => mret (D.bl (!x))) (by unfold vnot mtest at post; unfold mbind at post ⊢; cases e : a l pot <;> simp only [e, R.bind] at post ⊢ <;> exact post) fun x dx p G1 H1 s1 r1 hx post1 => ?_
  obtain ⟨k, e, post2⟩ := post_lift post1
  exact ⟨k, bool_at hx e, Post.ok post2 r1 (.bl _)⟩
theorem se_if {t : TT} {ta tb : TE} {q : M Bool} {a b : M D} (hq : ST c E t q) (ha : SE c E ta a) (hb : SE c E tb b) : SE c E (tIf t ta tb) (mif q a b) := by
  intro G0 H0 G H σ l pot rl Q post
  refine Sn.go hq rl post fun x dx p G1 H1 s1 r1 hx post1 => ?_
  subst hx
  cases x with
  | true => rw [if_pos rfl]; exact ha _ _ _ _ _ _ _ r1 Q post1
  | false => rw [if_neg Bool.false_ne_true]; exact hb _ _ _ _ _ _ _ r1 Q post1
/-- truth -/
def truOf : D → Option Bool
  | .non => some false
  | .bl b => some b
  | .int i => some (i != 0)
  | .lst ds => some (!ds.isEmpty)
  | .tup ds => some (!ds.isEmpty)
  | _ => none
theorem isEmpty_at {P : Addr} {G : Hp} {vs : List V} {ds : List D} (a : AtL P G vs ds) : vs.isEmpty = ds.isEmpty := by
  cases a <;> rfl
theorem tru_at {K : PySem.W.Frag} {P : Addr} {G H : Hp} {x : V} {d : D} {b : Bool} (gh : Ex G H) (h : At P G x d) (e : truOf d = some b) : TruV K x H b := by
  cases h with
  | non => cases e; rfl
  | bl b => cases e; rfl
  | int i => cases e; rfl
  | lst h a => cases e; exact .inl ⟨_, .inl (.inl (gh _ _ h)), by rw [isEmpty_at a]⟩
  | tup h a => cases e; exact .inr (.inl ⟨_, .inl (.inl (gh _ _ h)), by rw [isEmpty_at a]⟩)
  | _ => cases e
def mtru (a : M D) : M Bool := mbind a fun x => mlift (truOf x)
theorem st_tru {t : TE} {a : M D} (ha : SE c E t a) : ST c E (fun σ H Q => t σ H fun x H' => ∃ k, TruV c.K x H' k ∧ Q k H') (mtru a) := by
  intro G0 H0 G H σ l pot rl Q post
  refine Sn.go ha rl post fun x dx p G1 H1 s1 r1 hx post1 => ?_
  cases e : truOf dx with
  | none => rw [e] at post1; exact post1.elim
  | some b =>
    rw [e] at post1
    exact ⟨b, tru_at r1.stp.gh hx e, Post.ok post1 r1 rfl⟩

def rLenS (K : PySem.W.Frag) : List V → Hp → VK → Prop := fun xs H Q => ∃ p ys, xs = [.ref p] ∧ (SqL K H p ys ∨ SqT K H p ys) ∧ Q (.int ys.length) H
def fLen : List D → Option D
  | [.lst ds] => some (.int ds.length)
  | [.tup ds] => some (.int ds.length)
  | _ => none
theorem sn_len : SN c (rLenS c.K) fLen := ⟨fun G H xs ds d gh _ hx e => by
  cases hx with
  | nil => cases e
  | cons h t =>
    cases h with
    | lst h a =>
      cases t with
      | nil => cases e; exact ops_pure gh (.int _) fun Q q => ⟨_, _, rfl, .inl (.inl (.inl (gh _ _ h))), by rw [AtL.length a]; exact q⟩
      | cons _ _ => cases e
    | tup h a =>
      cases t with
      | nil => cases e; exact ops_pure gh (.int _) fun Q q => ⟨_, _, rfl, .inr (.inl (.inl (gh _ _ h))), by rw [AtL.length a]; exact q⟩
      | cons _ _ => cases e
    | _ => cases e⟩
theorem atl1 {P : Addr} {G : Hp} {xs : List V} {d : D} (h : AtL P G xs [d]) : ∃ x, xs = [x] ∧ At P G x d := by
  cases h with
  | cons h t => cases t; exact ⟨_, rfl, h⟩
theorem atl2 {P : Addr} {G : Hp} {xs : List V} {d e : D} (h : AtL P G xs [d, e]) : ∃ x y, xs = [x, y] ∧ At P G x d ∧ At P G y e := by
  cases h with
  | cons h t => obtain ⟨y, rfl, hy⟩ := atl1 t; exact ⟨_, _, rfl, h, hy⟩
theorem at_int {P : Addr} {G : Hp} {x : V} {i : Int} (h : At P G x (.int i)) : x = .int i := by cases h; rfl
theorem at_bl {P : Addr} {G : Hp} {x : V} {i : Bool} (h : At P G x (.bl i)) : x = .bl i := by cases h; rfl
theorem at_lst {P : Addr} {G : Hp} {x : V} {ds : List D} (h : At P G x (.lst ds)) : ∃ p vs, x = .ref p ∧ G p = some (.lst vs) ∧ AtL P G vs ds := by cases h; exact ⟨_, _, rfl, by assumption, by assumption⟩
theorem at_tup {P : Addr} {G : Hp} {x : V} {ds : List D} (h : At P G x (.tup ds)) : ∃ p vs, x = .ref p ∧ G p = some (.tup vs) ∧ AtL P G vs ds := by cases h; exact ⟨_, _, rfl, by assumption, by assumption⟩
def fMax2 : List D → Option D
  | [.int i, .int j] => some (.int (if j > i then j else i))
  | _ => none
def fMin2 : List D → Option D
  | [.int i, .int j] => some (.int (if j < i then j else i))
  | _ => none
theorem sn_max2 : SN c (fun xs H Q => ∃ i j, xs = [.int i, .int j] ∧ Q (.int (if j > i then j else i)) H) fMax2 := ⟨fun G H xs ds d gh _ hx e => by
  unfold fMax2 at e
  split at e
  · obtain ⟨x, y, rfl, hx, hy⟩ := atl2 hx
    rw [at_int hx, at_int hy]
    cases e
    exact ops_pure gh (.int _) fun Q q => ⟨_, _, rfl, q⟩
  · cases e⟩
theorem sn_min2 : SN c (fun xs H Q => ∃ i j, xs = [.int i, .int j] ∧ Q (.int (if j < i then j else i)) H) fMin2 := ⟨fun G H xs ds d gh _ hx e => by
  unfold fMin2 at e
  split at e
  · obtain ⟨x, y, rfl, hx, hy⟩ := atl2 hx
    rw [at_int hx, at_int hy]
    cases e
    exact ops_pure gh (.int _) fun Q q => ⟨_, _, rfl, q⟩
  · cases e⟩
def fAbs : List D → Option D
  | [.int i] => some (.int (if i < 0 then -i else i))
  | _ => none
def fInt : List D → Option D
  | [.int i] => some (.int i)
  | [.bl b] => some (.int (if b then 1 else 0))
  | _ => none
theorem sn_int : SN c (fun xs H Q => (∃ i, xs = [.int i] ∧ Q (.int i) H) ∨ ∃ k, xs = [.bl k] ∧ Q (.int (if k then 1 else 0)) H) fInt := ⟨fun G H xs ds d gh _ hx e => by
  unfold fInt at e
  split at e
  · obtain ⟨x, rfl, hx1⟩ := atl1 hx
    rw [at_int hx1]
    cases e
    exact ops_pure gh (.int _) fun Q q => .inl ⟨_, rfl, q⟩
  · obtain ⟨x, rfl, hx1⟩ := atl1 hx
    rw [at_bl hx1]
    cases e
    exact ops_pure gh (.int _) fun Q q => .inr ⟨_, rfl, q⟩
  · cases e⟩
def fTuple : List D → Option D
  | [.lst ds] => some (.tup ds)
  | [.tup ds] => some (.tup ds)
  | _ => none
theorem sn_tuple : SN c (fun xs H Q => ∃ p ys, xs = [.ref p] ∧ ((SqL c.K H p ys ∧ ∀ l, H l = none → Q (.ref l) (upd H l (.tup ys))) ∨ (SqT c.K H p ys ∧ Q (.ref p) H))) fTuple := ⟨fun G H xs ds d gh hP hx e => by
  unfold fTuple at e
  split at e
  · obtain ⟨x, rfl, hx1⟩ := atl1 hx
    obtain ⟨p, vs, rfl, h, a⟩ := at_lst hx1
    cases e
    exact ops_new _ gh hP (fun q hq => at_new_t gh hq a) fun Q k => ⟨p, vs, rfl, .inl ⟨.inl (.inl (gh _ _ h)), k⟩⟩
  · obtain ⟨x, rfl, hx1⟩ := atl1 hx
    obtain ⟨p, vs, rfl, h, a⟩ := at_tup hx1
    cases e
    exact ops_pure gh (.tup h a) fun Q k => ⟨p, vs, rfl, .inr ⟨.inl (.inl (gh _ _ h)), k⟩⟩
  · cases e⟩
/-- the ints of a list -/
def intsOf : List D → Option (List Int)
  | [] => some []
  | .int i :: ds => (intsOf ds).map (i :: ·)
  | _ :: _ => none
theorem ints_at {P : Addr} {G : Hp} : ∀ {vs : List V} {ds : List D} {ns : List Int}, AtL P G vs ds → intsOf ds = some ns → vs = ns.map V.int
  | _, [], _, h, e => by cases h; cases e; rfl
  | _, d :: ds, ns, h, e => by
    cases h with
    | cons h t =>
      unfold intsOf at e
      split at e
      · cases ‹_ :: _ = []›
      · rename_i i ds' q
        cases q
        cases h
        cases e1 : intsOf ds with
        | none => rw [e1] at e; cases e
        | some ms => rw [e1] at e; cases e; rw [ints_at t e1]; rfl
      · cases e
def minL : Int → List Int → Int
  | m, [] => m
  | m, n :: ns => minL (if n < m then n else m) ns
def maxL : Int → List Int → Int
  | m, [] => m
  | m, n :: ns => maxL (if m < n then n else m) ns
theorem minL_le : ∀ (ns : List Int) (m : Int), minL m ns ≤ m ∧ ∀ y ∈ ns, minL m ns ≤ y
  | [], m => ⟨Int.le_refl _, fun _ h => nomatch h⟩
  | n :: ns, m => by
    obtain ⟨h1, h2⟩ := minL_le ns (if n < m then n else m)
    unfold minL
    refine ⟨?_, fun y hy => ?_⟩
    · split at h1 <;> rename_i z
      · rw [if_pos z] at *; omega
      · rw [if_neg z] at *; omega
    · rcases List.mem_cons.mp hy with rfl | hy
      · split at h1 <;> rename_i z
        · rw [if_pos z] at *; omega
        · rw [if_neg z] at *; omega
      · exact h2 y hy
theorem minL_mem : ∀ (ns : List Int) (m : Int), minL m ns ∈ m :: ns
  | [], m => List.mem_cons_self
  | n :: ns, m => by
    have h := minL_mem ns (if n < m then n else m)
    unfold minL
    split at h
    · rename_i z
      rw [if_pos z]
      exact List.mem_cons_of_mem _ h
    · rename_i z
      rw [if_neg z]
      rcases List.mem_cons.mp h with e | h
      · rw [e]; exact List.mem_cons_self
      · exact List.mem_cons_of_mem _ (List.mem_cons_of_mem _ h)
theorem le_maxL : ∀ (ns : List Int) (m : Int), m ≤ maxL m ns ∧ ∀ y ∈ ns, y ≤ maxL m ns
  | [], m => ⟨Int.le_refl _, fun _ h => nomatch h⟩
  | n :: ns, m => by
    obtain ⟨h1, h2⟩ := le_maxL ns (if m < n then n else m)
    unfold maxL
    refine ⟨?_, fun y hy => ?_⟩
    · split at h1 <;> rename_i z
      · rw [if_pos z] at *; omega
      · rw [if_neg z] at *; omega
    · rcases List.mem_cons.mp hy with rfl | hy
      · split at h1 <;> rename_i z
        · rw [if_pos z] at *; omega
        · rw [if_neg z] at *; omega
      · exact h2 y hy
theorem maxL_mem : ∀ (ns : List Int) (m : Int), maxL m ns ∈ m :: ns
  | [], m => List.mem_cons_self
  | n :: ns, m => by
    have h := maxL_mem ns (if m < n then n else m)
    unfold maxL
    split at h
    · rename_i z
      rw [if_pos z]
      exact List.mem_cons_of_mem _ h
    · rename_i z
      rw [if_neg z]
      rcases List.mem_cons.mp h with e | h
      · rw [e]; exact List.mem_cons_self
      · exact List.mem_cons_of_mem _ (List.mem_cons_of_mem _ h)
def leastOf : List Int → Option D
  | [] => none
  | n :: ns => some (.int (minL n ns))
def mostOf : List Int → Option D
  | [] => none
  | n :: ns => some (.int (maxL n ns))
def fMinL : List D → Option D
  | [.lst ds] => (intsOf ds).bind leastOf
  | _ => none
def fMaxL : List D → Option D
  | [.lst ds] => (intsOf ds).bind mostOf
  | _ => none
theorem sn_minL : SN c (rMin c.K) fMinL := ⟨fun G H xs ds d gh _ hx e => by
  unfold fMinL at e
  split at e
  · obtain ⟨x, rfl, hx1⟩ := atl1 hx
    obtain ⟨p, vs, rfl, h, a⟩ := at_lst hx1
    rename_i es
    cases e1 : intsOf es with
    | none => rw [e1] at e; cases e
    | some ns =>
      rw [e1] at e
      have ev := ints_at a e1
      subst ev
      cases ns with
      | nil => cases e
      | cons n ns =>
        cases e
        refine ops_pure gh (.int _) fun Q q => ⟨p, n :: ns, rfl, .inl (.inl (gh _ _ h)), Nat.succ_pos _, fun m hm hl => ?_⟩
        have h1 := hl _ (minL_mem ns n)
        have h2 : minL n ns ≤ m := by
          rcases List.mem_cons.mp hm with rfl | hm
          · exact (minL_le ns m).1
          · exact (minL_le ns n).2 m hm
        rw [Int.le_antisymm h1 h2]
        exact q
  · cases e⟩
theorem sn_maxL : SN c (rMax c.K) fMaxL := ⟨fun G H xs ds d gh _ hx e => by
  unfold fMaxL at e
  split at e
  · obtain ⟨x, rfl, hx1⟩ := atl1 hx
    obtain ⟨p, vs, rfl, h, a⟩ := at_lst hx1
    rename_i es
    cases e1 : intsOf es with
    | none => rw [e1] at e; cases e
    | some ns =>
      rw [e1] at e
      have ev := ints_at a e1
      subst ev
      cases ns with
      | nil => cases e
      | cons n ns =>
        cases e
        refine ops_pure gh (.int _) fun Q q => ⟨p, n :: ns, rfl, .inl (.inl (gh _ _ h)), Nat.succ_pos _, fun m hm hl => ?_⟩
        have h1 := hl _ (maxL_mem ns n)
        have h2 : m ≤ maxL n ns := by
          rcases List.mem_cons.mp hm with rfl | hm
          · exact (le_maxL ns m).1
          · exact (le_maxL ns n).2 m hm
        rw [Int.le_antisymm h2 h1]
        exact q
  · cases e⟩
end
end Den
namespace Den
open PySem L2
section
variable {c : Cfg} {E : St → XK}
theorem atI_at {P : Addr} {G : Hp} {vs : List V} {ds : List D} {i : Int} {d : D} (a : AtL P G vs ds) (e : atI ds i = some d) : ∃ v, atI vs i = some v ∧ At P G v d := by
  unfold atI at e ⊢
  rw [AtL.length a]
  cases e1 : ixN ds.length i with
  | none => rw [e1] at e; cases e
  | some j =>
    rw [e1] at e
    exact AtL.get a e
def fIx : D → D → Option D
  | .lst ds, .int i => atI ds i
  | .tup ds, .int i => atI ds i
  | _, _ => none
theorem s2_ix : S2 c (rIx c.K) fIx := ⟨fun G H x y dx dy d gh _ hx hy e => by
  unfold fIx at e
  split at e
  · obtain ⟨p, vs, rfl, h, a⟩ := at_lst hx
    obtain ⟨v, e1, av⟩ := atI_at a e
    rw [at_int hy]
    exact ops_pure gh av fun Q q => .inl ⟨p, vs, _, v, rfl, rfl, .inl (.inl (gh _ _ h)), e1, q⟩
  · obtain ⟨p, vs, rfl, h, a⟩ := at_tup hx
    obtain ⟨v, e1, av⟩ := atI_at a e
    rw [at_int hy]
    exact ops_pure gh av fun Q q => .inr (.inl ⟨p, vs, _, v, rfl, rfl, .inl (.inl (gh _ _ h)), e1, q⟩)
  · cases e⟩
def scL : List D → Option (List V)
  | [] => some []
  | d :: ds => match sc d, scL ds with
    | some v, some vs => some (v :: vs)
    | _, _ => none
theorem sc_flat {d : D} {v : V} (e : sc d = some v) : flatV v = true := by
  cases d <;> first | (cases e; rfl) | cases e
theorem scL_at {P : Addr} {G : Hp} : ∀ {vs : List V} {ds : List D} {ws : List V}, AtL P G vs ds → scL ds = some ws → vs = ws ∧ ws.all flatV = true
  | _, [], _, .nil, e => by cases e; exact ⟨rfl, rfl⟩
  | _, d :: ds, ws, .cons h t, e => by
    unfold scL at e
    split at e
    · rename_i v vs e1 e2
      cases e
      obtain ⟨q1, q2⟩ := scL_at t e2
      refine ⟨by rw [sc_at h e1, q1], ?_⟩
      rw [List.all_cons, sc_flat e1, q2]
      rfl
    · cases e
def fInB (neg : Bool) (x y : D) : Option D := match sc x, (seqOf y).bind scL with
  | some v, some vs => some (.bl (if neg then !inV v vs else inV v vs))
  | _, _ => none
theorem s2_in {neg : Bool} : S2 c (rIn c.K neg) (fInB neg) := ⟨fun G H x y dx dy d gh _ hx hy e => by
  unfold fInB at e
  split at e
  · rename_i v vs e1 e2
    cases e
    cases e3 : seqOf dy with
    | none => rw [e3] at e2; cases e2
    | some ds =>
      rw [e3] at e2
      obtain ⟨p, ws, rfl, h, a⟩ := seq_at hy e3
      obtain ⟨q1, q2⟩ := scL_at a e2
      subst q1
      rw [sc_at hx e1]
      exact ops_pure gh (.bl _) fun Q q => ⟨p, ws, rfl, sqLT gh h, sc_flat e1, q2, q⟩
  · cases e⟩

def PostN (c : Cfg) (E : St → XK) (G0 H0 G H : Hp) (σ : St) (l : Loc) : R (List D) → VK → Prop
  | .ok ds p, Q => ∀ q vs G' H', Stp c.B G H G' H' → Rel c G0 H0 G' H' σ l p → H' q = some (.lst vs) → AtL c.P G' vs ds → G' q = none → H q = none → Q (.ref q) H'
  | .err n p, _ => ∀ G' H', Ex G G' → Rel c G0 H0 G' H' σ l p → E σ (.ref (c.ec n)) none H'
  | .bad, _ => False
/-- an expression that makes a new list -/
def SEN (c : Cfg) (E : St → XK) (t : TE) (e : M (List D)) : Prop :=
  ∀ G0 H0 G H σ l pot, Rel c G0 H0 G H σ l pot → ∀ Q : VK, PostN c E G0 H0 G H σ l (e l pot) Q → t σ H Q
theorem PostN.mono {G0 H0 G H G' H' : Hp} {σ : St} {l : Loc} {r : R (List D)} {Q : VK} (p : PostN c E G0 H0 G H σ l r Q) (s : Stp c.B G H G' H') : PostN c E G0 H0 G' H' σ l r Q := by
  cases r with
  | ok b q => exact fun a vs G2 H2 s2 r2 h1 h2 h3 h4 => p a vs G2 H2 (s.trans s2) r2 h1 h2 h3 (s.there _ h4)
  | err n q => exact fun G2 H2 e2 r2 => p G2 H2 (s.gg.trans e2) r2
  | bad => exact p
theorem Sn.goN {γ δ : Type} {rel' : Hp → γ → δ → Prop} {G0 H0 G H : Hp} {σ : St} {l : Loc} {pot : List Int} {t1 : St → Hp → (γ → Hp → Prop) → Prop} {e1 : M δ} (h1 : Sn c E rel' t1 e1) (r : Rel c G0 H0 G H σ l pot) {k : δ → M (List D)} {Q : VK} {X : γ → Hp → Prop}
    (post : PostN c E G0 H0 G H σ l (mbind e1 k l pot) Q)
    (h2 : ∀ a b p G' H', Stp c.B G H G' H' → Rel c G0 H0 G' H' σ l p → rel' G' a b → PostN c E G0 H0 G' H' σ l (k b l p) Q → X a H') : t1 σ H X := by
  refine h1 G0 H0 G H σ l pot r _ ?_
  unfold mbind at post
  cases e : e1 l pot with
  | ok b p =>
    rw [e] at post
    exact fun a G' H' s r' ra => h2 a b p G' H' s r' ra (PostN.mono post s)
  | err n p =>
    rw [e] at post
    exact post
  | bad =>
    rw [e] at post
    exact post
theorem Rel.freeze {G0 H0 G H : Hp} {σ : St} {l : Loc} {pot : List Int} {q : Addr} {o : HO} (r : Rel c G0 H0 G H σ l pot) (h : H q = some o) (hq : H0 q = none) (hP : ¬ c.B q) (nc : ∀ (i : Nat) (x : L), l[i]? = some (some x) → owned x = true → σ[i]? ≠ some (some (.ref q))) :
    G q = none → Rel c G0 H0 (upd G q o) H σ l pot := by
  intro hG
  have eg : Ex G (upd G q o) := Ex.new hG
  refine ⟨⟨r.stp.gg.trans eg, fun a u e => ?_, r.stp.keep, r.stp.there, fun a u e => ?_⟩, r.pot, ?_, r.hP, r.len, fun i x e => ?_, r.dist⟩
  · by_cases z : a = q
    · subst z; rw [upd_same] at e; cases e; exact h
    · rw [upd_ne z] at e; exact r.stp.gh a u e
  · by_cases z : a = q
    · subst z; exact .inr hq
    · rw [upd_ne z] at e; exact r.stp.new a u e
  · intro a b; rw [upd_ne (fun z => hP (by rw [← z]; exact b))]; exact r.gP a b
  · have a := r.slot i x e
    have ne := nc i x e
    match ho : σ[i]?, x, a with
    | some (some v), .dat d, a => exact At.mono eg a
    | some (some (.ref p)), .cell ds, ⟨vs, h1, h2, h3, h4⟩ =>
      have np : p ≠ q := fun z => ne rfl (by rw [ho, z])
      exact ⟨vs, h1, AtL.mono eg h2, by rw [upd_ne np]; exact h3, h4⟩
    | some (some (.ref p)), .obj ea C ns ds, ⟨hea, vs, dx, h1, h2, h3, h4, h5⟩ =>
      have np : p ≠ q := fun z => ne rfl (by rw [ho, z])
      exact ⟨hea, vs, dx, h1, AtL.mono eg h2, by rw [upd_ne np]; exact h3, h4, h5⟩
/-- no own slot is at an address that is free -/
theorem Rel.own_ne {G0 H0 G H : Hp} {σ : St} {l : Loc} {pot : List Int} {q : Addr} (r : Rel c G0 H0 G H σ l pot) (h : H q = none) : ∀ (i : Nat) (x : L), l[i]? = some (some x) → owned x = true → σ[i]? ≠ some (some (.ref q)) := fun i x e ho z => by
  have a := r.slot i x e
  rw [z] at a
  cases x with
  | dat d => cases ho
  | cell ds => obtain ⟨vs, h1, _⟩ := a; rw [h] at h1; cases h1
  | obj ea C ns ds => obtain ⟨_, vs, dx, h1, _⟩ := a; rw [h] at h1; cases h1
def mfreeze (a : M (List D)) : M D := mbind a fun ds => mret (.lst ds)
theorem se_new {t : TE} {e : M (List D)} (h : SEN c E t e) : SE c E t (mfreeze e) := by
  intro G0 H0 G H σ l pot r Q post
  refine h G0 H0 G H σ l pot r Q ?_
  unfold mfreeze mbind at post
  cases e1 : e l pot with
  | bad => rw [e1] at post; exact post
  | err n p => rw [e1] at post; exact post
  | ok ds p =>
    rw [e1] at post
    intro q vs G' H' s r' h1 h2 h3 h4
    have h0 : H0 q = none := r.stp.there q h4
    have hP : ¬ c.B q := fun z => r.hP q z h0
    have r2 : Rel c G0 H0 (upd G' q (.lst vs)) H' σ l p := Rel.freeze r' h1 h0 hP (fun i x e ho => r.own_ne h4 i x e ho) h3
    exact post (.ref q) _ H' ⟨s.gg.trans (Ex.new h3), r2.stp.gh, s.keep, s.there, fun a u e => by
      by_cases z : a = q
      · subst z; exact .inr h4
      · rw [upd_ne z] at e; exact s.new a u e⟩ r2 (.lst upd_same (AtL.mono (Ex.new h3) h2))

/-- a list display, a tuple display -/
def mshort (a : M (List D)) : M (List D) := mbind a fun ds => if ds.length ≤ 1000 then mret ds else fun _ _ => .bad
def mtupd (a : M (List D)) : M D := mbind (mshort a) fun ds => mret (.tup ds)
theorem sz1000 {n : Nat} (h : n ≤ 1000) : n ≤ sizeLine := Nat.le_trans h (by decide)
theorem sen_of {G0 H0 G H : Hp} {σ : St} {l : Loc} {pot : List Int} {vs : List V} {ds : List D} {Q : VK} (r : Rel c G0 H0 G H σ l pot) (a : AtL c.P G vs ds) (post : PostN c E G0 H0 G H σ l (.ok ds pot) Q) (p : Addr) (hp : H p = none) : Q (.ref p) (upd H p (.lst vs)) := by
  have s : Stp c.B G H G (upd H p (.lst vs)) := Stp.lay0 r.stp.gh hp
  have hP : ∀ a, c.B a → a ≠ p := fun a b z => r.hp a b (by rw [z]; exact hp)
  have hG : G p = none := by
    cases e : G p with
    | none => rfl
    | some u => have := r.stp.gh p u e; rw [hp] at this; cases this
  exact post p vs G _ s (r.same s fun a b => upd_ne (hP a b)) upd_same a hG hp
theorem sen_lst {t : TA} {a : M (List D)} (ha : SA c E t a) : SEN c E (tLst t) (mshort a) := by
  intro G0 H0 G H σ l pot r Q post
  refine Sn.goN ha r post fun x dx p G1 H1 s1 r1 hx post1 => ?_
  split at post1
  · rename_i z
    exact ⟨by rw [AtL.length hx]; exact sz1000 z, sen_of r1 hx post1⟩
  · exact post1.elim
theorem se_tup {t : TA} {a : M (List D)} (ha : SA c E t a) : SE c E (tTup t) (mtupd a) := by
  intro G0 H0 G H σ l pot r Q post
  refine Sn.go (β := D) (rel := rD c) (Q := Q) ha r (k := fun ds => mbind (if ds.length ≤ 1000 then mret ds else fun _ _ => .bad) fun ds => mret (D.tup ds)) (by unfold mtupd mshort at post; unfold mbind at post ⊢; cases e : a l pot <;> simp only [e, R.bind] at post ⊢ <;> exact post) fun x dx p G1 H1 s1 r1 hx post1 => ?_
  split at post1
  · rename_i z
    refine ⟨by rw [AtL.length hx]; exact sz1000 z, fun q hq => ?_⟩
    have s : Stp c.B G1 H1 (upd G1 q (.tup x)) (upd H1 q (.tup x)) := Stp.lay r1.stp.gh hq
    have hP : ∀ a, c.B a → a ≠ q := fun a b z => r1.hp a b (by rw [z]; exact hq)
    exact post1 _ _ _ s (r1.same s fun a b => upd_ne (hP a b)) (at_new_t r1.stp.gh hq hx)
  · exact post1.elim
/-- list(x), new -/
def fSeq1 : List D → Option (List D)
  | [d] => seqOf d
  | _ => none
def mlistN (a : M (List D)) : M (List D) := mbind a fun ds => mlift (fSeq1 ds)
theorem sen_list {t : TA} {a : M (List D)} (ha : SA c E t a) : SEN c E (tCB (fun xs H Q => ∃ p ys, xs = [.ref p] ∧ (SqL c.K H p ys ∨ SqT c.K H p ys) ∧ ∀ l, H l = none → Q (.ref l) (upd H l (.lst ys))) t) (mlistN a) := by
  intro G0 H0 G H σ l pot r Q post
  refine Sn.goN ha r post fun x dx p G1 H1 s1 r1 hx post1 => ?_
  cases e : fSeq1 dx with
  | none => rw [e] at post1; exact post1.elim
  | some es =>
    rw [e] at post1
    unfold fSeq1 at e
    split at e
    · obtain ⟨y, rfl, hy⟩ := atl1 hx
      obtain ⟨q, vs, rfl, h, a⟩ := seq_at hy e
      exact ⟨q, vs, rfl, sqLT r1.stp.gh h, sen_of r1 a post1⟩
    · cases e
/-- xs + ys of lists; xs * k -/
def fCat : D → D → Option D
  | .lst a, .lst b => if a.length + b.length ≤ 1000 then some (.lst (a ++ b)) else none
  | _, _ => none
theorem s2_cat : S2 c rCat fCat := ⟨fun G H x y dx dy d gh hP hx hy e => by
  unfold fCat at e
  split at e
  · split at e
    · rename_i z
      obtain ⟨p, vs, rfl, h, a⟩ := at_lst hx
      obtain ⟨q, ws, rfl, h', b⟩ := at_lst hy
      cases e
      exact ops_new _ gh hP (fun u hu => at_new_l gh hu (AtL.append a b)) fun Q k => ⟨p, q, vs, ws, rfl, rfl, gh _ _ h, gh _ _ h', by rw [AtL.length a, AtL.length b]; exact sz1000 z, k⟩
    · cases e
  · cases e⟩
def fRep : D → D → Option D
  | .lst [d], .int k => if 0 ≤ k ∧ k ≤ 1000 then some (.lst (List.replicate k.toNat d)) else none
  | _, _ => none
theorem atl_rep {P : Addr} {G : Hp} {v : V} {d : D} (h : At P G v d) : ∀ n, AtL P G (List.replicate n v) (List.replicate n d)
  | 0 => .nil
  | n + 1 => .cons h (atl_rep h n)
theorem rep_flat {α : Type} (v : α) : ∀ n, (List.replicate n [v]).flatten = List.replicate n v
  | 0 => rfl
  | n + 1 => by rw [List.replicate_succ, List.flatten_cons, rep_flat v n]; rfl
theorem s2_rep : S2 c rRep fRep := ⟨fun G H x y dx dy d gh hP hx hy e => by
  unfold fRep at e
  split at e
  · split at e
    · rename_i z
      obtain ⟨p, vs, rfl, h, a⟩ := at_lst hx
      obtain ⟨v, rfl, hv⟩ := atl1 a
      rw [at_int hy]
      cases e
      refine ops_new (.lst (List.replicate _ v)) gh hP (fun u hu => at_new_l gh hu (atl_rep hv _)) fun Q k => ⟨p, _, [v], rfl, rfl, gh _ _ h, by omega, by omega, ?_, ?_⟩
      · show 1 * _ ≤ sizeLine
        refine sz1000 ?_
        omega
      · rw [rep_flat]
        exact k
    · cases e
  · cases e⟩

def lstOf : D → Option (List D)
  | .lst ds => some ds
  | _ => none
abbrev RF := List D → List Int → R D
def spD (c : Cfg) (f : RF) : Sp := fun vs H Q E => ∃ G ds pot, AtL c.P G vs ds ∧ Ex G H ∧ (∀ a, c.B a → G a = none) ∧ c.inv pot H ∧ (match f ds pot with
  | .ok d p => ∀ v G' H', Stp c.B G H G' H' → c.inv p H' → At c.P G' v d → Q v H'
  | .err m p => ∀ H', Stp c.B G H G H' → c.inv p H' → E (.ref (c.ec m)) none H'
  | .bad => False)
def mcall (f : RF) (a : M (List D)) : M D := mbind a fun ds _ p => f ds p
theorem spD_of {f : RF} {G0 H0 G H : Hp} {σ : St} {l : Loc} {pot : List Int} {Q : VK} {vs : List V} {ds : List D} (r : Rel c G0 H0 G H σ l pot) (a : AtL c.P G vs ds)
    (post : Post c E (rD c) G0 H0 G H σ l (f ds pot) Q) : spD c f vs H Q (E σ) := by
  refine ⟨G, ds, pot, a, r.stp.gh, r.gP, r.pot, ?_⟩
  cases e : f ds pot with
  | ok d p =>
    rw [e] at post
    exact fun v G' H' s hp av => post v G' H' s (r.step s hp) av
  | err m p =>
    rw [e] at post
    exact fun H' s hp => post G H' (Ex.refl G) (r.step s hp)
  | bad =>
    rw [e] at post
    exact post
theorem se_call {f : RF} {t : TA} {a : M (List D)} (ha : SA c E t a) : SE c E (tCallS (spD c f) E t) (mcall f a) := by
  intro G0 H0 G H σ l pot r Q post
  refine Sn.go ha r post fun x dx p G1 H1 s1 r1 hx post1 => ?_
  exact spD_of r1 hx post1
end
end Den
namespace Den
open PySem L2
section
variable {X : Cx}
def rSetI (K : PySem.W.Frag) (w : World) : List V → Hp → VK → Prop := fun xs H Q => ∃ (p : Addr) (ns : List Int), xs = [.ref p] ∧ SqT K H p (ns.map V.int) ∧ ns.length ≤ 1000 ∧
  ∀ q n, H q = none → n ≤ ns.length → Q (.ref q) (upd H q (SetO w q (fun j => decide (j ∈ ns)) n))
theorem cr_setI (hc : X.calm = true) : CallR X (.type "set") (rSetI X.K X.w) := by
  intro pins s σ H xs us Q I r h
  obtain ⟨p, ns, rfl, hs, hl, q⟩ := h
  obtain ⟨its, rv, ht, hz⟩ := I.tuple hs
  rw [Vals.ref1 r]
  refine call_set_tupI ns (I.ok.hd hc) ht (by simpa using ints_of_vals rv) (Nat.lt_of_le_of_lt (Nat.succ_le_succ hl) (by decide +kernel)) fun h' tk n R hn k => ?_
  have hnw : H s.heap.objs.size = none := I.hok.fresh (Nat.le_refl _)
  exact ⟨.ref _, _, I.laid (t' := tk) k (Nat.le_refl _) (setO_new R), rfl, q _ n hnw hn⟩
end
def insS (k : Int) : List Int → List Int
  | [] => [k]
  | n :: ns => if k < n then k :: n :: ns else if k = n then n :: ns else n :: insS k ns
def sortSet : List Int → List Int
  | [] => []
  | n :: ns => insS n (sortSet ns)
theorem mem_insS {k j : Int} : ∀ {ns : List Int}, j ∈ insS k ns ↔ j = k ∨ j ∈ ns
  | [] => by simp [insS]
  | n :: ns => by
    unfold insS
    split
    · simp
    · split
      · rename_i h; subst h; simp
      · simp only [List.mem_cons, mem_insS (ns := ns)]
        constructor
        · rintro (h | h | h) <;> simp [h]
        · rintro (h | h | h) <;> simp [h]
theorem mem_sortSet {j : Int} : ∀ {ns : List Int}, j ∈ sortSet ns ↔ j ∈ ns
  | [] => Iff.rfl
  | n :: ns => by unfold sortSet; rw [mem_insS, mem_sortSet (ns := ns), List.mem_cons]
theorem insS_srt {k : Int} : ∀ {ns : List Int}, ns.Pairwise (· < ·) → (insS k ns).Pairwise (· < ·)
  | [], _ => by simp [insS]
  | n :: ns, h => by
    unfold insS
    cases h with
    | cons h1 h2 =>
      split
      · rename_i z
        exact .cons (fun a ha => by
          rcases List.mem_cons.mp ha with rfl | ha
          · exact z
          · exact Int.lt_trans z (h1 a ha)) (.cons h1 h2)
      · split
        · exact .cons h1 h2
        · rename_i z1 z2
          exact .cons (fun a ha => by
            rcases mem_insS.mp ha with rfl | ha
            · omega
            · exact h1 a ha) (insS_srt h2)
theorem sortSet_srt : ∀ (ns : List Int), (sortSet ns).Pairwise (· < ·)
  | [] => .nil
  | n :: ns => insS_srt (sortSet_srt ns)
theorem srt_eq : ∀ {a b : List Int}, a.Pairwise (· < ·) → b.Pairwise (· < ·) → (∀ k : Int, k ∈ a ↔ k ∈ b) → a = b
  | [], [], _, _, _ => rfl
  | [], y :: ys, _, _, h => absurd ((h y).mpr List.mem_cons_self) (fun z => nomatch z)
  | x :: xs, [], _, _, h => absurd ((h x).mp List.mem_cons_self) (fun z => nomatch z)
  | x :: xs, y :: ys, .cons h1 h2, .cons g1 g2, h => by
    have exy : x = y := by
      rcases List.mem_cons.mp ((h x).mp List.mem_cons_self) with e | e
      · exact e
      · rcases List.mem_cons.mp ((h y).mpr List.mem_cons_self) with e' | e'
        · exact e'.symm
        · have := g1 x e; have := h1 y e'; omega
    subst exy
    rw [srt_eq h2 g2 fun k => ?_]
    constructor
    · intro hk
      rcases List.mem_cons.mp ((h k).mp (List.mem_cons_of_mem _ hk)) with e | e
      · subst e; exact absurd (h1 k hk) (Int.lt_irrefl _)
      · exact e
    · intro hk
      rcases List.mem_cons.mp ((h k).mpr (List.mem_cons_of_mem _ hk)) with e | e
      · subst e; exact absurd (g1 k hk) (Int.lt_irrefl _)
      · exact e
def fSortSet : D → Option D
  | .tup ds => (intsOf ds).bind fun ns => if ns.length < 64 then some (.lst ((sortSet ns).map .int)) else none
  | _ => none
section
variable {c : Cfg} {E : St → XK}
theorem se_sortSet {w : World} {t : TE} {a : M D} (ha : SE c E t a) : SE c E (tCB (rSortedSet w) (tCons (tCB (rSetI c.K w) (tCons t tNil)) tNil)) (op1 fSortSet a) := by
  intro G0 H0 G H σ l pot r Q post
  show t σ H (fun v H1 => rSetI c.K w [v] H1 fun u H2 => rSortedSet w [u] H2 Q)
  refine Sn.go ha r post fun x dx p G1 H1 s1 r1 hx post1 => ?_
  cases dx with
  | tup ds =>
    obtain ⟨q, vs, rfl, h, a⟩ := at_tup hx
    cases e : intsOf ds with
    | none => simp only [fSortSet, e] at post1; exact post1.elim
    | some ns =>
      have ev := ints_at a e
      subst ev
      by_cases z : ns.length < 64
      · simp only [fSortSet, e, Option.bind_some, if_pos z] at post1
        refine ⟨q, ns, rfl, .inl (.inl (r1.stp.gh _ _ h)), by omega, fun u n hu hn => ?_⟩
        have s2 : Stp c.B G1 H1 G1 (upd H1 u (SetO w u (fun j => decide (j ∈ ns)) n)) := Stp.lay0 r1.stp.gh hu
        have hP : ∀ a, c.B a → a ≠ u := fun a b z => r1.hp a b (by rw [z]; exact hu)
        have r2 := r1.step s2 (c.ext (fun a b => upd_ne (hP a b)) r1.pot)
        refine ⟨u, _, n, rfl, upd_same, by omega, fun ms y hm hk _ hy => ?_⟩
        have em : ms = sortSet ns := srt_eq hm (sortSet_srt ns) fun k => by rw [hk, mem_sortSet]; simp
        subst em
        have hPy : ∀ a, c.B a → a ≠ y := fun a b z => r2.hp a b (by rw [z]; exact hy)
        have s3 := Stp.lay (B := c.B) (o := .lst ((sortSet ns).map V.int)) r2.stp.gh hy
        exact post1 _ _ _ (s2.trans s3) (r2.step s3 (c.ext (fun a b => upd_ne (hPy a b)) r2.pot)) (at_new_l r2.stp.gh hy AtL.ints)
      · simp only [fSortSet, e, Option.bind_some, if_neg z] at post1
        exact post1.elim
  | _ => exact post1.elim

/-- what is known of an own class -/
structure ClsF (K : PySem.W.Frag) (C : Addr) : Prop where
  cl : Cls K C
  ha : PySem.W.findIn K (.ref C) "__class__" = some (some (.builtin "object.__class__"))
  hn : PySem.W.specialIn K (.builtin "object.__class__") "__get__" = some (some (.builtin "getset_descriptor.__get__"))
  htk : PySem.W.takesIn K (.builtin "object.__class__") = some true
  hm : PySem.W.mroIn K C (.type "object") = some true
  self : PySem.W.kitOne K (.ref C) (.ref C) = some true
  nl : PySem.W.kitOne K (.type "list") (.ref C) = some false
  nt : PySem.W.kitOne K (.type "tuple") (.ref C) = some false
  ni : PySem.W.kitOne K (.type "int") (.ref C) = some false
  nb : PySem.W.kitOne K (.type "bool") (.ref C) = some false
  ns : PySem.W.kitOne K (.type "str") (.ref C) = some false
  nn : PySem.W.kitOne K (.type "NoneType") (.ref C) = some false
def tyN : D → Option Ty
  | .non => some .non
  | .bl _ => some .bl
  | .int _ => some .int
  | .str _ => some .str
  | .lst _ => some .lst
  | .tup _ => some .tup
  | _ => none
def isTy : Ty → Ty → Bool
  | .non, .non => true
  | .bl, .bl => true
  | .bl, .int => true
  | .int, .int => true
  | .str, .str => true
  | .lst, .lst => true
  | .tup, .tup => true
  | _, _ => false
theorem kit_is (K : PySem.W.Frag) (a b : Ty) : PySem.W.kitOne K (.type a.name) (.type b.name) = some (isTy a b) := by
  cases a <;> cases b <;> exact kit_ty (by decide +kernel)
theorem ty_at {K : PySem.W.Frag} {P : Addr} {G H : Hp} {x : V} {d : D} {n : Ty} (gh : Ex G H) (h : At P G x d) (e : tyN d = some n) : TyX K H x (.type n.name) := by
  cases h with
  | non => cases e; exact .base .non
  | bl b => cases e; exact .base (.bl b)
  | int i => cases e; exact .base (.int i)
  | str s => cases e; exact .base (.str s)
  | lst h a => cases e; exact .base (.lst (gh _ _ h))
  | tup h a => cases e; exact .base (.tup (gh _ _ h))
  | _ => cases e
def fIs1 : List D → Option D
  | [d, .ty t] => (tyN d).map fun n => .bl (isTy n t)
  | _ => none
theorem sn_is1 : SN c (rIsi c.K) fIs1 := ⟨fun G H xs ds d gh _ hx e => by
  unfold fIs1 at e
  split at e
  · obtain ⟨x, y, rfl, hx1, hy⟩ := atl2 hx
    rename_i dx t
    cases e1 : tyN dx with
    | none => rw [e1] at e; cases e
    | some n =>
      rw [e1] at e
      cases e
      cases hy
      exact ops_pure gh (.bl _) fun Q q => ⟨x, .ty t.name, _, _, _, rfl, .ty t.name, ty_at gh hx1 e1, kit_is _ n t, q⟩
  · cases e⟩
def fIs2 : List D → Option D
  | [d, .tup [.ty t, .ty u]] => (tyN d).map fun n => .bl (isTy n t || isTy n u)
  | _ => none
theorem sn_is2 : SN c (rIsiT c.K) fIs2 := ⟨fun G H xs ds d gh _ hx e => by
  unfold fIs2 at e
  split at e
  · obtain ⟨x, y, rfl, hx1, hy⟩ := atl2 hx
    rename_i dx t u
    cases e1 : tyN dx with
    | none => rw [e1] at e; cases e
    | some n =>
      rw [e1] at e
      cases e
      obtain ⟨p, vs, rfl, h, al⟩ := at_tup hy
      obtain ⟨v1, v2, rfl, h1, h2⟩ := atl2 al
      cases h1
      cases h2
      refine ops_pure gh (.bl _) fun Q q => ⟨x, p, _, _, _, _, rfl, gh _ _ h, .cons (.ty _) (.cons (.ty _) .nil), ty_at gh hx1 e1, ?_, q⟩
      refine kitAny_cons (kit_is _ n t) (fun ha => ?_) fun ha => by rw [ha]; rfl
      refine kitAny_cons (kit_is _ n u) (fun hb => ?_) fun hb => by rw [hb]; cases isTy n t <;> rfl
      rw [ha, hb]
      rfl
  · cases e⟩
def fIsC (C : Addr) : List D → Option D
  | [d, .cls C'] => if C' = C then (match d with
    | .ins C1 _ _ => if C1 = C then some (.bl true) else none
    | d => (tyN d).map fun _ => .bl false) else none
  | _ => none
theorem sn_isC {C : Addr} (F : ClsF c.K C) : SN c (rIsi c.K) (fIsC C) := ⟨fun G H xs ds d gh _ hx e => by
  unfold fIsC at e
  split at e
  · obtain ⟨x, y, rfl, hx1, hy⟩ := atl2 hx
    rename_i dx C'
    split at e
    · rename_i z
      subst z
      cases hy
      have tyCase : ∀ {n : Ty}, tyN dx = some n → PySem.W.kitOne c.K (.type n.name) (.ref C') = some false → d = .bl false → OpS c (rIsi c.K [x, .ref C']) G H d := fun {n : Ty} e1 e2 e3 => by
        subst e3
        exact ops_pure gh (.bl false) fun Q q => ⟨x, .ref C', _, _, false, rfl, .own C', ty_at gh hx1 e1, e2, q⟩
      cases dx with
      | ins C1 ns es =>
        dsimp only at e
        split at e
        · rename_i z
          subst z
          cases e
          cases hx1 with
          | ins h a => exact ops_pure gh (.bl true) fun Q q => ⟨_, .ref C1, _, _, true, rfl, .own C1, .base (.ins (gh _ _ h) F.cl F.ha F.hn F.htk F.hm), F.self, q⟩
        · cases e
      | non => cases e; exact tyCase rfl F.nn rfl
      | bl b => cases e; exact tyCase rfl F.nb rfl
      | int i => cases e; exact tyCase rfl F.ni rfl
      | str s => cases e; exact tyCase rfl F.ns rfl
      | lst l => cases e; exact tyCase rfl F.nl rfl
      | tup l => cases e; exact tyCase rfl F.nt rfl
      | pot => cases e
      | ty n => cases e
      | cls C => cases e
      | dct kvs => cases e
    · cases e
  · cases e⟩
end
end Den
namespace Den
open PySem L2
section
variable {c : Cfg} {E : St → XK}
theorem Rel.set {G0 H0 G H : Hp} {σ : St} {l : Loc} {pot : List Int} {i : Nat} {v : V} {d : D} (r : Rel c G0 H0 G H σ l pot) (a : At c.P G v d) (hi : i < l.length) : Rel c G0 H0 G H (σ.set i (some v)) (l.set i (some (.dat d))) pot := by
  have hσ : i < σ.length := by rw [r.len]; exact hi
  refine ⟨r.stp, r.pot, r.gP, r.hP, by rw [List.length_set, List.length_set, r.len], fun j x e => ?_, fun j k x y e1 e2 o1 o2 ne => ?_⟩
  · by_cases z : j = i
    · subst z
      rw [List.getElem?_set_self hi] at e
      cases e
      rw [List.getElem?_set_self hσ]
      exact a
    · rw [List.getElem?_set_ne (Ne.symm z)] at e ⊢
      exact r.slot j x e
  · have nj : j ≠ i := fun z => by
      subst z
      rw [List.getElem?_set_self hi] at e1
      cases e1
      cases o1
    have nk : k ≠ i := fun z => by
      subst z
      rw [List.getElem?_set_self hi] at e2
      cases e2
      cases o2
    rw [List.getElem?_set_ne (Ne.symm nj)] at e1 ⊢
    rw [List.getElem?_set_ne (Ne.symm nk)] at e2 ⊢
    exact r.dist j k x y e1 e2 o1 o2 ne
/-- a new list of one's own goes to a slot -/
theorem Rel.own {G0 H0 G H : Hp} {σ : St} {l : Loc} {pot : List Int} {i : Nat} {p : Addr} {vs : List V} {ds : List D} (r : Rel c G0 H0 G H σ l pot) (h : H p = some (.lst vs)) (a : AtL c.P G vs ds) (hg : G p = none) (h0 : H0 p = none) (nc : ∀ (j : Nat) (x : L), l[j]? = some (some x) → owned x = true → σ[j]? ≠ some (some (.ref p))) (hi : i < l.length) :
    Rel c G0 H0 G H (σ.set i (some (.ref p))) (l.set i (some (.cell ds))) pot := by
  have hσ : i < σ.length := by rw [r.len]; exact hi
  refine ⟨r.stp, r.pot, r.gP, r.hP, by rw [List.length_set, List.length_set, r.len], fun j x e => ?_, fun j k x y e1 e2 o1 o2 ne => ?_⟩
  · by_cases z : j = i
    · subst z
      rw [List.getElem?_set_self hi] at e
      cases e
      rw [List.getElem?_set_self hσ]
      exact ⟨vs, h, a, hg, h0⟩
    · rw [List.getElem?_set_ne (Ne.symm z)] at e ⊢
      exact r.slot j x e
  · by_cases zj : j = i
    · subst zj
      have nk : k ≠ j := fun z => ne z.symm
      rw [List.getElem?_set_ne (Ne.symm nk)] at e2 ⊢
      rw [List.getElem?_set_self hσ]
      exact fun z => nc k y e2 o2 z.symm
    · rw [List.getElem?_set_ne (Ne.symm zj)] at e1 ⊢
      by_cases zk : k = i
      · subst zk
        rw [List.getElem?_set_self hσ]
        exact nc j x e1 o1
      · rw [List.getElem?_set_ne (Ne.symm zk)] at e2 ⊢
        exact r.dist j k x y e1 e2 o1 o2 ne
/-- a list of one's own changes -/
theorem Rel.write {G0 H0 G H : Hp} {σ : St} {l : Loc} {pot : List Int} {i : Nat} {p : Addr} {vs : List V} {ds es : List D} (r : Rel c G0 H0 G H σ l pot) (hc : l[i]? = some (some (.cell es))) (hσ : σ[i]? = some (some (.ref p))) (a : AtL c.P G vs ds) :
    Rel c G0 H0 G (upd H p (.lst vs)) σ (l.set i (some (.cell ds))) pot := by
  have q := r.slot i _ hc
  rw [hσ] at q
  obtain ⟨ws, h1, h2, h3, h4⟩ := q
  have hi : i < l.length := (List.getElem?_eq_some_iff.mp hc).1
  have hP : ∀ a, c.B a → a ≠ p := fun a b z => r.hP a b (by rw [z]; exact h4)
  refine ⟨⟨r.stp.gg, fun b o e => ?_, fun b o e n => ?_, fun b e => ?_, r.stp.new⟩, c.ext (fun a b => upd_ne (hP a b)) r.pot, r.gP, r.hP, by rw [List.length_set, r.len], fun j x e => ?_, fun j k x y e1 e2 o1 o2 ne => ?_⟩
  · rw [upd_ne (fun z => by subst z; rw [h3] at e; cases e)]; exact r.stp.gh b o e
  · rw [upd_ne (fun z => by subst z; rw [h4] at e; cases e)]; exact r.stp.keep b o e n
  · by_cases z : b = p
    · subst z; exact h4
    · rw [upd_ne z] at e; exact r.stp.there b e
  · by_cases z : j = i
    · subst z
      rw [List.getElem?_set_self hi] at e
      cases e
      rw [hσ]
      exact ⟨vs, upd_same, a, h3, h4⟩
    · rw [List.getElem?_set_ne (Ne.symm z)] at e
      have a2 := r.slot j x e
      match ho : σ[j]?, x, a2 with
      | some (some v), .dat d, a2 => exact a2
      | some (some (.ref q)), .cell ds', ⟨ws', g1, g2, g3, g4⟩ =>
        have nq : q ≠ p := fun w => r.dist j i _ _ e hc rfl rfl z (by rw [ho, hσ, w])
        exact ⟨ws', (upd_ne nq).trans g1, g2, g3, g4⟩
      | some (some (.ref q)), .obj ea C ns ds', ⟨hea, ws', dx, g1, g2, g3, g4, g5⟩ =>
        have nq : q ≠ p := fun w => r.dist j i _ _ e hc rfl rfl z (by rw [ho, hσ, w])
        exact ⟨hea, ws', dx, (upd_ne nq).trans g1, g2, g3, g4, g5⟩
  · have back : ∀ (m : Nat) (x : L), (l.set i (some (.cell ds)))[m]? = some (some x) → owned x = true → ∃ y, l[m]? = some (some y) ∧ owned y = true := fun m x e o => by
      by_cases z : m = i
      · subst z; exact ⟨_, hc, rfl⟩
      · rw [List.getElem?_set_ne (Ne.symm z)] at e; exact ⟨x, e, o⟩
    obtain ⟨x', e1', o1'⟩ := back j x e1 o1
    obtain ⟨y', e2', o2'⟩ := back k y e2 o2
    exact r.dist j k x' y' e1' e2' o1' o2' ne
/-- a list of one's own stands from now on -/
theorem Rel.give {G0 H0 G H : Hp} {σ : St} {l : Loc} {pot : List Int} {i : Nat} {ds : List D} (r : Rel c G0 H0 G H σ l pot) (hc : l[i]? = some (some (.cell ds))) :
    ∃ G', Ex G G' ∧ Rel c G0 H0 G' H σ (l.set i (some (.dat (.lst ds)))) pot := by
  have q := r.slot i _ hc
  have hi : i < l.length := (List.getElem?_eq_some_iff.mp hc).1
  cases ho : σ[i]? with
  | none => rw [ho] at q; exact q.elim
  | some o =>
    cases o with
    | none => rw [ho] at q; exact q.elim
    | some v =>
      cases v with
      | ref p =>
        rw [ho] at q
        obtain ⟨vs, h1, h2, h3, h4⟩ := q
        have hP : ¬ c.B p := fun z => r.hP p z h4
        have r1 : Rel c G0 H0 G H σ (l.set i none) pot := by
          refine ⟨r.stp, r.pot, r.gP, r.hP, by rw [List.length_set, r.len], fun j x e => ?_, fun j k x y e1 e2 o1 o2 ne => ?_⟩
          · by_cases z : j = i
            · subst z; rw [List.getElem?_set_self hi] at e; cases e
            · rw [List.getElem?_set_ne (Ne.symm z)] at e; exact r.slot j x e
          · have nn : ∀ (m : Nat) (x : L), (l.set i none)[m]? = some (some x) → m ≠ i := fun m x e z => by
              subst z; rw [List.getElem?_set_self hi] at e; cases e
            have nj := nn j x e1
            have nk := nn k y e2
            rw [List.getElem?_set_ne (Ne.symm nj)] at e1
            rw [List.getElem?_set_ne (Ne.symm nk)] at e2
            exact r.dist j k x y e1 e2 o1 o2 ne
        have r2 := Rel.freeze r1 h1 h4 hP (fun j x e o z => by
          have nj : j ≠ i := fun w => by subst w; rw [List.getElem?_set_self hi] at e; cases e
          rw [List.getElem?_set_ne (Ne.symm nj)] at e
          exact r.dist j i _ _ e hc o rfl nj (by rw [z, ho])) h3
        have r3 := Rel.set (i := i) r2 (v := .ref p) (d := .lst ds) (.lst upd_same (AtL.mono (Ex.new h3) h2)) (by rw [List.length_set]; exact hi)
        have e1 : σ.set i (some (.ref p)) = σ := by
          have hσ : i < σ.length := by rw [r.len]; exact hi
          refine List.ext_getElem? fun j => ?_
          by_cases z : j = i
          · subst z; rw [List.getElem?_set_self hσ, ho]
          · rw [List.getElem?_set_ne (Ne.symm z)]
        rw [e1, List.set_set] at r3
        exact ⟨_, Ex.new h3, r3⟩
      | _ => rw [ho] at q; exact q.elim

inductive O where
  | nx (l : Loc) (p : List Int) | rt (d : D) (p : List Int) | bk (l : Loc) (p : List Int) | ct (l : Loc) (p : List Int) | err (n : Nat) (l : Loc) (p : List Int) | bad
abbrev MS := Loc → List Int → O
def PostS (c : Cfg) (E : St → XK) (G0 H0 G : Hp) (De : Ends) : O → Prop
  | .nx l' p => ∀ G' H' σ', Ex G G' → Rel c G0 H0 G' H' σ' l' p → De.nx σ' H'
  | .rt d p => ∀ v G' H' σ' l', Ex G G' → Rel c G0 H0 G' H' σ' l' p → At c.P G' v d → De.rt v H'
  | .bk l' p => ∀ G' H' σ', Ex G G' → Rel c G0 H0 G' H' σ' l' p → De.bk σ' H'
  | .ct l' p => ∀ G' H' σ', Ex G G' → Rel c G0 H0 G' H' σ' l' p → De.ct σ' H'
  | .err n l' p => ∀ G' H' σ', Ex G G' → Rel c G0 H0 G' H' σ' l' p → E σ' (.ref (c.ec n)) none H'
  | .bad => False
def SS (c : Cfg) (E : St → XK) (ts : TS) (s : MS) : Prop := ∀ G0 H0 G H σ l pot, Rel c G0 H0 G H σ l pot → ∀ De, PostS c E G0 H0 G De (s l pot) → ts De σ H
theorem PostS.mono {G0 H0 G G1 : Hp} {De : Ends} {o : O} (p : PostS c E G0 H0 G De o) (e : Ex G G1) : PostS c E G0 H0 G1 De o := by
  cases o with
  | nx l' q => exact fun G' H' σ' e' r => p G' H' σ' (e.trans e') r
  | rt d q => exact fun v G' H' σ' l' e' r a => p v G' H' σ' l' (e.trans e') r a
  | bk l' q => exact fun G' H' σ' e' r => p G' H' σ' (e.trans e') r
  | ct l' q => exact fun G' H' σ' e' r => p G' H' σ' (e.trans e') r
  | err n l' q => exact fun G' H' σ' e' r => p G' H' σ' (e.trans e') r
  | bad => exact p
def sbind {α : Type} (a : M α) (k : α → MS) : MS := fun l p => match a l p with
  | .ok x p' => k x l p'
  | .err n p' => .err n l p'
  | .bad => .bad
theorem Sn.goS {γ δ : Type} {rel' : Hp → γ → δ → Prop} {G0 H0 G H : Hp} {σ : St} {l : Loc} {pot : List Int} {t1 : St → Hp → (γ → Hp → Prop) → Prop} {e1 : M δ} (h1 : Sn c E rel' t1 e1) (r : Rel c G0 H0 G H σ l pot) {k : δ → MS} {De : Ends} {X : γ → Hp → Prop}
    (post : PostS c E G0 H0 G De (sbind e1 k l pot))
    (h2 : ∀ a b p G' H', Stp c.B G H G' H' → Rel c G0 H0 G' H' σ l p → rel' G' a b → PostS c E G0 H0 G' De (k b l p) → X a H') : t1 σ H X := by
  refine h1 G0 H0 G H σ l pot r _ ?_
  unfold sbind at post
  cases e : e1 l pot with
  | ok b p =>
    rw [e] at post
    exact fun a G' H' s r' ra => h2 a b p G' H' s r' ra (PostS.mono post s.gg)
  | err n p =>
    rw [e] at post
    exact fun G' H' e' r' => post G' H' σ e' r'
  | bad =>
    rw [e] at post
    exact post
theorem PostS.of {G0 H0 G H : Hp} {De : Ends} {σ : St} {l : Loc} {p : List Int} (post : PostS c E G0 H0 G De (.nx l p)) (r : Rel c G0 H0 G H σ l p) : De.nx σ H := post G H σ (Ex.refl G) r
def sskip : MS := fun l p => .nx l p
theorem ss_next : SS c E tNext sskip := fun G0 H0 G H σ l pot r De post => PostS.of post r
def sseq (a b : MS) : MS := fun l p => match a l p with
  | .nx l' p' => b l' p'
  | o => o
theorem ss_seq {t u : TS} {a b : MS} (ha : SS c E t a) (hb : SS c E u b) : SS c E (tSeq t u) (sseq a b) := by
  intro G0 H0 G H σ l pot r De post
  refine ha G0 H0 G H σ l pot r _ ?_
  unfold sseq at post
  cases e : a l pot with
  | nx l' p' =>
    rw [e] at post
    exact fun G' H' σ' e' r' => hb _ _ _ _ _ _ _ r' De (PostS.mono post e')
  | rt d p' => rw [e] at post; exact post
  | bk l' p' => rw [e] at post; exact post
  | ct l' p' => rw [e] at post; exact post
  | err n l' p' => rw [e] at post; exact post
  | bad => rw [e] at post; exact post
def sif (t : M Bool) (a b : MS) : MS := sbind t fun x => if x = true then a else b
theorem ss_if {t : TT} {ta tb : TS} {q : M Bool} {a b : MS} (hq : ST c E t q) (ha : SS c E ta a) (hb : SS c E tb b) : SS c E (tIfS t ta tb) (sif q a b) := by
  intro G0 H0 G H σ l pot r De post
  refine Sn.goS hq r post fun x dx p G1 H1 s1 r1 hx post1 => ?_
  subst hx
  cases x with
  | true => rw [if_pos rfl]; exact ha _ _ _ _ _ _ _ r1 De post1
  | false => rw [if_neg Bool.false_ne_true]; exact hb _ _ _ _ _ _ _ r1 De post1
def sret (a : M D) : MS := sbind a fun x _ p => .rt x p
theorem ss_ret {t : TE} {a : M D} (ha : SE c E t a) : SS c E (tRet t) (sret a) := by
  intro G0 H0 G H σ l pot r De post
  refine Sn.goS ha r post fun x dx p G1 H1 s1 r1 hx post1 => ?_
  exact post1 x G1 H1 σ l (Ex.refl G1) r1 hx
def sdrop (a : M D) : MS := sbind a fun _ l p => .nx l p
theorem ss_drop {t : TE} {a : M D} (ha : SE c E t a) : SS c E (tDrop t) (sdrop a) := by
  intro G0 H0 G H σ l pot r De post
  refine Sn.goS ha r post fun x dx p G1 H1 s1 r1 hx post1 => ?_
  exact PostS.of post1 r1
/-- targets -/
def SG (c : Cfg) (g : TG) (tg : D → Loc → Option Loc) : Prop := ∀ G0 H0 G H σ l l' pot x d, Rel c G0 H0 G H σ l pot → At c.P G x d → tg d l = some l' → ∀ Q : St → Hp → Prop, (∀ σ', Rel c G0 H0 G H σ' l' pot → Q σ' H) → g x σ H Q
def gset (i : Nat) : D → Loc → Option Loc := fun d l => if i < l.length then some (l.set i (some (.dat d))) else none
theorem sg_name {i : Nat} : SG c (gName i) (gset i) := by
  intro G0 H0 G H σ l l' pot x d r a e Q q
  unfold gset at e
  split at e
  · rename_i z
    cases e
    exact q _ (r.set a z)
  · cases e
def gset2 (i j : Nat) : D → Loc → Option Loc := fun d l => match d with
  | .tup [a, b] => (gset i a l).bind (gset j b)
  | _ => none
theorem sg_pair {i j : Nat} : SG c (gTup c.K 2 (gCons (gName i) (gCons (gName j) gNil))) (gset2 i j) := by
  intro G0 H0 G H σ l l' pot x d r a e Q q
  unfold gset2 at e
  split at e
  · rename_i d1 d2
    obtain ⟨p, vs, rfl, h, al⟩ := at_tup a
    obtain ⟨v1, v2, rfl, h1, h2⟩ := atl2 al
    refine ⟨p, _, rfl, .inl (.inl (r.stp.gh _ _ h)), rfl, v1, _, rfl, ?_⟩
    cases e1 : gset i d1 l with
    | none => rw [e1] at e; cases e
    | some l1 =>
      rw [e1] at e
      refine sg_name (c := c) (i := i) G0 H0 G H σ l l1 pot v1 d1 r h1 e1 _ fun σ1 r1 => ⟨v2, _, rfl, ?_⟩
      exact sg_name (c := c) (i := j) G0 H0 G H σ1 l1 l' pot v2 d2 r1 h2 e _ fun σ2 r2 => ⟨rfl, q σ2 r2⟩
  · cases e
def sasg (a : M D) (tg : D → Loc → Option Loc) : MS := sbind a fun x l p => match tg x l with
  | some l' => .nx l' p
  | none => .bad
theorem ss_asg {t : TE} {g : TG} {a : M D} {tg : D → Loc → Option Loc} (ha : SE c E t a) (hg : SG c g tg) : SS c E (tAsg t g) (sasg a tg) := by
  intro G0 H0 G H σ l pot r De post
  refine Sn.goS ha r post fun x dx p G1 H1 s1 r1 hx post1 => ?_
  cases e : tg dx l with
  | none => simp only [e] at post1; exact post1.elim
  | some l' =>
    simp only [e] at post1
    exact hg G0 H0 G1 H1 σ l l' p x dx r1 hx e _ fun σ' r' => PostS.of post1 r'
/-- x = a new list, one's own -/
def sown (a : M (List D)) (i : Nat) : MS := sbind a fun ds l p => if i < l.length then .nx (l.set i (some (.cell ds))) p else .bad
theorem ss_own {t : TE} {a : M (List D)} {i : Nat} (ha : SEN c E t a) : SS c E (tAsg t (gName i)) (sown a i) := by
  intro G0 H0 G H σ l pot r De post
  refine ha G0 H0 G H σ l pot r _ ?_
  unfold sown sbind at post
  cases e : a l pot with
  | bad => rw [e] at post; exact post
  | err n p => rw [e] at post; exact fun G' H' e' r' => post G' H' σ e' r'
  | ok ds p =>
    rw [e] at post
    intro q vs G' H' s r' h1 h2 h3 h4
    dsimp only at post
    split at post
    · rename_i z
      exact PostS.of (PostS.mono post s.gg) (r'.own h1 h2 h3 (r.stp.there q h4) (fun j x e o => r.own_ne h4 j x e o) z)
    · exact post.elim
/-- ahead of a statement: a list of one's own stands from now on -/
def sgive (i : Nat) (s : MS) : MS := fun l p => match l[i]? with
  | some (some (.cell ds)) => s (l.set i (some (.dat (.lst ds)))) p
  | _ => s l p
theorem ss_give {i : Nat} {t : TS} {s : MS} (hs : SS c E t s) : SS c E t (sgive i s) := by
  intro G0 H0 G H σ l pot r De post
  unfold sgive at post
  split at post
  · rename_i ds e
    obtain ⟨G', eg, r'⟩ := r.give e
    exact hs _ _ _ _ _ _ _ r' De (PostS.mono post eg)
  · exact hs _ _ _ _ _ _ _ r De post
/-- xs.append(e), xs one's own -/
def sappend (i : Nat) (a : M D) : MS := fun l p => match l[i]? with
  | some (some (.cell ds)) => if ds.length < 1000 then sbind a (fun x l p => .nx (l.set i (some (.cell (ds ++ [x])))) p) l p else .bad
  | _ => .bad
theorem cell_at {G0 H0 G H : Hp} {σ : St} {l : Loc} {pot : List Int} {i : Nat} {ds : List D} (r : Rel c G0 H0 G H σ l pot) (hc : l[i]? = some (some (.cell ds))) :
    ∃ p vs, σ[i]? = some (some (.ref p)) ∧ H p = some (.lst vs) ∧ AtL c.P G vs ds := by
  have q := r.slot i _ hc
  cases ho : σ[i]? with
  | none => rw [ho] at q; exact q.elim
  | some o =>
    cases o with
    | none => rw [ho] at q; exact q.elim
    | some v =>
      cases v with
      | ref p =>
        rw [ho] at q
        obtain ⟨vs, h1, h2, h3, h4⟩ := q
        exact ⟨p, vs, rfl, h1, h2⟩
      | _ => rw [ho] at q; exact q.elim
theorem ss_append {i : Nat} {t : TE} {a : M D} (ha : SE c E t a) : SS c E (tDrop (tBM c.K "list" rAppend (tVar i) (tCons t tNil))) (sappend i a) := by
  intro G0 H0 G H σ l pot r De post
  unfold sappend at post
  split at post
  · rename_i ds hc
    split at post
    · rename_i z
      obtain ⟨p, vs, hσ, h1, h2⟩ := cell_at r hc
      refine ⟨.ref p, hσ, .inl ⟨rfl, _, .inl (.inl h1)⟩, ?_⟩
      refine Sn.goS ha r post fun x dx p' G1 H1 s1 r1 hx post1 => ?_
      obtain ⟨p2, vs2, hσ2, g1, g2⟩ := cell_at r1 hc
      rw [hσ] at hσ2
      cases hσ2
      refine ⟨p, vs2, x, rfl, rfl, g1, by rw [AtL.length g2]; exact Nat.lt_of_lt_of_le z (by decide), ?_⟩
      exact PostS.of post1 (r1.write hc hσ (AtL.append g2 (.cons hx .nil)))
    · exact post.elim
  · exact post.elim
theorem Stp.pot {B : Addr → Prop} {P : Addr} {G H : Hp} {o : HO} (gh : Ex G H) (hB : B P) (hG : G P = none) (hH : H P ≠ none) : Stp B G H G (upd H P o) := by
  refine ⟨Ex.refl G, fun b u e => ?_, fun b u e n => ?_, fun b e => ?_, fun b u e => .inl e⟩
  · rw [upd_ne (fun z => by subst z; rw [hG] at e; cases e)]; exact gh b u e
  · rw [upd_ne (fun z => n (by rw [z]; exact hB))]; exact e
  · by_cases z : b = P
    · subst z; rw [upd_same] at e; cases e
    · rw [upd_ne z] at e; exact e
def mpop (a : M D) : M D := mbind a fun x l p => match x with
  | .pot => match p[p.length - 1]? with
    | some n => .ok (.int n) p.dropLast
    | none => .bad
  | _ => .bad
theorem se_pop (pc : c.Pot) {t : TE} {a : M D} (ha : SE c E t a) : SE c E (tBM0 c.K "list" rPop t) (mpop a) := by
  intro G0 H0 G H σ l pot r Q post
  refine Sn.go ha r post fun x dx p G1 H1 s1 r1 hx post1 => ?_
  cases dx with
  | pot =>
    cases hx
    have hp1 := (pc.i _ _).mp r1.pot
    have hB : c.B c.P := (pc.b _).mpr rfl
    refine ⟨.inl ⟨rfl, _, .inl (.inl hp1)⟩, ?_⟩
    dsimp only at post1
    cases e : p[p.length - 1]? with
    | none => rw [e] at post1; exact post1.elim
    | some n =>
      rw [e] at post1
      refine ⟨c.P, _, .int n, rfl, rfl, hp1, by simpa using e, ?_⟩
      have s := Stp.pot (o := .lst ((p.map V.int).dropLast)) r1.stp.gh hB (r1.gP _ hB) (r1.hp _ hB)
      exact post1 _ _ _ s (r1.step s ((pc.i _ _).mpr (by rw [upd_same, List.map_dropLast]))) (.int n)
  | _ => exact post1.elim
def mlenp (a : M D) : M D := mbind a fun x l p => match x with
  | .pot => .ok (.int p.length) p
  | _ => .bad
theorem se_lenp (pc : c.Pot) {t : TE} {a : M D} (ha : SE c E t a) : SE c E (tCB (rLenS c.K) (tCons t tNil)) (mlenp a) := by
  intro G0 H0 G H σ l pot r Q post
  show t σ H (fun x H1 => rLenS c.K [x] H1 Q)
  refine Sn.go ha r post fun x dx p G1 H1 s1 r1 hx post1 => ?_
  cases dx with
  | pot =>
    cases hx
    refine ⟨c.P, _, rfl, .inl (.inl (.inl ((pc.i _ _).mp r1.pot))), ?_⟩
    rw [List.length_map]
    exact post1 _ _ _ (Stp.refl r1.stp.gh) r1 (.int _)
  | _ => exact post1.elim

structure Walks (c : Cfg) (J : It) (ds : List D) (G : Hp) : Prop where
  stop : ∀ i H, Ex G H → i = ds.length → J.stop i H
  go : ∀ i H, Ex G H → i < ds.length → J.go i H
  yld : ∀ i H x H', Ex G H → i < ds.length → (∀ a, c.B a → H a ≠ none) → J.yld i H x H' → ∀ G2, Ex G G2 → Ex G2 H → ∃ d G3, ds[i]? = some d ∧ Stp c.B G2 H G3 H' ∧ (∀ a, c.B a → H' a = H a) ∧ At c.P G3 x d
theorem walks_list {G : Hp} {a : Addr} {vs : List V} {ds : List D} (h : G a = some (.lst vs)) (al : AtL c.P G vs ds) : Walks c (Itl c.K a) ds G := by
  refine ⟨fun i H e z => ⟨vs, .inl (.inl (e _ _ h)), ?_⟩, fun i H e z => ?_, fun i H x H' e z hP y G2 e2 e3 => ?_⟩
  · rw [AtL.length al]; exact Nat.le_of_eq z.symm
  · have z' : i < vs.length := by rw [AtL.length al]; exact z
    exact ⟨vs, vs[i], .inl (.inl (e _ _ h)), List.getElem?_eq_getElem z'⟩
  · obtain ⟨rfl, y⟩ := y
    obtain ⟨d, ed, ad⟩ := AtL.getV al (y vs (.inl (.inl (e _ _ h))))
    exact ⟨d, G2, ed, Stp.refl e3, fun _ _ => rfl, At.mono e2 ad⟩
theorem walks_tup {G : Hp} {a : Addr} {vs : List V} {ds : List D} (h : G a = some (.tup vs)) (al : AtL c.P G vs ds) : Walks c (Itt c.K a) ds G := by
  refine ⟨fun i H e z => ⟨vs, .inl (.inl (e _ _ h)), ?_⟩, fun i H e z => ?_, fun i H x H' e z hP y G2 e2 e3 => ?_⟩
  · rw [AtL.length al]; exact Nat.le_of_eq z.symm
  · have z' : i < vs.length := by rw [AtL.length al]; exact z
    exact ⟨vs, vs[i], .inl (.inl (e _ _ h)), List.getElem?_eq_getElem z'⟩
  · obtain ⟨rfl, y⟩ := y
    obtain ⟨d, ed, ad⟩ := AtL.getV al (y vs (.inl (.inl (e _ _ h))))
    exact ⟨d, G2, ed, Stp.refl e3, fun _ _ => rfl, At.mono e2 ad⟩
def rngD (lo : Int) (n : Nat) : List D := (List.range n).map fun (i : Nat) => D.int (lo + (i : Int))
theorem walks_rng {G : Hp} {lo : Int} {n : Nat} : Walks c (Itr lo n) (rngD lo n) G := by
  have hl : (rngD lo n).length = n := by simp [rngD]
  refine ⟨fun i H e z => by rw [hl] at z; exact Nat.le_of_eq z.symm, fun i H e z => by rw [hl] at z; exact z, fun i H x H' e z hP y G2 e2 e3 => ?_⟩
  obtain ⟨rfl, rfl⟩ := y
  rw [hl] at z
  exact ⟨.int (lo + (i : Int)), G2, by simp [rngD, z], Stp.refl e3, fun _ _ => rfl, .int _⟩
def enumD : Nat → List D → List D
  | _, [] => []
  | i, d :: ds => .tup [.int (i : Int), d] :: enumD (i + 1) ds
theorem enumD_get : ∀ (ds : List D) (k i : Nat) (d : D), ds[i]? = some d → (enumD k ds)[i]? = some (.tup [.int ((k + i : Nat) : Int), d])
  | [], _, _, _, e => by simp at e
  | d :: ds, k, 0, _, e => by simp at e; subst e; simp [enumD]
  | _ :: ds, k, i + 1, d, e => by
    have h := enumD_get ds (k + 1) i d (by simpa using e)
    have e2 : k + 1 + i = k + (i + 1) := by omega
    rw [e2] at h
    simpa [enumD] using h
theorem enumD_len : ∀ (ds : List D) (k : Nat), (enumD k ds).length = ds.length
  | [], _ => rfl
  | d :: ds, k => by simp [enumD, enumD_len ds]
theorem walks_enum {G : Hp} {a : Addr} {vs : List V} {ds : List D} (h : G a = some (.lst vs)) (al : AtL c.P G vs ds) : Walks c (Ite c.K a) (enumD 0 ds) G := by
  refine ⟨fun i H e z => ⟨vs, .inl (.inl (e _ _ h)), ?_⟩, fun i H e z => ?_, fun i H x H' e z hP y G2 e2 e3 => ?_⟩
  · rw [AtL.length al]; rw [enumD_len] at z; exact Nat.le_of_eq z.symm
  · have z' : i < vs.length := by rw [AtL.length al]; rw [enumD_len] at z; exact z
    exact ⟨vs, vs[i], .inl (.inl (e _ _ h)), List.getElem?_eq_getElem z'⟩
  · obtain ⟨T, v, rfl, hT, rfl, y⟩ := y
    obtain ⟨d, ed, ad⟩ := AtL.getV al (y vs (.inl (.inl (e _ _ h))))
    have g := enumD_get ds 0 i d ed
    rw [Nat.zero_add] at g
    exact ⟨_, _, g, Stp.lay e3 hT, fun b hb => upd_ne (fun z => hP b hb (by rw [z]; exact hT)), at_new_t e3 hT (.cons (.int _) (.cons (At.mono e2 ad) .nil))⟩
/-- an iterable's reading -/
def SI (c : Cfg) (E : St → XK) (wi : TI) (a : M (List D)) : Prop := Sn c E (fun G J ds => Walks c J ds G) wi a
theorem si_list {t : TE} {a : M D} (ha : SE c E t a) : SI c E (iList c.K t) (mbind a fun x => mlift (lstOf x)) := by
  intro G0 H0 G H σ l pot r Q post
  refine Sn.go ha r post fun x dx p G1 H1 s1 r1 hx post1 => ?_
  cases dx with
  | lst ds =>
    obtain ⟨q, vs, rfl, h, al⟩ := at_lst hx
    exact ⟨q, rfl, ⟨vs, .inl (.inl (r1.stp.gh _ _ h))⟩, Post.ok post1 r1 (walks_list h al)⟩
  | _ => exact post1.elim
def tupOf : D → Option (List D)
  | .tup ds => some ds
  | _ => none
theorem si_tup {t : TE} {a : M D} (ha : SE c E t a) : SI c E (iTup c.K t) (mbind a fun x => mlift (tupOf x)) := by
  intro G0 H0 G H σ l pot r Q post
  refine Sn.go ha r post fun x dx p G1 H1 s1 r1 hx post1 => ?_
  cases dx with
  | tup ds =>
    obtain ⟨q, vs, rfl, h, al⟩ := at_tup hx
    exact ⟨q, rfl, ⟨vs, .inl (.inl (r1.stp.gh _ _ h))⟩, Post.ok post1 r1 (walks_tup h al)⟩
  | _ => exact post1.elim
theorem post_lift0 {α β : Type} {rel : Hp → α → β → Prop} {G0 H0 G H : Hp} {σ : St} {l : Loc} {pot : List Int} {o : Option β} {Q : α → Hp → Prop} (post : Post c E rel G0 H0 G H σ l (mlift o l pot) Q) :
    ∃ g, o = some g ∧ Post c E rel G0 H0 G H σ l (.ok g pot) Q := by
  cases o with
  | none => exact post.elim
  | some g => exact ⟨g, rfl, post⟩
def rng1 : List D → Option (List D)
  | [.int j] => if j.natAbs < 4611686018427387904 then some (rngD 0 j.toNat) else none
  | _ => none
theorem si_rng1 {t : TA} {a : M (List D)} (ha : SA c E t a) : SI c E (iRng1 t) (mbind a fun x => mlift (rng1 x)) := by
  intro G0 H0 G H σ l pot r Q post
  refine Sn.go ha r post fun x dx p G1 H1 s1 r1 hx post1 => ?_
  obtain ⟨ds, e, post2⟩ := post_lift0 post1
  unfold rng1 at e
  split at e
  · split at e
    · rename_i z
      cases e
      obtain ⟨y, rfl, hy⟩ := atl1 hx
      rw [at_int hy]
      exact ⟨_, rfl, by omega, by omega, Post.ok post2 r1 walks_rng⟩
    · cases e
  · cases e
def rng2 : List D → Option (List D)
  | [.int i, .int j] => if i.natAbs < 4611686018427387904 ∧ j.natAbs < 4611686018427387904 then some (rngD i (j - i).toNat) else none
  | _ => none
theorem si_rng2 {t : TA} {a : M (List D)} (ha : SA c E t a) : SI c E (iRng2 t) (mbind a fun x => mlift (rng2 x)) := by
  intro G0 H0 G H σ l pot r Q post
  refine Sn.go ha r post fun x dx p G1 H1 s1 r1 hx post1 => ?_
  obtain ⟨ds, e, post2⟩ := post_lift0 post1
  unfold rng2 at e
  split at e
  · split at e
    · rename_i z
      cases e
      obtain ⟨y, y2, rfl, hy, hy2⟩ := atl2 hx
      rw [at_int hy, at_int hy2]
      exact ⟨_, _, rfl, by omega, Post.ok post2 r1 walks_rng⟩
    · cases e
  · cases e
/-- for x in ..: body -/
def loop (tg : D → Loc → Option Loc) (body : MS) : List D → MS
  | [] => sskip
  | d :: ds => fun l p => match tg d l with
    | none => .bad
    | some l1 => match body l1 p with
      | .nx l' p' => loop tg body ds l' p'
      | .ct l' p' => loop tg body ds l' p'
      | .bk l' p' => .nx l' p'
      | o => o
def sfor (a : M (List D)) (tg : D → Loc → Option Loc) (body : MS) : MS := sbind a fun ds => loop tg body ds
theorem ss_for {wi : TI} {g : TG} {tb : TS} {a : M (List D)} {tg : D → Loc → Option Loc} {body : MS} (ha : SI c E wi a) (hg : SG c g tg) (hb : SS c E tb body) : SS c E (tFor wi g tb) (sfor a tg body) := by
  intro G0 H0 G H σ l pot r De post
  refine Sn.goS ha r post fun J ds p G1 H1 s1 r1 w post1 => ?_
  refine ⟨fun i m σ H => m = ds.length - i ∧ i ≤ ds.length ∧ ∃ G l p, Ex G1 G ∧ Rel c G0 H0 G H σ l p ∧ PostS c E G0 H0 G De (loop tg body (ds.drop i) l p), ⟨_, rfl, Nat.zero_le _, G1, l, p, Ex.refl _, r1, post1⟩, ?_⟩
  rintro i m σ H ⟨rfl, hi, G, l, p, eg, r, post⟩
  by_cases hlt : i < ds.length
  · refine .inr ⟨w.go i H (eg.trans r.stp.gh) hlt, fun σ' H' => ∃ G l p, Ex G1 G ∧ Rel c G0 H0 G H' σ' l p ∧ PostS c E G0 H0 G De (loop tg body (ds.drop (i + 1)) l p), fun σ' H' ⟨G, l, p, a, b, q⟩ => ⟨_, by omega, rfl, hlt, G, l, p, a, b, q⟩, fun x H' y => ?_⟩
    obtain ⟨d, G3, ed, s3, hP, ad⟩ := w.yld i H x H' (eg.trans r.stp.gh) hlt r.hp y G eg r.stp.gh
    have r3 := r.same s3 hP
    have edr : ds.drop i = d :: ds.drop (i + 1) := by
      obtain ⟨h1, h2⟩ := List.getElem?_eq_some_iff.mp ed
      rw [List.drop_eq_getElem_cons h1, h2]
    rw [edr] at post
    unfold loop at post
    cases e1 : tg d l with
    | none => simp only [e1] at post; exact post.elim
    | some l1 =>
      simp only [e1] at post
      refine hg G0 H0 G3 H' σ l l1 p x d r3 ad e1 _ fun σ' r4 => ?_
      refine hb _ _ _ _ _ _ _ r4 _ ?_
      have post := PostS.mono post s3.gg
      cases e2 : body l1 p with
      | nx l' p' =>
        simp only [e2] at post
        exact fun G' H' σ' e' r' => ⟨G', l', p', (eg.trans s3.gg).trans e', r', PostS.mono post e'⟩
      | ct l' p' =>
        simp only [e2] at post
        exact fun G' H' σ' e' r' => ⟨G', l', p', (eg.trans s3.gg).trans e', r', PostS.mono post e'⟩
      | bk l' p' => simp only [e2] at post; exact post
      | rt d p' => simp only [e2] at post; exact post
      | err n l' p' => simp only [e2] at post; exact post
      | bad => simp only [e2] at post; exact post
  · have e : i = ds.length := by omega
    refine .inl ⟨w.stop i H (eg.trans r.stp.gh) e, ?_⟩
    rw [e, List.drop_length] at post
    exact PostS.of post r
end
end Den
namespace Den
open PySem L2
section
variable {X : Cx} {CX : CXT} {k : Nat} {f : Addr} {sp : Sp} {E : St → XK} {x : Str} {p pos sp_ : Pos} {e : Expr} {es : List Expr} {t : TA} {te : TE}
theorem run_fnRS {pins : List (Addr × Obj)} {σ : St} {H : Hp} {s : Shared} {Q : VK} {us : List Value} {vs : List V} (F : FnR X.prog X.w X.K X.mg X.base CX k f sp) (hr : Room k X.A) (hx : PassesAt CX X σ (E σ))
    (I : Inv X pins σ H s) (r : Vals vs us) (h : sp vs H Q (E σ)) : wpAny (model X.prog X.w) X.A (call (.ref f) us) (EP X pins σ Q) X.xe s := by
  refine wpAny_call (codeAny_mono (F X.A X.stack s H us vs Q (E σ) hr I.env0 r h) fun r s' hq => ?_)
  cases r with
  | error e => exact hx pins H s e s' I hq
  | ok fl =>
    cases fl with
    | ret u => exact I.after hq
    | next => exact False.elim hq
    | brk => exact False.elim hq
    | cont => exact False.elim hq
theorem pe_callRS (F : FnR X.prog X.w X.K X.mg X.base CX k f sp) (hr : Room k X.A) (hg : Gl X x) (hm : X.mg x = some (.ref f)) (hk : PySem.W.keepIn X.K (.ref f) = true) (hx : ∀ σ, PassesAt CX X σ (E σ))
    (ha : PA X (e :: es) t) (hdb : (x == ("__debug__" : Str)) = false := by decide) (he : starEach (e :: es) X.env = (false, eval e X.env) :: starEach es X.env := by rfl) (hpl : (backTo pos (starEach es X.env)).any (·.1) = false := by rfl) :
    PE X (.Call (.Name x p) (e :: es) [] pos) (tCallS sp E t) := by
  refine ⟨fun pins s σ H Q I h => ?_⟩
  refine wpAny_Call_Name_kw (ld_glob I hg hm ?_ hdb)
  refine PySem.W.callWith_K (h₀ := X.base) I.ok.mod.kin hk (thn (ha.run pos pins s σ H _ I h) fun us s1 ⟨vs, H1, I1, r, q⟩ => ⟨I1.kIn, ?_⟩) he hpl
  exact run_fnRS F hr (hx σ) I1 r q
/-- x(*y) -/
def tCallStar (K : PySem.W.Frag) (sp : Sp) (E : St → XK) (te : TE) : TE := fun σ H Q => te σ H fun y H1 => ∃ a xs, y = V.ref a ∧ (SqT K H1 a xs ∨ SqL K H1 a xs) ∧ sp xs H1 Q (E σ)
theorem pe_callStar (F : FnR X.prog X.w X.K X.mg X.base CX k f sp) (hr : Room k X.A) (hk : PySem.W.keepIn X.K (.ref f) = true) (hg : Gl X x) (hm : X.mg x = some (.ref f)) (hx : ∀ σ, PassesAt CX X σ (E σ)) (he : PE X e te) (hd : (x == ("__debug__" : Str)) = false := by decide)
    (hst : starEach [.Starred e sp_] X.env = [(true, eval e X.env)] := by rfl) : PE X (.Call (.Name x p) [.Starred e sp_] [] pos) (tCallStar X.K sp E te) := by
  refine ⟨fun pins s σ H Q I h => ?_⟩
  refine wpAny_Call_Name_kw (ld_glob I hg hm ?_ hd)
  refine PySem.W.callWith_S (h₀ := X.base) I.ok.mod.kin hk (thn (he.run pins s σ H _ I h) fun v s1 ⟨y, H1, I1, ry, a, xs, ey, hxs, q⟩ => ?_) hst
  subst ey
  obtain rfl : v = Value.ref a := ry
  exact StX.star_any I1 hxs fun us s2 I2 rv => ⟨I2.kIn, run_fnRS F hr (hx σ) I2 rv q⟩
theorem passE {W : XK} (tk : Takes X (fun cls d _ H => W cls d H)) : ∀ σ, PassesAt (L2.CX X.prog X.w) X σ ((fun _ => W : St → XK) σ) := fun σ => passAt tk σ
theorem passNo : ∀ σ, PassesAt (L2.CX X.prog X.w) X σ ((fun _ => E0 : St → XK) σ) := fun σ pins H s e s' I h => passL pins σ H s e s' I h
end
section
variable {c : Cfg} {E : St → XK}
def mstar (f : RF) (a : M D) : M D := mbind a fun x => mbind (mlift (seqOf x)) fun ds _ p => f ds p
theorem se_star {f : RF} {t : TE} {a : M D} (ha : SE c E t a) : SE c E (tCallStar c.K (spD c f) E t) (mstar f a) := by
  intro G0 H0 G H σ l pot r Q post
  refine Sn.go ha r post fun x dx p G1 H1 s1 r1 hx post1 => ?_
  obtain ⟨ds, e, post2⟩ := post_lift post1
  obtain ⟨q, vs, rfl, h, al⟩ := seq_at hx e
  exact ⟨q, vs, rfl, (sqLT r1.stp.gh h).symm, spD_of r1 al post2⟩

theorem Stp.poke {B : Addr → Prop} {G1 H1 G H : Hp} {q : Addr} {o : HO} (s : Stp B G1 H1 G H) (h1 : H1 q = none) (hG : G q = none) : Stp B G1 H1 G (upd H q o) := by
  refine ⟨s.gg, fun b u e => ?_, fun b u e n => ?_, fun b e => ?_, s.new⟩
  · rw [upd_ne (fun z => by subst z; rw [hG] at e; cases e)]; exact s.gh b u e
  · rw [upd_ne (ne_of_none e h1)]; exact s.keep b u e n
  · by_cases z : b = q
    · subst z; exact h1
    · rw [upd_ne z] at e; exact s.there b e
theorem mbind_ok {α β : Type} {a : M α} {k : α → M β} {l : Loc} {p q : List Int} {x : α} (e : a l p = .ok x q) : mbind a k l p = k x l q := by
  unfold mbind
  rw [e]
  rfl
theorem mbind_err {α β : Type} {a : M α} {k : α → M β} {l : Loc} {p q : List Int} {n : Nat} (e : a l p = .err n q) : mbind a k l p = .err n q := by
  unfold mbind
  rw [e]
  rfl
theorem mbind_bad {α β : Type} {a : M α} {k : α → M β} {l : Loc} {p : List Int} (e : a l p = .bad) : mbind a k l p = .bad := by
  unfold mbind
  rw [e]
  rfl
def turn (t : M Bool) (e : M D) : M (Option D) := mbind t fun b => if b = true then mbind e fun x => mret (some x) else mret none
def comp (i : Nat) (t : M Bool) (e : M D) : List D → M (List D)
  | [] => mret []
  | d :: ds => fun l p => if i < l.length then (match turn t e (l.set i (some (.dat d))) p with
    | .ok o p' => (match comp i t e ds l p' with
      | .ok r p'' => .ok (o.toList ++ r) p''
      | x => x)
    | _ => .bad) else .bad
def mcomp (a : M (List D)) (i : Nat) (t : M Bool) (e : M D) : M (List D) := mbind a fun ds => if ds.length ≤ 1000 then comp i t e ds else fun _ _ => .bad
def pre (acc : List D) : R (List D) → R (List D)
  | .ok r p => .ok (acc ++ r) p
  | .err n p => .err n p
  | .bad => .bad
theorem pre_nil (r : R (List D)) : pre [] r = r := by cases r <;> rfl
def mtrue : M Bool := mret true
theorem st_true : ST c E tYes mtrue := fun G0 H0 G H σ l pot r Q post => Post.ok post r rfl
theorem sen_comp {wi : TI} {i : Nat} {tt : TT} {te : TE} {a : M (List D)} {t : M Bool} {e : M D} (ha : SI c E wi a) (ht : ST c (fun _ => E0) tt t) (he : SE c (fun _ => E0) te e) : SEN c E (tLc wi (gName i) tt te [i]) (mcomp a i t e) := by
  intro G0 H0 G H σ l pot r Q post
  refine Sn.goN ha r post fun J ds p G1 H1 s1 r1 w post1 => ?_
  split at post1
  · rename_i hlen
    intro Dl hD
    have hPD : ∀ a, c.B a → a ≠ Dl := fun a b z => r1.hp a b (by rw [z]; exact hD)
    have hG1 : G1 Dl = none := by
      cases eg : G1 Dl with
      | none => rfl
      | some u => have := r1.stp.gh Dl u eg; rw [hD] at this; cases this
    refine ⟨fun j m H => m = ds.length - j ∧ j ≤ ds.length ∧ ∃ G p acc aD, Stp c.B G1 H1 G H ∧ c.inv p H ∧ H Dl = some (.lst acc) ∧ AtL c.P G acc aD ∧ G Dl = none ∧ aD.length ≤ j ∧ PostN c E G0 H0 G1 H1 σ l (pre aD (comp i t e (ds.drop j) l p)) Q,
      ⟨_, rfl, Nat.zero_le _, G1, p, [], [], Stp.lay0 r1.stp.gh hD, c.ext (fun a b => upd_ne (hPD a b)) r1.pot, upd_same, .nil, hG1, Nat.le_refl _, by rw [pre_nil]; exact post1⟩, ?_⟩
    rintro j m H ⟨rfl, hj, G, p, acc, aD, sG, hp, hDl, al, hG, hl, post⟩
    by_cases hlt : j < ds.length
    · refine .inr ⟨w.go j H (sG.gg.trans sG.gh) hlt, fun H => ∃ G p acc aD, Stp c.B G1 H1 G H ∧ c.inv p H ∧ H Dl = some (.lst acc) ∧ AtL c.P G acc aD ∧ G Dl = none ∧ aD.length ≤ j + 1 ∧ PostN c E G0 H0 G1 H1 σ l (pre aD (comp i t e (ds.drop (j + 1)) l p)) Q,
        fun H' ⟨G, p, acc, aD, h⟩ => ⟨_, by omega, rfl, hlt, G, p, acc, aD, h⟩, fun x H' y => ?_⟩
      obtain ⟨d, G3, ed, s3, hP3, ad⟩ := w.yld j H x H' (sG.gg.trans sG.gh) hlt (c.full hp) y G sG.gg sG.gh
      have edr : ds.drop j = d :: ds.drop (j + 1) := by
        obtain ⟨h1, h2⟩ := List.getElem?_eq_some_iff.mp ed
        rw [List.drop_eq_getElem_cons h1, h2]
      rw [edr] at post
      unfold comp at post
      by_cases hi : i < l.length
      · rw [if_pos hi] at post
        have s13 := sG.trans s3
        have r3 : Rel c G0 H0 G3 H' σ l p := r1.step s13 (c.ext hP3 hp)
        have hDl3 : H' Dl = some (.lst acc) := s3.keep Dl _ hDl (fun b => hPD _ b rfl)
        have noD : ∀ {Ga Ha Gb Hb : Hp}, Stp c.B Ga Ha Gb Hb → Ga Dl = none → Ha Dl ≠ none → Gb Dl = none := fun {Ga Ha Gb Hb} s h1 h2 => by
          cases eg : Gb Dl with
          | none => rfl
          | some u =>
            rcases s.new Dl u eg with z | z
            · rw [h1] at z; cases z
            · exact absurd z h2
        have hG3 := noD s3 hG (by rw [hDl]; exact fun z => nomatch z)
        have r4 : Rel c G0 H0 G3 H' (σ.set i (some x)) (l.set i (some (.dat d))) p := r3.set ad hi
        show (gName i) x (wipe σ [i]) H' _
        have ew : (wipe σ [i]).set i (some x) = σ.set i (some x) := by
          show (σ.set i none).set i (some x) = σ.set i (some x)
          rw [List.set_set]
        show wipe ((wipe σ [i]).set i (some x)) [i] = wipe σ [i] ∧ tt ((wipe σ [i]).set i (some x)) H' _
        rw [ew]
        refine ⟨by show (σ.set i (some x)).set i none = σ.set i none; rw [List.set_set], ?_⟩
        refine ht _ _ _ _ _ _ _ r4 _ ?_
        unfold turn at post
        cases e1 : t (l.set i (some (.dat d))) p with
        | err n p1 => rw [mbind_err e1] at post; exact post.elim
        | bad => rw [mbind_bad e1] at post; exact post.elim
        | ok b p1 =>
          rw [mbind_ok e1] at post
          intro b' G5 H5 s5 r5 eb
          subst eb
          have s15 := s13.trans s5
          have hDl5 : H5 Dl = some (.lst acc) := s5.keep Dl _ hDl3 (fun b => hPD _ b rfl)
          have hG5 := noD s5 hG3 (by rw [hDl3]; exact fun z => nomatch z)
          cases b' with
          | false =>
            rw [if_neg Bool.false_ne_true]
            rw [if_neg Bool.false_ne_true] at post
            refine ⟨G5, p1, acc, aD, s15, r5.pot, hDl5, AtL.mono (s3.gg.trans s5.gg) al, hG5, Nat.le_succ_of_le hl, ?_⟩
            dsimp only [mret] at post
            cases e2 : comp i t e (ds.drop (j + 1)) l p1 with
            | ok r' p2 => rw [e2] at post; exact post
            | err n p2 => rw [e2] at post; exact post
            | bad => rw [e2] at post; exact post
          | true =>
            rw [if_pos rfl]
            rw [if_pos rfl] at post
            refine he _ _ _ _ _ _ _ r5 _ ?_
            cases e2 : e (l.set i (some (.dat d))) p1 with
            | err n p2 => rw [mbind_err e2] at post; exact post.elim
            | bad => rw [mbind_bad e2] at post; exact post.elim
            | ok y p2 =>
              rw [mbind_ok e2] at post
              dsimp only [mret] at post
              intro v G6 H6 s6 r6 av
              have s16 := s15.trans s6
              have hDl6 : H6 Dl = some (.lst acc) := s6.keep Dl _ hDl5 (fun b => hPD _ b rfl)
              have hG6 := noD s6 hG5 (by rw [hDl5]; exact fun z => nomatch z)
              have al6 : AtL c.P G6 acc aD := AtL.mono ((s3.gg.trans s5.gg).trans s6.gg) al
              refine ⟨acc, hDl6, ?_, G6, p2, acc ++ [v], aD ++ [y], s16.poke hD hG6, c.ext (fun a b => upd_ne (hPD a b)) r6.pot, upd_same, AtL.append al6 (.cons av .nil), hG6, by rw [List.length_append]; exact Nat.succ_le_succ hl, ?_⟩
              · rw [AtL.length al6]
                have z : aD.length ≤ 1000 := by omega
                exact Nat.lt_of_le_of_lt z (by decide)
              · cases e3 : comp i t e (ds.drop (j + 1)) l p2 with
                | ok r' p3 =>
                  rw [e3] at post
                  have ea : aD ++ ([y] ++ r') = aD ++ [y] ++ r' := by rw [List.append_assoc]
                  show PostN c E G0 H0 G1 H1 σ l (.ok (aD ++ [y] ++ r') p3) Q
                  rw [← ea]
                  exact post
                | err n p3 => rw [e3] at post; exact post
                | bad => rw [e3] at post; exact post
      · rw [if_neg hi] at post
        exact post.elim
    · have ej : j = ds.length := by omega
      refine .inl ⟨w.stop j H (sG.gg.trans sG.gh) ej, ?_⟩
      rw [ej, List.drop_length] at post
      have post' : PostN c E G0 H0 G1 H1 σ l (.ok (aD ++ []) p) Q := post
      rw [List.append_nil] at post'
      exact post' Dl acc G H sG (r1.step sG hp) hDl al hG hD
  · exact post1.elim
def sraise (n : Nat) : MS := fun l p => .err n l p
theorem ss_raise {n : Nat} : SS c E (fun _ σ H => E σ (.ref (c.ec n)) none H) (sraise n) := fun G0 H0 G H σ l pot r De post => post G H σ (Ex.refl G) r
def noE : O → O
  | .err _ _ _ => .bad
  | o => o
def handle (n : Nat) : List (Nat × MS) → MS
  | [] => fun l p => .err n l p
  | (m, s) :: hs => if n = m then fun l p => noE (s l p) else handle n hs
def stry (body : MS) (hs : List (Nat × MS)) : MS := fun l p => match body l p with
  | .err n l' p' => if n < 4 then handle n hs l' p' else .bad
  | o => o
inductive Suites (c : Cfg) : List (Value × (Addr → Value → Option Addr → TS)) → List (Nat × MS) → Prop
  | nil : Suites c [] []
  | cons {m : Nat} {ts : Addr → Value → Option Addr → TS} {s : MS} {l : List (Value × (Addr → Value → Option Addr → TS))} {hs : List (Nat × MS)} (hm : m < 4) (h : ∀ a cls d, SS c (fun _ => E0) (ts a cls d) s) (t : Suites c l hs) : Suites c ((.ref (c.ec m), ts) :: l) ((m, s) :: hs)
/-- the classes that are caught and thrown stand beside one another -/
def Apart (c : Cfg) : Prop := ∀ n m : Nat, n < 4 → m < 4 → PySem.W.exmOne c.K (.ref (c.ec n)) (.ref (c.ec m)) = some (decide (n = m))
theorem PostS.noE {E' : St → XK} {G0 H0 G : Hp} {De : Ends} {o : O} (post : PostS c E G0 H0 G De (noE o)) : PostS c E' G0 H0 G De o := by
  cases o with
  | err n l p => exact post.elim
  | _ => exact post
theorem ss_many {K : PySem.W.Frag} {De : Ends} {ls : List (Value × (Addr → Value → Option Addr → TS))} {hs : List (Nat × MS)} (hK : c.K = K) (ap : Apart c) (su : Suites c ls hs) {n : Nat} {G0 H0 G' H' : Hp} {σ' : St} {l' : Loc} {p' : List Int} (r : Rel c G0 H0 G' H' σ' l' p') (hn : n < 4)
    (post : PostS c E G0 H0 G' De (handle n hs l' p')) : wMany K (fun cls d σ H => E σ cls d H) De ls (.ref (c.ec n)) none σ' H' := by
  induction su with
  | nil => exact post G' H' σ' (Ex.refl _) r
  | @cons m ts s l hs hm h t ih =>
    refine ⟨decide (n = m), by rw [← hK]; exact ap n m hn hm, fun e a _ => ?_, fun e => ?_⟩
    · have e' := of_decide_eq_true e
      unfold handle at post
      rw [if_pos e'] at post
      exact h _ _ _ _ _ _ _ _ _ _ r De (PostS.noE post)
    · have e' := of_decide_eq_false e
      unfold handle at post
      rw [if_neg e'] at post
      exact ih post
theorem ss_try {K : PySem.W.Frag} {tb : WX → TS} {body : MS} {ls : List (Value × (Addr → Value → Option Addr → TS))} {hs : List (Nat × MS)} (hK : c.K = K) (ap : Apart c) (hb : ∀ W : WX, SS c (fun σ cls d H => W cls d σ H) (tb W) body) (su : Suites c ls hs) :
    SS c E (fun D σ H => tb (wMany K (fun cls d σ H => E σ cls d H) D ls) D σ H) (stry body hs) := by
  intro G0 H0 G H σ l pot r De post
  refine hb _ G0 H0 G H σ l pot r De ?_
  unfold stry at post
  cases e : body l pot with
  | err n l' p' =>
    rw [e] at post
    dsimp only at post
    split at post
    · rename_i hn
      exact fun G' H' σ' e' r' => ss_many hK ap su r' hn (PostS.mono post e')
    · exact post.elim
  | nx l' p' => rw [e] at post; exact post
  | rt d p' => rw [e] at post; exact post
  | bk l' p' => rw [e] at post; exact post
  | ct l' p' => rw [e] at post; exact post
  | bad => rw [e] at post; exact post
end
def locOf (n : Nat) (ds : List D) : Loc := ds.map (fun d => some (.dat d)) ++ List.replicate (n - ds.length) none
/-- what a def of n parameters and m slots does -/
def outR : O → R D
  | .rt d p => .ok d p
  | .nx _ p => .ok .non p
  | .err k _ p => .err k p
  | _ => .bad
def denF (n m : Nat) (s : MS) : RF := fun ds pot => if ds.length = n then outR (s (locOf m ds) pot) else .bad
section
variable {c : Cfg}
theorem start_rel {G H : Hp} {N : List Str} {vs : List V} {ds : List D} {pot : List Int} (a : AtL c.P G vs ds) (gh : Ex G H) (gP : (∀ a, c.B a → G a = none)) (hp : c.inv pot H) : Rel c G H G H (start N vs) (locOf N.length ds) pot := by
  have hl := AtL.length a
  refine ⟨Stp.refl gh, hp, gP, c.full hp, by simp [L2.start, locOf, hl], fun i x e => ?_, fun i j x y e1 e2 o1 o2 ne => ?_⟩
  · unfold locOf at e
    by_cases hi : i < ds.length
    · rw [List.getElem?_append_left (by simpa using hi), List.getElem?_map] at e
      have ed := List.getElem?_eq_getElem hi
      rw [ed] at e
      cases e
      obtain ⟨v, ev, av⟩ := AtL.get a ed
      have hs : (start N vs)[i]? = some (some v) := by
        unfold L2.start
        rw [List.getElem?_append_left (by simp [hl, hi]), List.getElem?_map, ev]
        rfl
      rw [hs]
      exact av
    · rw [List.getElem?_append_right (by simpa using hi), List.getElem?_replicate] at e
      split at e <;> cases e
  · exfalso
    unfold locOf at e1
    by_cases hi : i < ds.length
    · rw [List.getElem?_append_left (by simpa using hi), List.getElem?_map, List.getElem?_eq_getElem hi] at e1
      cases e1
      cases o1
    · rw [List.getElem?_append_right (by simpa using hi), List.getElem?_replicate] at e1
      split at e1 <;> cases e1
/-- the ends of a def -/
theorem post_fn {f : RF} {G0 H0 : Hp} {s : MS} {N : List Str} {n : Nat} {ds : List D} {pot : List Int} {Q : VK} {E' : XK} (hn : ds.length = n)
    (h : match denF n N.length s ds pot with
      | .ok d p => ∀ v G' H', Stp c.B G0 H0 G' H' → c.inv p H' → At c.P G' v d → Q v H'
      | .err m p => ∀ H', Stp c.B G0 H0 G0 H' → c.inv p H' → E' (.ref (c.ec m)) none H'
      | .bad => False) :
    PostS c (fun _ => E') G0 H0 G0 { nx := fun _ H' => Q .non H', rt := Q } (s (locOf N.length ds) pot) := by
  unfold denF at h
  rw [if_pos hn] at h
  cases e : s (locOf N.length ds) pot with
  | nx l p => rw [e] at h; exact fun G' H' σ' _ r => h .non G' H' r.stp r.pot .non
  | rt d p => rw [e] at h; exact fun v G' H' σ' l' _ r a => h v G' H' r.stp r.pot a
  | err k l p => rw [e] at h; exact fun G' H' σ' _ r => h H' ⟨Ex.refl _, r.stp.gg.trans r.stp.gh, r.stp.keep, r.stp.there, fun _ _ z => .inl z⟩ r.pot
  | bk l p => rw [e] at h; exact h.elim
  | ct l p => rw [e] at h; exact h.elim
  | bad => rw [e] at h; exact h.elim
variable {P : Program} {w : World} {mg : Str → Option Value} {base : Heap}
theorem fn_ss {x qual : Str} {st : Stmt} {f : Addr} {fd : FuncData} {N ps : List Str} {k : Nat} {s : MS} (F : Fun c.K x qual st f fd) (S : FnScope N ps (defScope st)) (hb : Binds c.K fd ps [])
    (hbody : ∀ (cdv : Value) (A : Around) (outer : List Env) (sh : Shared) (H : Hp) (E' : XK), Room k (A.deeper (PyProof.Rows.envOfC qual (defScope st) sh.heap.objs.size f cdv)) →
      ∃ t, PSs (cxOf (L2.CX P w) P w c.K mg base N qual (defScope st) f cdv A outer sh H E') (defBody st) t ∧ SS c (fun _ => E') t s) :
    FnR P w c.K mg base (L2.CX P w) (k + 1) f (spD c (denF ps.length N.length s)) := by
  have lenOf : ∀ vs H Q E, spD c (denF ps.length N.length s) vs H Q E → vs.length = ps.length := fun vs H Q E h => by
    obtain ⟨G, ds, pot, a, gh, gP, hp, h⟩ := h
    rw [AtL.length a]
    by_cases z : ds.length = ps.length
    · exact z
    · unfold denF at h
      rw [if_neg z] at h
      exact h.elim
  have ok : FnOk P w c.K mg base (L2.CX P w) (k + 1) f fd ps (spD c (denF ps.length N.length s)) := by
    refine F.okX S lenOf (fun cdv A outer sh H vs Q E hr h => ?_)
    have hl := lenOf vs H Q E h
    obtain ⟨G, ds, pot, a, gh, gP, hp, h⟩ := h
    obtain ⟨t, ht, hs⟩ := hbody cdv A outer sh H E hr
    refine ⟨t, ht, hs G H G H _ _ _ (start_rel a gh gP hp) _ ?_⟩
    exact post_fn (f := fun _ _ => .bad) ((AtL.length a).symm.trans hl) h
  have raw := ok.raw hb .nil
  exact raw.imp fun vs H Q E h => by rw [List.append_nil]; exact h
/-- def f(*xs) -/
def denStar (m : Nat) (s : MS) : RF := fun ds pot => denF 1 m s [.tup ds] pot
theorem fn_star_ss {x qual pv : Str} {st : Stmt} {f : Addr} {fd : FuncData} {N : List Str} {k : Nat} {s : MS} (F : Fun c.K x qual st f fd) (S : FnScope N [pv] (defScope st))
    (hbd : ∀ (kV doc pm : Value) (an : Option Addr) (cdv ct : Value) (rest : List Value), bindArgs (PySem.W.fnOf x qual (defArgs st) (defBody st) (defScope st) .none kV doc pm an cdv ct) ⟨rest, []⟩ = (newTuple rest >>= fun t => pure [(pv, t)]))
    (hbody : ∀ (cdv : Value) (A : Around) (outer : List Env) (sh : Shared) (H : Hp) (E' : XK), Room k (A.deeper (PyProof.Rows.envOfC qual (defScope st) sh.heap.objs.size f cdv)) →
      ∃ t, PSs (cxOf (L2.CX P w) P w c.K mg base N qual (defScope st) f cdv A outer sh H E') (defBody st) t ∧ SS c (fun _ => E') t s) :
    FnR P w c.K mg base (L2.CX P w) (k + 1) f (spD c (fun ds pot => if ds.length ≤ 1000 then denStar N.length s ds pot else .bad)) := by
  obtain ⟨oc, od, kV, doc, pm, an, cdv, ct, osl, rfl, lk, hcd⟩ := F.ex
  have z := StX.fn_star (CX := L2.CX P w) (P := P) (w := w) (mg := mg) (base := base) (k := k) (ps := []) (sp := spD c (denF 1 N.length s)) lk hcd S StX.cxUp (fun us rest hu => by
    cases us with
    | nil => exact hbd _ _ _ _ _ _ rest
    | cons _ _ => cases hu) (fun A outer sh H vs Q E hr h => by
    obtain ⟨G, ds, pot, a, gh, gP, hp, h⟩ := h
    obtain ⟨t, ht, hs⟩ := hbody cdv A outer sh H E hr
    refine ⟨t, ht, hs G H G H _ _ _ (start_rel a gh gP hp) _ ?_⟩
    have hl : ds.length = 1 := by
      by_cases z : ds.length = 1
      · exact z
      · unfold denF at h
        rw [if_neg z] at h
        exact h.elim
    exact post_fn (f := fun _ _ => .bad) hl h)
  refine z.imp fun vs H Q E h => ?_
  obtain ⟨G, ds, pot, a, gh, gP, hp, h⟩ := h
  by_cases hz : ds.length ≤ 1000
  · dsimp only at h
    rw [if_pos hz] at h
    refine ⟨[], vs, rfl, rfl, by rw [AtL.length a]; exact sz1000 hz, fun p hpn => ?_⟩
    have hPp : ∀ a, c.B a → a ≠ p := fun a b z => c.full hp a b (by rw [z]; exact hpn)
    have s1 : Stp c.B G H (upd G p (.tup vs)) (upd H p (.tup vs)) := Stp.lay gh hpn
    refine ⟨upd G p (.tup vs), [.tup ds], pot, .cons (at_new_t gh hpn a) .nil, s1.gh, fun a b => (upd_ne (hPp a b)).trans (gP a b), c.ext (fun a b => upd_ne (hPp a b)) hp, ?_⟩
    unfold denStar at h
    cases e : denF 1 N.length s [.tup ds] pot with
    | ok d q => rw [e] at h; exact fun v G' H' s2 hq av => h v G' H' (s1.trans s2) hq av
    | err m q => rw [e] at h; exact fun H' s2 hq => h H' ⟨Ex.refl _, (s1.trans s2).gg.trans s2.gh, (s1.trans s2).keep, (s1.trans s2).there, fun _ _ z => .inl z⟩ hq
    | bad => rw [e] at h; exact h.elim
  · dsimp only at h
    rw [if_neg hz] at h
    exact h.elim
end
end Den
namespace Den
open PySem L2
mutual
def pd : D → Option PyData
  | .non => some .none
  | .bl b => some (.bool b)
  | .int i => some (.int i)
  | .lst ds => (pdL ds).map .list
  | .tup ds => (pdL ds).map .tuple
  | .str _ => none
  | .ins _ _ _ => none
  | .pot => none
  | .ty _ => none
  | .cls _ => none
  | .dct _ => none
def pdL : List D → Option (List PyData)
  | [] => some []
  | d :: ds => match pd d, pdL ds with
    | some a, some as => some (a :: as)
    | _, _ => none
end
mutual
theorem pd_at {K : PySem.W.Frag} {P : Addr} {G H : Hp} (gh : Ex G H) : ∀ (d : D) (x : V) (q : PyData), At P G x d → pd d = some q → Dp K H x q ∧ q.canLay0 = true
  | .non, _, _, h, e => by cases h; cases e; exact ⟨.non, rfl⟩
  | .bl b, _, _, h, e => by cases h; cases e; exact ⟨.bl b, rfl⟩
  | .int i, _, _, h, e => by cases h; cases e; exact ⟨.int i, rfl⟩
  | .lst ds, _, q, h, e => by
    obtain ⟨p, vs, rfl, hg, al⟩ := at_lst h
    unfold pd at e
    cases e1 : pdL ds with
    | none => rw [e1] at e; cases e
    | some as =>
      rw [e1] at e
      cases e
      obtain ⟨h1, h2⟩ := pdL_at gh ds vs as al e1
      exact ⟨.lst (.inl (.inl (gh _ _ hg))) h1, by simp only [PyData.canLay0]; exact h2⟩
  | .tup ds, _, q, h, e => by
    obtain ⟨p, vs, rfl, hg, al⟩ := at_tup h
    unfold pd at e
    cases e1 : pdL ds with
    | none => rw [e1] at e; cases e
    | some as =>
      rw [e1] at e
      cases e
      obtain ⟨h1, h2⟩ := pdL_at gh ds vs as al e1
      exact ⟨.tup (.inl (.inl (gh _ _ hg))) h1, by simp only [PyData.canLay0]; exact h2⟩
  | .str _, _, _, _, e => by cases e
  | .ins _ _ _, _, _, _, e => by cases e
  | .pot, _, _, _, e => by cases e
  | .ty _, _, _, _, e => by cases e
  | .cls _, _, _, _, e => by cases e
  | .dct _, _, _, _, e => by cases e
theorem pdL_at {K : PySem.W.Frag} {P : Addr} {G H : Hp} (gh : Ex G H) : ∀ (ds : List D) (vs : List V) (qs : List PyData), AtL P G vs ds → pdL ds = some qs → DpAll K H vs qs ∧ PyData.canLayAll0 qs = true
  | [], _, _, h, e => by cases h; cases e; exact ⟨.nil, rfl⟩
  | d :: ds, _, qs, h, e => by
    cases h with
    | cons h1 h2 =>
      unfold pdL at e
      split at e
      · rename_i a as e1 e2
        cases e
        obtain ⟨a1, a2⟩ := pd_at gh d _ a h1 e1
        obtain ⟨b1, b2⟩ := pdL_at gh ds _ as h2 e2
        exact ⟨.cons a1 b1, by simp only [PyData.canLayAll0, a2, b2]; rfl⟩
      · cases e
end
def fEqD (neg : Bool) (x y : D) : Option D := match pd x, pd y with
  | some a, some b => if a.depth ≤ 64 ∧ b.depth ≤ 64 then some (.bl (if neg then !PyData.eqv a b else PyData.eqv a b)) else none
  | _, _ => none
section
variable {c : Cfg} {E : St → XK}
theorem shp {q : PyData} (h1 : q.canLay0 = true) (h2 : q.depth ≤ 64) : SeqAt.shaped q = true := by
  unfold SeqAt.shaped
  rw [h1, decide_eq_true h2]
  rfl
theorem s2_eqD : S2 c (rEqD c.K) (fEqD false) := ⟨fun G H x y dx dy d gh _ hx hy e => by
  unfold fEqD at e
  split at e
  · rename_i a b e1 e2
    split at e
    · rename_i z
      cases e
      obtain ⟨a1, a2⟩ := pd_at (K := c.K) gh dx x a hx e1
      obtain ⟨b1, b2⟩ := pd_at (K := c.K) gh dy y b hy e2
      exact ops_pure gh (.bl _) fun Q q => ⟨a, b, a1, b1, shp a2 z.1, shp b2 z.2, q⟩
    · cases e
  · cases e⟩
theorem s2_neD : S2 c (rNeD c.K) (fEqD true) := ⟨fun G H x y dx dy d gh _ hx hy e => by
  unfold fEqD at e
  split at e
  · rename_i a b e1 e2
    split at e
    · rename_i z
      cases e
      obtain ⟨a1, a2⟩ := pd_at (K := c.K) gh dx x a hx e1
      obtain ⟨b1, b2⟩ := pd_at (K := c.K) gh dy y b hy e2
      exact ops_pure gh (.bl _) fun Q q => ⟨a, b, a1, b1, shp a2 z.1, shp b2 z.2, q⟩
    · cases e
  · cases e⟩
def minc (neg : Bool) (a : M D) (i : Nat) : M D := mbind a fun x l p => match l[i]? with
  | some (some (.cell ds)) => match sc x, scL ds with
    | some v, some vs => .ok (.bl (if neg then !inV v vs else inV v vs)) p
    | _, _ => .bad
  | _ => .bad
theorem se_inc {neg : Bool} {t : TE} {a : M D} {i : Nat} (ha : SE c E t a) : SE c E (tOp (rIn c.K neg) t (tVar i)) (minc neg a i) := by
  intro G0 H0 G H σ l pot r Q post
  refine Sn.go ha r post fun x dx p G1 H1 s1 r1 hx post1 => ?_
  split at post1
  · rename_i ds hc
    obtain ⟨q, vs, hσ, h1, h2⟩ := cell_at r1 hc
    split at post1
    · rename_i v ws e1 e2
      obtain ⟨q1, q2⟩ := scL_at h2 e2
      subst q1
      rw [sc_at hx e1]
      exact ⟨.ref q, hσ, q, vs, rfl, .inl (.inl (.inl h1)), sc_flat e1, q2, post1 _ _ _ (Stp.refl r1.stp.gh) r1 (.bl _)⟩
    · exact post1.elim
  · exact post1.elim

theorem lookup_zip {P : Addr} {G : Hp} {f : Str} : ∀ {ns : List Str} {vs : List V} {ds : List D} {d : D}, AtL P G vs ds → (ns.zip ds).lookup f = some d → ∃ v, (ns.zip vs).lookup f = some v ∧ At P G v d
  | [], _, _, _, _, e => by simp at e
  | _ :: _, _, [], _, .nil, e => by simp at e
  | n :: ns, _, d' :: ds, d, .cons (v := v) (vs := vs) h t, e => by
    rw [List.zip_cons_cons, List.lookup_cons] at e ⊢
    cases q : f == n with
    | true => rw [q] at e; cases e; exact ⟨v, rfl, h⟩
    | false => rw [q] at e; exact lookup_zip t e
def fFld (C : Addr) (f : Str) : D → Option D
  | .ins C' ns ds => if C' = C then (ns.zip ds).lookup f else none
  | _ => none
def mfld (C : Addr) (f : Str) (a : M D) : M D := op1 (fFld C f) a
theorem fld_at {G : Hp} {C : Addr} {f : Str} {x : V} {d dd : D} (hx : At c.P G x d) (e : fFld C f d = some dd) : ∃ p dx fs v, x = .ref p ∧ G p = some (.ins C dx fs) ∧ fs.lookup f = some v ∧ At c.P G v dd := by
  cases d with
  | ins C' ns ds =>
    unfold fFld at e
    dsimp only at e
    split at e
    · rename_i z
      subst z
      cases hx with
      | ins h al =>
        obtain ⟨v, e1, av⟩ := lookup_zip al e
        exact ⟨_, _, _, v, rfl, h, e1, av⟩
    · cases e
  | _ => cases e
/-- a property that hands a field out -/
theorem se_prop {C : Addr} {f : Str} {t : TE} {a : M D} (ha : SE c E t a) : SE c E (tProp C (getSp C f) [] E0 t) (mfld C f a) := by
  intro G0 H0 G H σ l pot r Q post
  refine Sn.go ha r post fun x dx p G1 H1 s1 r1 hx post1 => ?_
  obtain ⟨dd, e, post2⟩ := post_lift0 post1
  obtain ⟨q, ddx, fs, v, rfl, h, e1, av⟩ := fld_at hx e
  exact ⟨q, ddx, fs, rfl, r1.stp.gh _ _ h, q, ddx, fs, v, rfl, r1.stp.gh _ _ h, e1, Post.ok post2 r1 av⟩
/-- self._f in the making: slot i holds the instance -/
def mfldO (C : Addr) (i : Nat) (f : Str) : M D := fun l p => match l[i]? with
  | some (some (.obj _ C' ns ds)) => if C' = C then (match (ns.zip ds).lookup f with
    | some d => .ok d p
    | none => .bad) else .bad
  | _ => .bad
theorem obj_at {G0 H0 G H : Hp} {σ : St} {l : Loc} {pot : List Int} {i : Nat} {ea C : Addr} {ns : List Str} {ds : List D} (r : Rel c G0 H0 G H σ l pot) (hc : l[i]? = some (some (.obj ea C ns ds))) :
    ∃ p vs dx, p = ea ∧  σ[i]? = some (some (.ref p)) ∧ H p = some (.ins C dx (ns.zip vs)) ∧ AtL c.P G vs ds ∧ G p = none ∧ H0 p = none ∧ ¬ c.B p := by
  have q := r.slot i _ hc
  cases ho : σ[i]? with
  | none => rw [ho] at q; exact q.elim
  | some o =>
    cases o with
    | none => rw [ho] at q; exact q.elim
    | some v =>
      cases v with
      | ref p =>
        rw [ho] at q
        obtain ⟨hea, vs, dx, h1, h2, h3, h4, h5⟩ := q
        exact ⟨p, vs, dx, hea, rfl, h1, h2, h3, h4, h5⟩
      | _ => rw [ho] at q; exact q.elim
theorem se_fldO {C : Addr} {i : Nat} {f : Str} (hC : Cls c.K C) (hN : NoAttr c.K C f) : SE c E (tFld c.K (tVar i) f) (mfldO C i f) := by
  intro G0 H0 G H σ l pot r Q post
  unfold mfldO at post
  split at post
  · rename_i ea C' ns ds hc
    split at post
    · rename_i z
      subst z
      obtain ⟨p, vs, dx, _, hσ, h1, h2, _⟩ := obj_at r hc
      split at post
      · rename_i d e
        obtain ⟨v, e1, av⟩ := lookup_zip h2 e
        exact ⟨.ref p, hσ, p, C', dx, _, v, rfl, h1, hC, hN, e1, Post.ok post r av⟩
      · exact post.elim
    · exact post.elim
  · exact post.elim
/-- self._f = e, a new attribute -/
def sfldO (C : Addr) (i : Nat) (f : Str) (a : M D) : MS := sbind a fun x l p => match l[i]? with
  | some (some (.obj ea C' ns ds)) => if C' = C ∧ ns.length = ds.length ∧ ns.length < 1000 ∧ f ∉ ns then .nx (l.set i (some (.obj ea C (ns ++ [f]) (ds ++ [x])))) p else .bad
  | _ => .bad
theorem putF_zip {f : Str} {v : V} : ∀ {ns : List Str} {vs : List V}, ns.length = vs.length → f ∉ ns → putF f v (ns.zip vs) = (ns ++ [f]).zip (vs ++ [v])
  | [], [], _, _ => rfl
  | [], _ :: _, h, _ => by cases h
  | _ :: _, [], h, _ => by cases h
  | n :: ns, w :: vs, h, hf => by
    have hn : n ≠ f := fun z => hf (by rw [z]; exact List.mem_cons_self)
    rw [List.zip_cons_cons, List.cons_append, List.cons_append, List.zip_cons_cons]
    show (if n = f then _ else _) = _
    rw [if_neg hn]
    exact congrArg _ (putF_zip (by simpa using h) fun z => hf (List.mem_cons_of_mem _ z))
theorem Rel.writeO {G0 H0 G H : Hp} {σ : St} {l : Loc} {pot : List Int} {i : Nat} {p ea C dx : Addr} {ns ns' : List Str} {vs : List V} {ds es : List D} (r : Rel c G0 H0 G H σ l pot) (hc : l[i]? = some (some (.obj ea C ns es))) (hσ : σ[i]? = some (some (.ref p))) (a : AtL c.P G vs ds) :
    Rel c G0 H0 G (upd H p (.ins C dx (ns'.zip vs))) σ (l.set i (some (.obj ea C ns' ds))) pot := by
  have q := r.slot i _ hc
  rw [hσ] at q
  obtain ⟨hea, ws, dx0, h1, h2, h3, h4, h5⟩ := q
  have hi : i < l.length := (List.getElem?_eq_some_iff.mp hc).1
  refine ⟨⟨r.stp.gg, fun b o e => ?_, fun b o e n => ?_, fun b e => ?_, r.stp.new⟩, c.ext (fun a b => upd_ne (fun z => h5 (by rw [← z]; exact b))) r.pot, r.gP, r.hP, by rw [List.length_set, r.len], fun j x e => ?_, fun j k x y e1 e2 o1 o2 ne => ?_⟩
  · rw [upd_ne (fun z => by subst z; rw [h3] at e; cases e)]; exact r.stp.gh b o e
  · rw [upd_ne (fun z => by subst z; rw [h4] at e; cases e)]; exact r.stp.keep b o e n
  · by_cases z : b = p
    · subst z; exact h4
    · rw [upd_ne z] at e; exact r.stp.there b e
  · by_cases z : j = i
    · subst z
      rw [List.getElem?_set_self hi] at e
      cases e
      rw [hσ]
      exact ⟨hea, vs, dx, upd_same, a, h3, h4, h5⟩
    · rw [List.getElem?_set_ne (Ne.symm z)] at e
      have a2 := r.slot j x e
      match ho : σ[j]?, x, a2 with
      | some (some v), .dat d, a2 => exact a2
      | some (some (.ref q)), .cell ds', ⟨ws', g1, g2, g3, g4⟩ =>
        have nq : q ≠ p := fun w => r.dist j i _ _ e hc rfl rfl z (by rw [ho, hσ, w])
        exact ⟨ws', (upd_ne nq).trans g1, g2, g3, g4⟩
      | some (some (.ref q)), .obj ea C ns ds', ⟨hea, ws', dx, g1, g2, g3, g4, g5⟩ =>
        have nq : q ≠ p := fun w => r.dist j i _ _ e hc rfl rfl z (by rw [ho, hσ, w])
        exact ⟨hea, ws', dx, (upd_ne nq).trans g1, g2, g3, g4, g5⟩
  · have back : ∀ (m : Nat) (x : L), (l.set i (some (.obj ea C ns' ds)))[m]? = some (some x) → owned x = true → ∃ y, l[m]? = some (some y) ∧ owned y = true := fun m x e o => by
      by_cases z : m = i
      · subst z; exact ⟨_, hc, rfl⟩
      · rw [List.getElem?_set_ne (Ne.symm z)] at e; exact ⟨x, e, o⟩
    obtain ⟨x', e1', o1'⟩ := back j x e1 o1
    obtain ⟨y', e2', o2'⟩ := back k y e2 o2
    exact r.dist j k x' y' e1' e2' o1' o2' ne
theorem ss_fldO {C : Addr} {i : Nat} {f : Str} {t : TE} {a : M D} (hC : Cls c.K C) (hN : NoAttr c.K C f) (ha : SE c E t a) : SS c E (sFld c.K (tVar i) t f) (sfldO C i f a) := by
  intro G0 H0 G H σ l pot r De post
  refine Sn.goS ha r post fun x dx p G1 H1 s1 r1 hx post1 => ?_
  split at post1
  · rename_i ea C' ns ds hc
    split at post1
    · rename_i z
      obtain ⟨rfl, z1, z2, z3⟩ := z
      obtain ⟨q, vs, ddx, _, hσ, h1, h2, _⟩ := obj_at r1 hc
      have hlen : ns.length = vs.length := z1.trans (AtL.length h2).symm
      refine ⟨.ref q, hσ, q, C', ddx, _, rfl, h1, hC, hN, ?_, ?_⟩
      · rw [List.length_zip, ← hlen, Nat.min_self]; exact z2
      · rw [putF_zip hlen z3]
        exact PostS.of post1 (r1.writeO hc hσ (AtL.append h2 (.cons hx .nil)))
    · exact post1.elim
  · exact post1.elim
abbrev RI := List D → List Int → R (List Str × List D)
def spI (c : Cfg) (C : Addr) (f : RI) : Sp := fun vs H Q E => ∃ x dx vs' H1 G ds pot, vs = .ref x :: vs' ∧ H = upd (upd H1 dx (.own x)) x (.ins C dx []) ∧ H1 x = none ∧ H1 dx = none ∧ dx ≠ x ∧ AtL c.P G vs' ds ∧ Ex G H1 ∧ (∀ a, c.B a → G a = none) ∧ c.inv pot H1 ∧ (match f ds pot with
  | .ok (ns, es) p => ∀ G' H' dx' ws, Stp c.B G H1 G' H' → H' x = some (.ins C dx' (ns.zip ws)) → AtL c.P G' ws es → G' x = none → c.inv p H' → Q .non H'
  | .err m p => ∀ H', Stp c.B G H1 G H' → c.inv p H' → E (.ref (c.ec m)) none H'
  | .bad => False)
def mmake (C : Addr) (f : RI) (a : M (List D)) : M D := mbind a fun ds _ p => match f ds p with
  | .ok (ns, es) q => .ok (.ins C ns es) q
  | .err m q => .err m q
  | .bad => .bad
theorem se_make {C : Addr} {f : RI} {E' : XK} {t : TA} {a : M (List D)} (ha : SA c (fun _ => E') t a) : SE c (fun _ => E') (StX.tMakeR C (spI c C f) E' t) (mmake C f a) := by
  intro G0 H0 G H σ l pot r Q post
  refine Sn.go ha r post fun x dx p G1 H1 s1 r1 hx post1 => ?_
  intro y dy hy hdy ne
  refine ⟨y, dy, x, H1, G1, dx, p, rfl, rfl, hy, hdy, ne, hx, r1.stp.gh, r1.gP, r1.pot, ?_⟩
  cases e : f dx p with
  | bad => rw [e] at post1; exact post1.elim
  | err m q =>
    rw [e] at post1
    exact fun H' s hp => post1 G1 H' (Ex.refl _) (r1.step s hp)
  | ok z q =>
    obtain ⟨ns, es⟩ := z
    rw [e] at post1
    intro G' H' dx' ws s h1 h2 h3 h4
    have rr := r1.step s h4
    have h0 : H0 y = none := r1.stp.there y hy
    have hP : ¬ c.B y := fun z => r.hP y z h0
    have r2 := Rel.freeze rr h1 h0 hP (fun i x e ho => r1.own_ne hy i x e ho) h3
    refine ⟨rfl, post1 (.ref y) _ H' ⟨s.gg.trans (Ex.new h3), r2.stp.gh, s.keep, s.there, fun b u e => ?_⟩ r2 (.ins upd_same (AtL.mono (Ex.new h3) h2))⟩
    by_cases z : b = y
    · subst z; exact .inr hy
    · rw [upd_ne z] at e; exact s.new b u e
/-- an __init__ of n parameters with self, and m slots; self stands at x -/
def outI (x C : Addr) : O → R (List Str × List D)
  | .nx l p => match l[0]? with
    | some (some (L.obj y C' ns ds)) => if y = x ∧ C' = C then .ok (ns, ds) p else .bad
    | _ => .bad
  | .err k _ p => .err k p
  | _ => .bad
def locI (x C : Addr) (n : Nat) (ds : List D) : Loc := some (.obj x C [] []) :: (ds.map (fun d => some (.dat d)) ++ List.replicate (n - (ds.length + 1)) none)
def denI (x C : Addr) (n m : Nat) (s : MS) : RI := fun ds pot => if ds.length + 1 = n then outI x C (s (locI x C m ds) pot) else .bad
end
section
variable {c : Cfg} {P : Program} {w : World} {mg : Str → Option Value} {base : Heap}
theorem startI_rel {G H1 : Hp} {N : List Str} {vs : List V} {ds : List D} {pot : List Int} {x dx C : Addr} (a : AtL c.P G vs ds) (gh : Ex G H1) (gP : (∀ a, c.B a → G a = none)) (hp : c.inv pot H1) (hx : H1 x = none) (hdx : H1 dx = none) (ne : dx ≠ x) :
    Rel c G H1 G (upd (upd H1 dx (.own x)) x (.ins C dx [])) (L2.start N (.ref x :: vs)) (locI x C N.length ds) pot := by
  have hl := AtL.length a
  have hP1 : ∀ a, c.B a → a ≠ dx := fun a b z => c.full hp a b (by rw [z]; exact hdx)
  have hP2 : ∀ a, c.B a → a ≠ x := fun a b z => c.full hp a b (by rw [z]; exact hx)
  have s1 : Stp c.B G H1 G (upd H1 dx (.own x)) := Stp.lay0 gh hdx
  have s2 : Stp c.B G (upd H1 dx (.own x)) G (upd (upd H1 dx (.own x)) x (.ins C dx [])) := Stp.lay0 s1.gh (by rw [upd_ne (Ne.symm ne)]; exact hx)
  have hG : G x = none := by
    cases e : G x with
    | none => rfl
    | some u => have := gh x u e; rw [hx] at this; cases this
  have tl : ∀ (i : Nat) (y : L), (ds.map (fun d => some (L.dat d)) ++ List.replicate (N.length - (ds.length + 1)) none)[i]? = some (some y) → ∃ d v, y = .dat d ∧ (vs.map some ++ List.replicate (N.length - (vs.length + 1)) none)[i]? = some (some v) ∧ At c.P G v d := fun i y e => by
    by_cases hi : i < ds.length
    · rw [List.getElem?_append_left (by simpa using hi), List.getElem?_map] at e
      have ed := List.getElem?_eq_getElem hi
      rw [ed] at e
      cases e
      obtain ⟨v, ev, av⟩ := AtL.get a ed
      refine ⟨_, v, rfl, ?_, av⟩
      rw [List.getElem?_append_left (by simp [hl, hi]), List.getElem?_map, ev]
      rfl
    · rw [List.getElem?_append_right (by simpa using hi), List.getElem?_replicate] at e
      split at e <;> cases e
  have est : L2.start N (.ref x :: vs) = some (.ref x) :: (vs.map some ++ List.replicate (N.length - (vs.length + 1)) none) := by
    unfold L2.start
    rw [List.map_cons, List.cons_append, List.length_cons]
  refine ⟨s1.trans s2, c.ext (fun a b => by rw [upd_ne (hP2 a b), upd_ne (hP1 a b)]) hp, gP, c.full hp, by rw [est]; simp [locI, hl], fun i y e => ?_, fun i j y z e1 e2 o1 o2 n => ?_⟩
  · rw [est]
    cases i with
    | zero =>
      cases e
      exact ⟨rfl, [], dx, upd_same, .nil, hG, hx, fun b => hP2 x b rfl⟩
    | succ i =>
      obtain ⟨d, v, rfl, ev, av⟩ := tl i y (by simpa [locI] using e)
      rw [List.getElem?_cons_succ, ev]
      exact av
  · exfalso
    cases i with
    | zero =>
      cases j with
      | zero => exact n rfl
      | succ j =>
        obtain ⟨d, v, rfl, _⟩ := tl j z (by simpa [locI] using e2)
        cases o2
    | succ i =>
      obtain ⟨d, v, rfl, _⟩ := tl i y (by simpa [locI] using e1)
      cases o1
theorem init_ss {nm qual : Str} {st : Stmt} {f C : Addr} {fd : FuncData} {N ps : List Str} {k : Nat} {s : MS} {g : RI} (F : Fun c.K nm qual st f fd) (S : FnScope N ps (defScope st)) (hb : Binds c.K fd ps [])
    (hg : ∀ x ds pot, ds.length + 1 = ps.length → g ds pot ≠ .bad → denI x C ps.length N.length s ds pot = g ds pot) (hlen : ∀ ds pot, g ds pot ≠ .bad → ds.length + 1 = ps.length)
    (hbody : ∀ (cdv : Value) (A : Around) (outer : List Env) (sh : Shared) (H : Hp) (E' : XK), Room k (A.deeper (PyProof.Rows.envOfC qual (defScope st) sh.heap.objs.size f cdv)) →
      ∃ t, PSs (cxOf (L2.CX P w) P w c.K mg base N qual (defScope st) f cdv A outer sh H E') (defBody st) t ∧ SS c (fun _ => E') t s) :
    FnR P w c.K mg base (L2.CX P w) (k + 1) f (spI c C g) := by
  have nb : ∀ {ds pot} {R' : R (List Str × List D) → Prop}, R' (g ds pot) → (R' .bad → False) → g ds pot ≠ .bad := fun {ds pot R'} h hb z => by rw [z] at h; exact hb h
  have lenOf : ∀ vs H Q E, spI c C g vs H Q E → vs.length = ps.length := fun vs H Q E h => by
    obtain ⟨x, dx, vs', H1, G, ds, pot, rfl, rfl, hx, hdx, ne, a, gh, gP, hp, h⟩ := h
    have hd := hlen ds pot (fun z => by rw [z] at h; exact h)
    rw [List.length_cons, AtL.length a]
    exact hd
  have ok : FnOk P w c.K mg base (L2.CX P w) (k + 1) f fd ps (spI c C g) := by
    refine F.okX S lenOf (fun cdv A outer sh H vs Q E hr h => ?_)
    obtain ⟨x, dx, vs', H1, G, ds, pot, rfl, rfl, hx, hdx, ne, a, gh, gP, hp, h⟩ := h
    have nbad : g ds pot ≠ .bad := fun z => by rw [z] at h; exact h
    have hd := hlen ds pot nbad
    obtain ⟨t, ht, hs⟩ := hbody cdv A outer sh _ E hr
    refine ⟨t, ht, hs G H1 G _ _ _ _ (startI_rel a gh gP hp hx hdx ne) _ ?_⟩
    have e := hg x ds pot hd nbad
    unfold denI at e
    rw [if_pos hd] at e
    rw [← e] at h
    cases e2 : s (locI x C N.length ds) pot with
    | nx l p =>
      rw [e2] at h
      unfold outI at h
      dsimp only at h
      split at h
      · rename_i z
        split at z
        · rename_i y C' ns es hl
          split at z
          · rename_i w
            obtain ⟨rfl, rfl⟩ := w
            cases z
            intro G' H' σ' eg r
            obtain ⟨q, ws, dx', eq, hσ, g1, g2, g3, _, _⟩ := obj_at r hl
            subst eq
            exact h G' H' dx' ws r.stp g1 g2 g3 r.pot
          · cases z
        · cases z
      · rename_i z
        split at z
        · split at z
          · cases z
          · cases z
        · cases z
      · exact h.elim
    | rt d p => rw [e2] at h; exact h.elim
    | err m l p =>
      rw [e2] at h
      exact fun G' H' σ' eg r => h H' ⟨Ex.refl _, r.stp.gg.trans r.stp.gh, r.stp.keep, r.stp.there, fun _ _ z => .inl z⟩ r.pot
    | bk l p => rw [e2] at h; exact h.elim
    | ct l p => rw [e2] at h; exact h.elim
    | bad => rw [e2] at h; exact h.elim
  have raw := ok.raw hb .nil
  exact raw.imp fun vs H Q E h => by rw [List.append_nil]; exact h
end
end Den
namespace Den
open PySem L2
def rListF (K : PySem.W.Frag) : List V → Hp → VK → Prop := fun xs H Q => ∃ p ys, xs = [.ref p] ∧ (SqL K H p ys ∨ SqT K H p ys) ∧ ∀ l, H l = none → Q (.ref l) (upd H l (.lst ys))
def rTupleF (K : PySem.W.Frag) : List V → Hp → VK → Prop := fun xs H Q => ∃ p ys, xs = [.ref p] ∧ ((SqL K H p ys ∧ ∀ l, H l = none → Q (.ref l) (upd H l (.tup ys))) ∨ (SqT K H p ys ∧ Q (.ref p) H))
def rMax2F : List V → Hp → VK → Prop := fun xs H Q => ∃ i j, xs = [.int i, .int j] ∧ Q (.int (if j > i then j else i)) H
def rMin2F : List V → Hp → VK → Prop := fun xs H Q => ∃ i j, xs = [.int i, .int j] ∧ Q (.int (if j < i then j else i)) H
def rIntF : List V → Hp → VK → Prop := fun xs H Q => (∃ i, xs = [.int i] ∧ Q (.int i) H) ∨ ∃ k, xs = [.bl k] ∧ Q (.int (if k then 1 else 0)) H
def rIsNF : R2 := fun x y H Q => y = .non ∧ Q (.bl (decide (x = .non))) H
def rNotNF : R2 := fun x y H Q => y = .non ∧ Q (.bl (!decide (x = .non))) H
section
variable {c : Cfg} {E : St → XK}
end
theorem pe_gint {X : Cx} {x : Str} {i : Int} {pos : Pos} (hg : Gl X x) (h : ∃ t, X.mg x = some (.int i t)) (hd : (x == ("__debug__" : Str)) = false := by decide) : PE X (.Name x pos) (tC (.int i)) := by
  refine ⟨fun pins s σ H Q I hq => ?_⟩
  obtain ⟨t, h⟩ := h
  exact (pe_glob hg h (v := .int i) ⟨t, rfl⟩ hd).run pins s σ H Q I hq
theorem getter_of {CX : CXT} {P : Program} {w : World} {K : PySem.W.Frag} {mg : Str → Option Value} {base : Heap} {x qual f : Str} {st : Stmt} {g C : Addr} {fd : FuncData} {p1 p2 p3 : Pos} (F : Fun K x qual st g fd) (S : FnScope ["self"] ["self"] (defScope st))
    (hb : defBody st = [.Return (some (.Attribute (.Name "self" p1) f p2)) p3]) (hN : (["self"] : List Str)[0]? = some ("self" : Str)) (cl : Cls K C) (n : NoAttr K C f) : FnOk P w K mg base CX 1 g fd ["self"] (getSp C f) := by
  obtain ⟨oc, od, kV, doc, pm, an, cdv, ct, osl, rfl, lk, hcd⟩ := F.ex
  exact fn_getter (k := 0) lk hcd S hN hb cl n
end Den
namespace Den
open PySem L2
@[simp] theorem mret_ev {α : Type} (a : α) (l : Loc) (p : List Int) : mret a l p = .ok a p := rfl
@[simp] theorem mbind_ev {α β : Type} (a : M α) (k : α → M β) (l : Loc) (p : List Int) : mbind a k l p = (a l p).bind fun x p' => k x l p' := rfl
@[simp] theorem bind_ok {α β : Type} (a : α) (p : List Int) (k : α → List Int → R β) : (R.ok a p).bind k = k a p := rfl
@[simp] theorem bind_err {α β : Type} (n : Nat) (p : List Int) (k : α → List Int → R β) : (R.err n p : R α).bind k = .err n p := rfl
@[simp] theorem bind_bad {α β : Type} (k : α → List Int → R β) : (R.bad : R α).bind k = .bad := rfl
@[simp] theorem mlift_some {α : Type} (a : α) (l : Loc) (p : List Int) : mlift (some a) l p = .ok a p := rfl
@[simp] theorem mlift_none {α : Type} (l : Loc) (p : List Int) : (mlift none : M α) l p = .bad := rfl
theorem mvar_ev {i : Nat} {l : Loc} {p : List Int} {d : D} (h : l[i]? = some (some (.dat d))) : mvar i l p = .ok d p := by
  unfold mvar
  rw [h]
@[simp] theorem op2_ev (f : D → D → Option D) (a b : M D) (l : Loc) (p : List Int) : op2 f a b l p = (a l p).bind fun x p' => (b l p').bind fun y p'' => mlift (f x y) l p'' := rfl
@[simp] theorem op1_ev (f : D → Option D) (a : M D) (l : Loc) (p : List Int) : op1 f a l p = (a l p).bind fun x p' => mlift (f x) l p' := rfl
@[simp] theorem opn_ev (f : List D → Option D) (a : M (List D)) (l : Loc) (p : List Int) : opn f a l p = (a l p).bind fun x p' => mlift (f x) l p' := rfl
@[simp] theorem anil_ev (l : Loc) (p : List Int) : anil l p = .ok [] p := rfl
@[simp] theorem acons_ev (a : M D) (b : M (List D)) (l : Loc) (p : List Int) : acons a b l p = (a l p).bind fun x p' => (b l p').bind fun ys p'' => .ok (x :: ys) p'' := rfl
@[simp] theorem mtest_ev (a : M D) (l : Loc) (p : List Int) : mtest a l p = (a l p).bind fun x p' => mlift (boolOf x) l p' := rfl
@[simp] theorem boolOf_bl (b : Bool) : boolOf (.bl b) = some b := rfl
@[simp] theorem mcall_ev (f : RF) (a : M (List D)) (l : Loc) (p : List Int) : mcall f a l p = (a l p).bind fun x p' => f x p' := rfl
@[simp] theorem mand_ev (a b : M Bool) (l : Loc) (p : List Int) : mand a b l p = (a l p).bind fun x p' => if x = true then b l p' else .ok false p' := by
  unfold mand mbind
  congr 1; funext x p'; cases x <;> rfl
@[simp] theorem mor_ev (a b : M Bool) (l : Loc) (p : List Int) : mor a b l p = (a l p).bind fun x p' => if x = true then .ok true p' else b l p' := by
  unfold mor mbind
  congr 1; funext x p'; cases x <;> rfl
@[simp] theorem mnot_ev (a : M Bool) (l : Loc) (p : List Int) : mnot a l p = (a l p).bind fun x p' => .ok (!x) p' := rfl
@[simp] theorem mif_ev {α : Type} (t : M Bool) (a b : M α) (l : Loc) (p : List Int) : mif t a b l p = (t l p).bind fun x p' => if x = true then a l p' else b l p' := by
  unfold mif mbind
  congr 1; funext x p'; cases x <;> rfl
@[simp] theorem vand_ev (a b : M D) (l : Loc) (p : List Int) : vand a b l p = (mtest a l p).bind fun x p' => if x = true then b l p' else .ok (.bl false) p' := by
  unfold vand mbind
  congr 1; funext x p'; cases x <;> rfl
@[simp] theorem vor_ev (a b : M D) (l : Loc) (p : List Int) : vor a b l p = (mtest a l p).bind fun x p' => if x = true then .ok (.bl true) p' else b l p' := by
  unfold vor mbind
  congr 1; funext x p'; cases x <;> rfl
@[simp] theorem vnot_ev (a : M D) (l : Loc) (p : List Int) : vnot a l p = (mtest a l p).bind fun x p' => .ok (.bl (!x)) p' := rfl
@[simp] theorem mtru_ev (a : M D) (l : Loc) (p : List Int) : mtru a l p = (a l p).bind fun x p' => mlift (truOf x) l p' := rfl
@[simp] theorem mtrue_ev (l : Loc) (p : List Int) : mtrue l p = .ok true p := rfl
@[simp] theorem mfreeze_ev (a : M (List D)) (l : Loc) (p : List Int) : mfreeze a l p = (a l p).bind fun x p' => .ok (.lst x) p' := rfl
@[simp] theorem mshort_ev (a : M (List D)) (l : Loc) (p : List Int) : mshort a l p = (a l p).bind fun x p' => if x.length ≤ 1000 then .ok x p' else .bad := by
  unfold mshort mbind
  congr 1; funext x p'
  by_cases h : x.length ≤ 1000
  · simp only [if_pos h]; rfl
  · simp only [if_neg h]
@[simp] theorem mtupd_ev (a : M (List D)) (l : Loc) (p : List Int) : mtupd a l p = (mshort a l p).bind fun x p' => .ok (.tup x) p' := rfl
@[simp] theorem mlistN_ev (a : M (List D)) (l : Loc) (p : List Int) : mlistN a l p = (a l p).bind fun x p' => mlift (fSeq1 x) l p' := rfl
@[simp] theorem mpop_nil (l : Loc) (p : List Int) (a : M D) (h : a l p = .ok .pot []) : mpop a l p = .bad := by
  unfold mpop mbind; rw [h]; rfl
@[simp] theorem mfld_ev (C : Addr) (f : Str) (a : M D) (l : Loc) (p : List Int) : mfld C f a l p = (a l p).bind fun x p' => mlift (fFld C f x) l p' := rfl
@[simp] theorem sseq_nx (a b : MS) (l l' : Loc) (p p' : List Int) (h : a l p = .nx l' p') : sseq a b l p = b l' p' := by
  unfold sseq; rw [h]
def O.bind (o : O) (k : Loc → List Int → O) : O := match o with
  | .nx l p => k l p
  | o => o
@[simp] theorem O.bind_nx (l : Loc) (p : List Int) (k : Loc → List Int → O) : (O.nx l p).bind k = k l p := rfl
@[simp] theorem O.bind_rt (d : D) (p : List Int) (k : Loc → List Int → O) : (O.rt d p).bind k = .rt d p := rfl
@[simp] theorem O.bind_err (n : Nat) (l : Loc) (p : List Int) (k : Loc → List Int → O) : (O.err n l p).bind k = .err n l p := rfl
@[simp] theorem O.bind_bad (k : Loc → List Int → O) : O.bad.bind k = .bad := rfl
@[simp] theorem sseq_ev (a b : MS) (l : Loc) (p : List Int) : sseq a b l p = (a l p).bind b := by
  unfold sseq O.bind; cases a l p <;> rfl
@[simp] theorem sskip_ev (l : Loc) (p : List Int) : sskip l p = .nx l p := rfl
def R.toO {α : Type} (r : R α) (l : Loc) (k : α → List Int → O) : O := match r with
  | .ok x p => k x p
  | .err n p => .err n l p
  | .bad => .bad
@[simp] theorem toO_ok {α : Type} (a : α) (p : List Int) (l : Loc) (k : α → List Int → O) : (R.ok a p).toO l k = k a p := rfl
@[simp] theorem toO_err {α : Type} (n : Nat) (p : List Int) (l : Loc) (k : α → List Int → O) : (R.err n p : R α).toO l k = .err n l p := rfl
@[simp] theorem toO_bad {α : Type} (l : Loc) (k : α → List Int → O) : (R.bad : R α).toO l k = .bad := rfl
theorem sbind_ev {α : Type} (a : M α) (k : α → MS) (l : Loc) (p : List Int) : sbind a k l p = (a l p).toO l fun x p' => k x l p' := by
  unfold sbind R.toO; cases a l p <;> rfl
@[simp] theorem sif_ev (t : M Bool) (a b : MS) (l : Loc) (p : List Int) : sif t a b l p = (t l p).toO l fun x p' => if x = true then a l p' else b l p' := by
  unfold sif; rw [sbind_ev]; congr 1; funext x p'; cases x <;> rfl
@[simp] theorem sret_ev (a : M D) (l : Loc) (p : List Int) : sret a l p = (a l p).toO l fun x p' => .rt x p' := by unfold sret; rw [sbind_ev]
@[simp] theorem sdrop_ev (a : M D) (l : Loc) (p : List Int) : sdrop a l p = (a l p).toO l fun x p' => .nx l p' := by unfold sdrop; rw [sbind_ev]
@[simp] theorem sasg_ev (a : M D) (tg : D → Loc → Option Loc) (l : Loc) (p : List Int) : sasg a tg l p = (a l p).toO l fun x p' => match tg x l with
  | some l' => .nx l' p'
  | none => .bad := by unfold sasg; rw [sbind_ev] <;> rfl
@[simp] theorem sown_ev (a : M (List D)) (i : Nat) (l : Loc) (p : List Int) : sown a i l p = (a l p).toO l fun x p' => if i < l.length then .nx (l.set i (some (.cell x))) p' else .bad := by unfold sown; rw [sbind_ev]
@[simp] theorem sraise_ev (n : Nat) (l : Loc) (p : List Int) : sraise n l p = .err n l p := rfl
@[simp] theorem sfor_ev (a : M (List D)) (tg : D → Loc → Option Loc) (body : MS) (l : Loc) (p : List Int) : sfor a tg body l p = (a l p).toO l fun x p' => loop tg body x l p' := by unfold sfor; rw [sbind_ev]
@[simp] theorem outR_rt (d : D) (p : List Int) : outR (.rt d p) = .ok d p := rfl
@[simp] theorem outR_nx (l : Loc) (p : List Int) : outR (.nx l p) = .ok .non p := rfl
@[simp] theorem outR_err (n : Nat) (l : Loc) (p : List Int) : outR (.err n l p) = .err n p := rfl

@[simp] theorem fEq_int (i j : Int) : fEq (.int i) (.int j) = some (.bl (decide (i = j))) := by
  show (if scal (V.int i) (V.int j) = true then some (D.bl (decide (V.int i = V.int j))) else none) = _
  simp [scal]
@[simp] theorem fNe_int (i j : Int) : fNe (.int i) (.int j) = some (.bl (!decide (i = j))) := by
  show (if scal (V.int i) (V.int j) = true then some (D.bl (!decide (V.int i = V.int j))) else none) = _
  simp [scal]
theorem fEq_str (i j : Str) : fEq (.str i) (.str j) = some (.bl (decide (i = j))) := by
  show (if scal (V.str i) (V.str j) = true then some (D.bl (decide (V.str i = V.str j))) else none) = _
  simp [scal]
@[simp] theorem fAdd_int (i j : Int) : fAdd (.int i) (.int j) = some (.int (i + j)) := rfl
@[simp] theorem fSub_int (i j : Int) : fSub (.int i) (.int j) = some (.int (i - j)) := rfl
@[simp] theorem fLt_int (i j : Int) : fLt (.int i) (.int j) = some (.bl (decide (i < j))) := rfl
@[simp] theorem fLe_int (i j : Int) : fLe (.int i) (.int j) = some (.bl (decide (i ≤ j))) := rfl
@[simp] theorem fGt_int (i j : Int) : fGt (.int i) (.int j) = some (.bl (decide (j < i))) := rfl
@[simp] theorem fGe_int (i j : Int) : fGe (.int i) (.int j) = some (.bl (decide (j ≤ i))) := rfl
@[simp] theorem fNeg_int (i : Int) : fNeg (.int i) = some (.int (-i)) := rfl
theorem fMod_int {i j : Int} (h : 0 < j) : fMod (.int i) (.int j) = some (.int (i % j)) := by
  show (if 0 < j then _ else _) = _
  rw [if_pos h]
theorem fDiv_int {i j : Int} (h : 0 < j ∧ j.natAbs < 1073741824) : fDiv (.int i) (.int j) = some (.int (i / j)) := by
  show (if 0 < j ∧ j.natAbs < 1073741824 then _ else _) = _
  rw [if_pos h]
theorem fMul_int {i j : Int} (h : i.natAbs < 18446744073709551616 ∨ j.natAbs < 18446744073709551616) : fMul (.int i) (.int j) = some (.int (i * j)) := by
  show (if i.natAbs < 18446744073709551616 ∨ j.natAbs < 18446744073709551616 then _ else _) = _
  rw [if_pos h]
@[simp] theorem fIsN_ev (d : D) : fIsN d .non = some (.bl (isNon d)) := rfl
@[simp] theorem fNotN_ev (d : D) : fNotN d .non = some (.bl (!isNon d)) := rfl
@[simp] theorem fLen_lst (ds : List D) : fLen [.lst ds] = some (.int ds.length) := rfl
@[simp] theorem fLen_tup (ds : List D) : fLen [.tup ds] = some (.int ds.length) := rfl
@[simp] theorem fInt_int (i : Int) : fInt [.int i] = some (.int i) := rfl
@[simp] theorem fAbs_int (i : Int) : fAbs [.int i] = some (.int (if i < 0 then -i else i)) := rfl
@[simp] theorem fMax2_int (i j : Int) : fMax2 [.int i, .int j] = some (.int (if j > i then j else i)) := rfl
@[simp] theorem fMin2_int (i j : Int) : fMin2 [.int i, .int j] = some (.int (if j < i then j else i)) := rfl
@[simp] theorem seqOf_lst (ds : List D) : seqOf (.lst ds) = some ds := rfl
@[simp] theorem seqOf_tup (ds : List D) : seqOf (.tup ds) = some ds := rfl
@[simp] theorem lstOf_lst (ds : List D) : lstOf (.lst ds) = some ds := rfl
@[simp] theorem tupOf_tup (ds : List D) : tupOf (.tup ds) = some ds := rfl
@[simp] theorem fSeq1_lst (ds : List D) : fSeq1 [.lst ds] = some ds := rfl
@[simp] theorem fSeq1_tup (ds : List D) : fSeq1 [.tup ds] = some ds := rfl
@[simp] theorem fTuple_lst (ds : List D) : fTuple [.lst ds] = some (.tup ds) := rfl
@[simp] theorem fTuple_tup (ds : List D) : fTuple [.tup ds] = some (.tup ds) := rfl
@[simp] theorem truOf_lst (ds : List D) : truOf (.lst ds) = some (!ds.isEmpty) := rfl
@[simp] theorem truOf_tup (ds : List D) : truOf (.tup ds) = some (!ds.isEmpty) := rfl
@[simp] theorem truOf_bl (b : Bool) : truOf (.bl b) = some b := rfl
@[simp] theorem truOf_int (i : Int) : truOf (.int i) = some (i != 0) := rfl
theorem atI_nat' {ds : List D} {i : Int} {d : D} (h0 : 0 ≤ i) (h : ds[i.toNat]? = some d) : atI ds i = some d := by
  obtain ⟨n, rfl⟩ := Int.eq_ofNat_of_zero_le h0
  exact atI_nat (by simpa using h)
@[simp] theorem fIx_lst (ds : List D) (i : Int) : fIx (.lst ds) (.int i) = atI ds i := rfl
@[simp] theorem fIx_tup (ds : List D) (i : Int) : fIx (.tup ds) (.int i) = atI ds i := rfl
@[simp] theorem atI_0 (d : D) (ds : List D) : atI (d :: ds) 0 = some d := atI_nat (j := 0) rfl
@[simp] theorem atI_1 (d e : D) (ds : List D) : atI (d :: e :: ds) 1 = some e := atI_nat (j := 1) rfl
@[simp] theorem atI_2 (d e f : D) (ds : List D) : atI (d :: e :: f :: ds) 2 = some f := atI_nat (j := 2) rfl
@[simp] theorem atI_3 (d e f g : D) (ds : List D) : atI (d :: e :: f :: g :: ds) 3 = some g := atI_nat (j := 3) rfl
@[simp] theorem isNon_non : isNon .non = true := rfl
@[simp] theorem isNon_int (i : Int) : isNon (.int i) = false := rfl
@[simp] theorem isNon_tup (ds : List D) : isNon (.tup ds) = false := rfl
@[simp] theorem isNon_lst (ds : List D) : isNon (.lst ds) = false := rfl
@[simp] theorem lset_lt (i : Nat) (d : D) (l : Loc) (h : i < l.length) : gset i d l = some (l.set i (some (.dat d))) := if_pos h
end Den
namespace Den
open PySem L2
theorem loop_run {tg : D → Loc → Option Loc} {body : MS} (I : Nat → Loc → List Int → Prop) : ∀ {ds : List D} {k : Nat} {l : Loc} {p : List Int}, I k l p →
    (∀ (i : Nat) d l p, ds[i]? = some d → I (k + i) l p → ∃ l1, tg d l = some l1 ∧ ∃ l2 p2, (body l1 p = .nx l2 p2 ∨ body l1 p = .ct l2 p2) ∧ I (k + i + 1) l2 p2) →
    ∃ l' p', loop tg body ds l p = .nx l' p' ∧ I (k + ds.length) l' p'
  | [], k, l, p, h0, _ => ⟨l, p, rfl, h0⟩
  | d :: ds, k, l, p, h0, hs => by
    obtain ⟨l1, e1, l2, p2, e2, h2⟩ := hs 0 d l p rfl h0
    obtain ⟨l', p', e3, h3⟩ := loop_run I (ds := ds) (k := k + 1) (l := l2) (p := p2) h2 fun i d' l p hd hI => by
      have e : k + (i + 1) = k + 1 + i := by omega
      have := hs (i + 1) d' l p (by simpa using hd) (by rw [e]; exact hI)
      rw [e] at this
      exact this
    refine ⟨l', p', ?_, by rw [List.length_cons, show k + (ds.length + 1) = k + 1 + ds.length by omega]; exact h3⟩
    unfold loop
    rw [e1]
    rcases e2 with e2 | e2
    · simp only [e2]; exact e3
    · simp only [e2]; exact e3
/-- a loop that hands back in its m-th turn -/
theorem loop_find {tg : D → Loc → Option Loc} {body : MS} (I : Nat → Loc → List Int → Prop) {r : D} {q : List Int} : ∀ {ds : List D} {k m : Nat} {l : Loc} {p : List Int}, m < ds.length → I k l p →
    (∀ (i : Nat) d l p, i < m → ds[i]? = some d → I (k + i) l p → ∃ l1, tg d l = some l1 ∧ ∃ l2 p2, body l1 p = .nx l2 p2 ∧ I (k + i + 1) l2 p2) →
    (∀ d l p, ds[m]? = some d → I (k + m) l p → ∃ l1, tg d l = some l1 ∧ body l1 p = .rt r q) → loop tg body ds l p = .rt r q
  | [], k, m, l, p, hm, _, _, _ => absurd hm (Nat.not_lt_zero m)
  | d :: ds, k, 0, l, p, _, h0, _, hr => by
    obtain ⟨l1, e1, e2⟩ := hr d l p rfl h0
    unfold loop
    rw [e1]
    simp only [e2]
  | d :: ds, k, m + 1, l, p, hm, h0, hs, hr => by
    obtain ⟨l1, e1, l2, p2, e2, h2⟩ := hs 0 d l p (Nat.succ_pos m) rfl h0
    have e3 := loop_find I (ds := ds) (k := k + 1) (m := m) (l := l2) (p := p2) (r := r) (q := q) (by simpa using hm) h2 (fun i d' l p hi hd hI => by
      have e : k + (i + 1) = k + 1 + i := by omega
      have := hs (i + 1) d' l p (by omega) (by simpa using hd) (by rw [e]; exact hI)
      rw [e] at this
      exact this) fun d' l p hd hI => hr d' l p (by simpa using hd) (by rw [show k + (m + 1) = k + 1 + m by omega]; exact hI)
    unfold loop
    rw [e1]
    simp only [e2]
    exact e3
theorem comp_run {i : Nat} {t : M Bool} {e : M D} {l : Loc} (hi : i < l.length) (f : D → Option D) {p : List Int} : ∀ {ds : List D}, (∀ d ∈ ds, turn t e (l.set i (some (.dat d))) p = .ok (f d) p) → comp i t e ds l p = .ok (ds.filterMap f) p
  | [], _ => rfl
  | d :: ds, h => by
    unfold comp
    rw [if_pos hi, h d List.mem_cons_self]
    have ih := comp_run hi f (p := p) (ds := ds) fun d' hd => h d' (List.mem_cons_of_mem _ hd)
    simp only [ih]
    rw [List.filterMap_cons]
    cases f d <;> rfl
theorem comp_map {i : Nat} {e : M D} {l : Loc} (hi : i < l.length) (f : D → D) {p : List Int} {ds : List D} (h : ∀ d ∈ ds, e (l.set i (some (.dat d))) p = .ok (f d) p) : comp i mtrue e ds l p = .ok (ds.map f) p := by
  rw [comp_run hi (fun d => some (f d)) fun d hd => ?_]
  · rw [List.filterMap_eq_map']
  · unfold turn
    rw [mbind_ok (show mtrue (l.set i (some (.dat d))) p = .ok true p from rfl), if_pos rfl, mbind_ok (h d hd)]
    rfl
theorem comp_filter {i : Nat} {t : M Bool} {e : M D} {l : Loc} (hi : i < l.length) (b : D → Bool) {p : List Int} {ds : List D} (h : ∀ d ∈ ds, t (l.set i (some (.dat d))) p = .ok (b d) p) (he : ∀ d ∈ ds, e (l.set i (some (.dat d))) p = .ok d p) : comp i t e ds l p = .ok (ds.filter b) p := by
  rw [comp_run hi (fun d => if b d = true then some d else none) fun d hd => ?_]
  · congr 1
    clear h he
    induction ds with
    | nil => rfl
    | cons d ds ih =>
      rw [List.filterMap_cons, List.filter_cons, ih]
      cases b d <;> simp
  · unfold turn
    rw [mbind_ok (h d hd)]
    cases hb : b d with
    | true => rw [if_pos rfl, if_pos rfl, mbind_ok (he d hd)]; rfl
    | false => rw [if_neg Bool.false_ne_true, if_neg Bool.false_ne_true]; rfl
/-- elements that draw -/
theorem comp_ex {i : Nat} {e : M D} {l : Loc} (hi : i < l.length) (Qd : D → D → Prop) : ∀ {ds : List D} {p : List Int}, (∀ d ∈ ds, ∀ p, ∃ y p', e (l.set i (some (.dat d))) p = .ok y p' ∧ Qd d y) →
    ∃ ys p', comp i mtrue e ds l p = .ok ys p' ∧ ys.length = ds.length ∧ ∀ y ∈ ys, ∃ d ∈ ds, Qd d y
  | [], p, _ => ⟨[], p, rfl, rfl, fun _ h => nomatch h⟩
  | d :: ds, p, h => by
    obtain ⟨y, p1, e1, q1⟩ := h d List.mem_cons_self p
    obtain ⟨ys, p2, e2, q2, q3⟩ := comp_ex hi Qd (ds := ds) (p := p1) fun d' hd => h d' (List.mem_cons_of_mem _ hd)
    refine ⟨y :: ys, p2, ?_, by simp [q2], fun z hz => ?_⟩
    · unfold comp
      rw [if_pos hi]
      unfold turn
      rw [mbind_ok (show mtrue (l.set i (some (.dat d))) p = .ok true p from rfl), if_pos rfl, mbind_ok e1]
      simp only [mret_ev, e2]
      rfl
    · rcases List.mem_cons.mp hz with rfl | hz
      · exact ⟨d, List.mem_cons_self, q1⟩
      · obtain ⟨d', h1, h2⟩ := q3 z hz
        exact ⟨d', List.mem_cons_of_mem _ h1, h2⟩
theorem mcomp_ev {a : M (List D)} {i : Nat} {t : M Bool} {e : M D} {l : Loc} {p p' : List Int} {ds : List D} (ha : a l p = .ok ds p') (hl : ds.length ≤ 1000) : mcomp a i t e l p = comp i t e ds l p' := by
  unfold mcomp
  rw [mbind_ok ha, if_pos hl]
theorem rng1_int {n : Int} (h1 : n.natAbs < 4611686018427387904) : rng1 [.int n] = some (rngD 0 n.toNat) := by
  show (if n.natAbs < 4611686018427387904 then _ else _) = _
  rw [if_pos h1]
theorem rng2_int {i n : Int} (hi : i.natAbs < 4611686018427387904) (h1 : n.natAbs < 4611686018427387904) : rng2 [.int i, .int n] = some (rngD i (n - i).toNat) := by
  show (if i.natAbs < 4611686018427387904 ∧ n.natAbs < 4611686018427387904 then _ else _) = _
  rw [if_pos ⟨hi, h1⟩]
theorem rngD_len (lo : Int) (n : Nat) : (rngD lo n).length = n := by simp [rngD]
theorem rngD_get {lo : Int} {n i : Nat} {d : D} (h : (rngD lo n)[i]? = some d) : i < n ∧ d = .int (lo + i) := by
  have hi : i < n := by
    have := (List.getElem?_eq_some_iff.mp h).1
    rwa [rngD_len] at this
  refine ⟨hi, ?_⟩
  simp [rngD, hi] at h
  exact h.symm
theorem rngD_mem {lo : Int} {n : Nat} {d : D} (h : d ∈ rngD lo n) : ∃ i, i < n ∧ d = .int (lo + (i : Int)) := by
  obtain ⟨i, hi⟩ := List.getElem?_of_mem h
  exact ⟨i, rngD_get hi⟩

/-- a loop that only looks: its target's slot alone changes -/
theorem loop_env {i : Nat} {body : MS} (F : Option L → Loc) {p : List Int} (hF : ∀ o d, gset i d (F o) = some (F (some (.dat d)))) : ∀ {ds : List D}, (∀ d ∈ ds, body (F (some (.dat d))) p = .nx (F (some (.dat d))) p) → ∀ o, ∃ o', loop (gset i) body ds (F o) p = .nx (F o') p
  | [], _, o => ⟨o, rfl⟩
  | d :: ds, h, o => by
    obtain ⟨o', e⟩ := loop_env F (p := p) (body := body) hF (ds := ds) (fun d' hd => h d' (List.mem_cons_of_mem _ hd)) (some (.dat d))
    refine ⟨o', ?_⟩
    unfold loop
    rw [hF]
    simp only [h d List.mem_cons_self]
    exact e

theorem comp_mapL {α : Type} {i : Nat} {e : M D} {l : Loc} (hi : i < l.length) (g f : α → D) {p : List Int} : ∀ {xs : List α}, (∀ x ∈ xs, e (l.set i (some (.dat (g x)))) p = .ok (f x) p) → comp i mtrue e (xs.map g) l p = .ok (xs.map f) p
  | [], _ => rfl
  | x :: xs, h => by
    have ih := comp_mapL hi g f (p := p) (xs := xs) fun y hy => h y (List.mem_cons_of_mem _ hy)
    show comp i mtrue e (g x :: xs.map g) l p = _
    unfold comp
    rw [if_pos hi]
    unfold turn
    rw [mbind_ok (show mtrue (l.set i (some (.dat (g x)))) p = .ok true p from rfl), if_pos rfl, mbind_ok (h x List.mem_cons_self)]
    simp only [mret_ev, ih]
    rfl
theorem sfldO_ev {C : Addr} {i : Nat} {f : Str} {a : M D} {l : Loc} {p p' : List Int} {x : D} {ea : Addr} {ns : List Str} {ds : List D} (ha : a l p = .ok x p') (hl : l[i]? = some (some (.obj ea C ns ds))) (h : ns.length = ds.length ∧ ns.length < 1000 ∧ f ∉ ns) :
    sfldO C i f a l p = .nx (l.set i (some (.obj ea C (ns ++ [f]) (ds ++ [x])))) p' := by
  unfold sfldO
  rw [sbind_ev, ha]
  show (match l[i]? with
    | some (some (.obj ea C' ns ds)) => if C' = C ∧ ns.length = ds.length ∧ ns.length < 1000 ∧ f ∉ ns then O.nx (l.set i (some (.obj ea C (ns ++ [f]) (ds ++ [x])))) p' else .bad
    | _ => .bad) = _
  rw [hl]
  exact if_pos ⟨rfl, h⟩
end Den
namespace Den
open PySem L2 PyProof.Rows
section
variable {X : Cx} {tg : Expr}
def iSeq (K : PySem.W.Frag) (tl : TE) : TI := fun σ H R => tl σ H fun x H1 => ∃ a, x = .ref a ∧ (((∃ xs, SqL K H1 a xs) ∧ R (Itl K a) H1) ∨ ((∃ xs, SqT K H1 a xs) ∧ R (Itt K a) H1))
theorem pi_seq {l : Expr} {tl : TE} (hl : PE X l tl) : PI X tg l (iSeq X.K tl) := by
  refine ⟨fun pins s σ H R I h => ?_⟩
  refine thn (hl.run pins s σ H _ I h) fun v s1 ⟨x, H1, I1, r1, q1⟩ => ?_
  obtain ⟨a, e, q1⟩ := q1
  subst e
  cases r1
  rcases q1 with ⟨⟨xs, hq⟩, q⟩ | ⟨⟨xs, hq⟩, q⟩
  · obtain ⟨its, rv, p, hz⟩ := I1.list hq
    refine wpAny_pyIter_list p.isList ?_
    refine ⟨s1.heap.objs.size, [s1.heap.objs.size], _, _, H1, rfl, I1.kept (t' := s1.toks) fun b o e => Heap.get?_push_of_some _ e, turn_list a _, ⟨_, Heap.get?_push_size _ rfl, rfl, rfl⟩, fun b hb => ?_, q⟩
    have e : b = s1.heap.objs.size := by simpa using hb
    subst e
    exact I1.fpOk (Nat.le_refl _) (I1.hok.fresh (Nat.le_refl _))
  · obtain ⟨its, rv, p, hz⟩ := I1.tuple hq
    refine wpAny_pyIter_tuple (show s1.heap.IsTuple a its.toArray from p) ?_
    refine ⟨s1.heap.objs.size, [s1.heap.objs.size], _, _, H1, rfl, I1.kept (t' := s1.toks) fun b o e => Heap.get?_push_of_some _ e, turn_tuple a _, ⟨_, Heap.get?_push_size _ rfl, rfl, rfl⟩, fun b hb => ?_, q⟩
    have e : b = s1.heap.objs.size := by simpa using hb
    subst e
    exact I1.fpOk (Nat.le_refl _) (I1.hok.fresh (Nat.le_refl _))
end
section
variable {c : Cfg} {E : L2.St → XK}
theorem si_seq {t : TE} {a : M D} (ha : SE c E t a) : SI c E (iSeq c.K t) (mbind a fun x => mlift (seqOf x)) := by
  intro G0 H0 G H σ l pot r Q post
  refine Sn.go ha r post fun x dx p G1 H1 s1 r1 hx post1 => ?_
  cases dx with
  | lst ds =>
    obtain ⟨q, vs, rfl, h, al⟩ := at_lst hx
    exact ⟨q, rfl, .inl ⟨⟨vs, .inl (.inl (r1.stp.gh _ _ h))⟩, Post.ok post1 r1 (walks_list h al)⟩⟩
  | tup ds =>
    obtain ⟨q, vs, rfl, h, al⟩ := at_tup hx
    exact ⟨q, rfl, .inr ⟨⟨vs, .inl (.inl (r1.stp.gh _ _ h))⟩, Post.ok post1 r1 (walks_tup h al)⟩⟩
  | _ => exact post1.elim
end
end Den
namespace Den
open PySem L2
section
variable {c : Cfg} {E : L2.St → XK}
def fRg : D → D → Option (List D)
  | .int i, .int j => if i.natAbs < 4611686018427387904 ∧ j.natAbs < 4611686018427387904 ∧ (j - i).toNat ≤ 1000 then some (rngD i (j - i).toNat) else none
  | _, _ => none
def mrg (a b : M D) : M (List D) := mbind a fun x => mbind b fun y => mlift (fRg x y)
def mrgT (a b : M D) : M D := mbind a fun x => mbind b fun y => mlift ((fRg x y).map D.tup)
/-- a op b op' d -/
def mchain (f g : D → D → Option D) (a b d : M D) : M D := mbind a fun x => mbind b fun y => mbind (mlift ((f x y).bind boolOf)) fun k => if k = true then mbind d fun w => mlift (g y w) else mret (.bl false)
/-- xs.index(y) of flat things -/
def idxV (y : V) : List V → Option Nat
  | [] => none
  | z :: zs => if eqV z y = true then some 0 else (idxV y zs).map (· + 1)
def fIdx (ds : List D) (y : D) : Option D := match scL ds, sc y with
  | some vs, some v => (idxV v vs).map fun j => .int (j : Int)
  | _, _ => none
def mindex (a b : M D) : M D := mbind a fun x => mbind (mlift (lstOf x)) fun ds => mbind b fun y => mlift (fIdx ds y)
end
@[simp] theorem mrg_ev (a b : M D) (l : Loc) (p : List Int) : mrg a b l p = (a l p).bind fun x p' => (b l p').bind fun y p'' => mlift (fRg x y) l p'' := rfl
@[simp] theorem mrgT_ev (a b : M D) (l : Loc) (p : List Int) : mrgT a b l p = (a l p).bind fun x p' => (b l p').bind fun y p'' => mlift ((fRg x y).map D.tup) l p'' := rfl
@[simp] theorem mchain_ev (f g : D → D → Option D) (a b d : M D) (l : Loc) (p : List Int) : mchain f g a b d l p = (a l p).bind fun x p' => (b l p').bind fun y p'' => (mlift ((f x y).bind boolOf) l p'').bind fun k p3 => if k = true then (d l p3).bind fun w p4 => mlift (g y w) l p4 else .ok (.bl false) p3 := by
  unfold mchain mbind
  congr 1; funext x p'
  dsimp only
  congr 1; funext y p''
  congr 1; funext k p3
  cases k <;> rfl
@[simp] theorem mindex_ev (a b : M D) (l : Loc) (p : List Int) : mindex a b l p = (a l p).bind fun x p' => (mlift (lstOf x) l p').bind fun ds p'' => (b l p'').bind fun y p3 => mlift (fIdx ds y) l p3 := rfl
end Den
namespace PL
open PySem L2 Den
/-- where the text's own classes stand -/
structure CA where
  Web : Addr
  Heights : Addr
  Verdict : Addr
  Paper : Addr
  Plan : Addr
  FirstPlan : Addr
  SecondPlan : Addr
  Play : Addr
  Share : Addr
  Table : Addr
  TokenPlan : Addr
end PL
namespace PL
open PySem L2 Den
noncomputable section
def dn_is_integer : MS := (sret (vand (opn fIs1 (acons (mvar 0) (acons (mret (D.ty Ty.int)) anil))) (vnot (opn fIs1 (acons (mvar 0) (acons (mret (D.ty Ty.bl)) anil))))))
def D_is_integer : RF := denF 1 1 (dn_is_integer)
def dn_check_whole : MS := (sfor (mbind (mvar 0) fun x => mlift (tupOf x)) (gset 1) (sif (mnot (mtru (mcall D_is_integer (acons (mvar 1) anil)))) (sraise 0) sskip))
def D_check_whole : RF := fun ds pot => if ds.length ≤ 1000 then denStar 2 (dn_check_whole) ds pot else .bad
def dn_whole_list : MS := (sseq (sif (mnot (mtru (opn fIs2 (acons (mvar 0) (acons (mtupd (acons (mret (D.ty Ty.lst)) (acons (mret (D.ty Ty.tup)) anil))) anil))))) (sraise 0) sskip)
    (sseq (sdrop (mstar D_check_whole (mvar 0)))
    (sret (opn fTuple (acons (mvar 0) anil)))))
def D_whole_list : RF := denF 1 1 (dn_whole_list)
def dn_check_range : MS := (sif (mor (mtest (op2 fLt (mvar 0) (mvar 1))) (mtest (op2 fGt (mvar 0) (mvar 2)))) (sraise 1) sskip)
def D_check_range : RF := denF 3 3 (dn_check_range)
def dn_check_least : MS := (sif (mtest (op2 fLt (mvar 0) (mvar 1))) (sraise 1) sskip)
def D_check_least : RF := denF 2 2 (dn_check_least)
def dn_check_most : MS := (sif (mtest (op2 fGt (mvar 0) (mvar 1))) (sraise 3) sskip)
def D_check_most : RF := denF 2 2 (dn_check_most)
def dn_as_stands : MS := (sseq (sasg (mcall D_whole_list (acons (mvar 0) anil)) (gset 2))
    (sseq (sfor (mbind (mvar 2) fun x => mlift (tupOf x)) (gset 3) (sdrop (mcall D_check_range (acons (mvar 3) (acons (mret (D.int 0)) (acons (op2 fSub (mvar 1) (mret (D.int 1))) anil))))))
    (sret (opn fTuple (acons (op1 fSortSet (mvar 2)) anil)))))
def D_as_stands : RF := denF 2 4 (dn_as_stands)
def dn_is_due : MS := (sseq (sif (mtest (op2 fIsN (mvar 0) (mret D.non))) (sret (mret (D.bl true))) sskip)
    (sseq (sif (mor (mnot (mtru (opn fIs2 (acons (mvar 0) (acons (mtupd (acons (mret (D.ty Ty.lst)) (acons (mret (D.ty Ty.tup)) anil))) anil))))) (mtest (op2 fNe (opn fLen (acons (mvar 0) anil)) (mret (D.int 2))))) (sret (mret (D.bl false))) sskip)
    (sret (vand (opn fIs1 (acons (op2 fIx (mvar 0) (mret (D.int 0))) (acons (mret (D.ty Ty.str)) anil))) (mcall D_is_integer (acons (op2 fIx (mvar 0) (mret (D.int 1))) anil))))))
def D_is_due : RF := denF 1 1 (dn_is_due)
def dn_due_in_range : MS := (sret (vor (op2 fIsN (mvar 0) (mret D.non)) (vand (op2 (fInB false) (op2 fIx (mvar 0) (mret (D.int 0))) (mtupd (acons (mret (D.str "chips")) (acons (mret (D.str "less")) anil)))) (op2 fGe (op2 fIx (mvar 0) (mret (D.int 1))) (mret (D.int 0))))))
def D_due_in_range : RF := denF 1 1 (dn_due_in_range)
def dn_due_too_great : MS := (sret (vand (op2 fNotN (mvar 0) (mret D.non)) (op2 fGt (op2 fIx (mvar 0) (mret (D.int 1))) (mret (D.int 10000000000000000000000000000000000000000)))))
def D_due_too_great : RF := denF 1 1 (dn_due_too_great)
def dn_check_due : MS := (sif (mnot (mtru (mcall D_is_due (acons (mvar 0) anil)))) (sraise 0) sskip)
def D_check_due : RF := denF 1 1 (dn_check_due)
abbrev Due := Option (Bool × Int)
structure Wb where
  first : List (List Int)
  second : List (List Int)
  marks : List Int
  dues : List Due
def dI (ns : List Int) : D := .lst (ns.map .int)
def dDue : Due → D
  | none => .non
  | some (true, x) => .tup [.str "chips", .int x]
  | some (false, x) => .tup [.str "less", .int x]
def encW (wb : Wb) : List D := [.lst (wb.first.map dI), .lst (wb.second.map dI), dI wb.marks, .lst (wb.dues.map dDue)]
structure Valid (wb : Wb) : Prop where
  n1 : 1 ≤ wb.marks.length
  n2 : wb.marks.length ≤ 60
  l1 : wb.first.length = wb.marks.length
  l2 : wb.second.length = wb.marks.length
  l3 : wb.dues.length = wb.marks.length
  s1 : ∀ ss ∈ wb.first, ss.length < 60 ∧ ∀ x ∈ ss, 0 ≤ x ∧ x < (wb.marks.length : Int)
  s2 : ∀ ss ∈ wb.second, ss.length < 60 ∧ ∀ x ∈ ss, 0 ≤ x ∧ x < (wb.marks.length : Int)
  both : ∀ (i : Nat) (a b : List Int), wb.first[i]? = some a → wb.second[i]? = some b → a.isEmpty = b.isEmpty
  mks : ∀ m ∈ wb.marks, m = 1 ∨ m = 2
  du : ∀ d ∈ wb.dues, ∀ b x, d = some (b, x) → 0 ≤ x ∧ x ≤ 1000
def dS (ss : List Int) : D := .tup ((sortSet ss).map .int)
def moves (wb : Wb) (d : D) : Bool := match (fIx (.lst (wb.first.map dI)) d).bind truOf with
  | some b => b
  | none => false
def gdI : Due → Int
  | none => 0
  | some (_, x) => x
def gdD (wb : Wb) : D := match wb.dues.map gdI with
  | [] => .non
  | n :: ns => .int (maxL n ns)
def evB (wb : Wb) : Bool := match pd (.tup (wb.first.map dS)), pd (.tup (wb.second.map dS)) with
  | some a, some b => PyData.eqv a b
  | _, _ => false
def wnames : List Str := ["_size", "_first", "_second", "_marks", "_dues", "_ends", "_moving", "_greatest_due", "_even"]
def wfields (wb : Wb) : List D := [.int wb.marks.length, .tup (wb.first.map dS), .tup (wb.second.map dS), .tup (wb.marks.map .int), .tup (wb.dues.map dDue), .tup ((rngD 0 wb.marks.length).filter fun d => !moves wb d), .tup ((rngD 0 wb.marks.length).filter fun d => moves wb d), gdD wb, .bl (evB wb)]
def dn_check_web (A : CA) : MS := (sif (mnot (mtru (opn (fIsC A.Web) (acons (mvar 0) (acons (mret (D.cls A.Web)) anil))))) (sraise 0) sskip)
def D_check_web (A : CA) : RF := denF 1 1 (dn_check_web A)
def dn_check_stand (A : CA) : MS := (sdrop (mcall D_check_range (acons (mvar 1) (acons (mret (D.int 0)) (acons (op2 fSub (mfld A.Web "_size" (mvar 0)) (mret (D.int 1))) anil)))))
def D_check_stand (A : CA) : RF := denF 2 2 (dn_check_stand A)
def dn_half_of : MS := (sseq (sif (mtest (op2 fEq (mvar 0) (mret (D.int 1)))) (sret (op2 fDiv (op2 fAdd (mvar 1) (opn fMax2 (acons (mvar 1) (acons (mvar 2) anil)))) (mret (D.int 2)))) sskip)
    (sret (op2 fDiv (op2 fAdd (op2 fAdd (opn fMin2 (acons (mvar 1) (acons (mvar 2) anil))) (mvar 2)) (mret (D.int 1))) (mret (D.int 2)))))
def D_half_of : RF := denF 3 3 (dn_half_of)
def dn_law_draw : MS := (sseq (sif (mtest (op2 fEq (mlenp (mvar 0)) (mret (D.int 0)))) (sret (mret (D.int 0))) sskip)
    (sret (op2 fMod (opn fInt (acons (mpop (mvar 0)) anil)) (mvar 1))))
def D_law_draw : RF := denF 2 2 (dn_law_draw)
def dn_law_lot : MS := (sseq (sown (mshort (acons (mcall D_law_draw (acons (mvar 0) (acons (mvar 1) anil))) anil)) 2)
    (sseq (sfor (mbind (acons (mcall D_law_draw (acons (mvar 0) (acons (mret (D.int 3)) anil))) anil) fun x => mlift (rng1 x)) (gset 3) (sseq (sasg (mcall D_law_draw (acons (mvar 0) (acons (mvar 1) anil))) (gset 4))
    (sif (mtest (minc true (mvar 4) 2)) (sappend 2 (mvar 4)) sskip)))
    (sgive 2 (sret (mvar 2)))))
def D_law_lot : RF := denF 2 5 (dn_law_lot)
def dn_law_due : MS := (sseq (sasg (mcall D_law_draw (acons (mvar 0) (acons (mret (D.int 6)) anil))) (gset 1))
    (sseq (sif (mtest (op2 fLe (mvar 1) (mret (D.int 2)))) (sret (mtupd (acons (mret (D.str "chips")) (acons (mret (D.int 0)) anil)))) sskip)
    (sseq (sif (mtest (op2 fEq (mvar 1) (mret (D.int 3)))) (sret (mtupd (acons (mret (D.str "chips")) (acons (op2 fAdd (mret (D.int 1)) (mcall D_law_draw (acons (mvar 0) (acons (mret (D.int 4)) anil)))) anil)))) sskip)
    (sseq (sif (mtest (op2 fEq (mvar 1) (mret (D.int 4)))) (sret (mtupd (acons (mret (D.str "less")) (acons (op2 fAdd (mret (D.int 1)) (mcall D_law_draw (acons (mvar 0) (acons (mret (D.int 3)) anil)))) anil)))) sskip)
    (sret (mret D.non))))))
def D_law_due : RF := denF 1 2 (dn_law_due)
def dn_law_marks : MS := (sseq (sasg (mcall D_law_draw (acons (mvar 0) (acons (mret (D.int 4)) anil))) (gset 2))
    (sseq (sif (mtest (op2 fLe (mvar 2) (mret (D.int 1)))) (sret (mfreeze (mcomp (mbind (acons (mvar 1) anil) fun x => mlift (rng1 x)) 3 mtrue (op2 fAdd (mret (D.int 1)) (mvar 2))))) sskip)
    (sret (mfreeze (mcomp (mbind (acons (mvar 1) anil) fun x => mlift (rng1 x)) 3 mtrue (op2 fAdd (mret (D.int 1)) (mcall D_law_draw (acons (mvar 0) (acons (mret (D.int 2)) anil)))))))))
def D_law_marks : RF := denF 2 4 (dn_law_marks)
def dn_law_path : MS := (sseq (sown (mshort (acons (mfreeze (mshort anil)) (acons (mfreeze (mshort anil)) anil))) 1)
    (sseq (sfor (mbind (acons (mret (D.int 2)) (acons (mvar 0) anil)) fun x => mlift (rng2 x)) (gset 2) (sseq (sasg (op2 fSub (mvar 2) (mret (D.int 1))) (gset 3))
    (sseq (sif (mtest (op2 fEq (mvar 2) (mret (D.int 2)))) (sasg (mret (D.int 0)) (gset 3)) sskip)
    (sseq (sasg (op2 fAdd (mvar 2) (mret (D.int 1))) (gset 4))
    (sseq (sif (mtest (op2 fEq (mvar 2) (op2 fSub (mvar 0) (mret (D.int 1))))) (sasg (mret (D.int 1)) (gset 4)) sskip)
    (sappend 1 (mfreeze (mshort (acons (mvar 3) (acons (mvar 4) anil))))))))))
    (sgive 1 (sret (mvar 1)))))
def D_law_path : RF := denF 1 5 (dn_law_path)
def dn_law_web : MS := (sseq (sasg (opn fMin2 (acons (mvar 1) (acons (op2 fIx (mfreeze (mshort (acons (mret (D.int 4)) (acons (mret (D.int 3)) (acons (mret (D.int 5)) (acons (mret (D.int 4)) (acons (mret (D.int 6)) (acons (mret (D.int 2)) (acons (mret (D.int 5)) (acons (mret (D.int 3)) (acons (mret (D.int 7)) (acons (mret (D.int 1)) anil)))))))))))) (mcall D_law_draw (acons (mvar 0) (acons (mret (D.int 10)) anil)))) anil))) (gset 3))
    (sseq (sasg (mcall D_law_draw (acons (mvar 0) (acons (mret (D.int 5)) anil))) (gset 4))
    (sseq (sown (mshort anil) 5)
    (sseq (sown (mshort anil) 6)
    (sseq (sif (mand (mtest (op2 fEq (mvar 4) (mret (D.int 0)))) (mtest (op2 fGe (mvar 3) (mret (D.int 2))))) (sseq (sasg (mcall D_law_path (acons (mvar 3) anil)) (gset 5))
    (sseq (sasg (op2 fCat (mfreeze (mshort (acons (mtupd (acons (mret (D.str "chips")) (acons (mret (D.int 0)) anil))) anil))) (mfreeze (mcomp (mbind (acons (op2 fSub (mvar 3) (mret (D.int 1))) anil) fun x => mlift (rng1 x)) 7 mtrue (mret D.non)))) (gset 6))
    (sgive 5 (sown (mcomp (mbind (mvar 5) fun x => mlift (lstOf x)) 9 mtrue (mfreeze (mlistN (acons (mvar 9) anil)))) 8)))) (sseq (sown (mshort anil) 8)
    (sfor (mbind (acons (mvar 3) anil) fun x => mlift (rng1 x)) (gset 7) (sseq (sasg (vand (op2 fEq (mvar 7) (mret (D.int 0))) (op2 fNe (mvar 4) (mret (D.int 4)))) (gset 10))
    (sseq (sif (mand (mtest (op2 fEq (mvar 7) (mret (D.int 1)))) (mtest (op2 fNe (mvar 4) (mret (D.int 3))))) (sasg (mret (D.bl true)) (gset 10)) sskip)
    (sseq (sif (mand (mtest (op2 fGe (mvar 7) (mret (D.int 2)))) (mtest (op2 fEq (mcall D_law_draw (acons (mvar 0) (acons (mret (D.int 8)) anil))) (mret (D.int 7))))) (sasg (mret (D.bl true)) (gset 10)) sskip)
    (sseq (sif (mtru (mvar 10)) (sseq (sappend 5 (mfreeze (mshort anil)))
    (sappend 8 (mfreeze (mshort anil)))) (sseq (sasg (mcall D_law_lot (acons (mvar 0) (acons (mvar 3) anil))) (gset 9))
    (sseq (sappend 5 (mvar 9))
    (sif (mor (mtru (mvar 2)) (mtest (op2 fEq (mcall D_law_draw (acons (mvar 0) (acons (mret (D.int 2)) anil))) (mret (D.int 0))))) (sappend 8 (mfreeze (mlistN (acons (mvar 9) anil)))) (sappend 8 (mcall D_law_lot (acons (mvar 0) (acons (mvar 3) anil))))))))
    (sseq (sasg (mret D.non) (gset 11))
    (sseq (sif (mor (mtest (op2 fEq (mvar 7) (mret (D.int 0)))) (mand (mtru (mvar 10)) (mtest (op2 fGe (mvar 7) (mret (D.int 2)))))) (sasg (mcall D_law_due (acons (mvar 0) anil)) (gset 11)) (sif (mand (mnot (mtru (mvar 10))) (mtest (op2 fEq (mcall D_law_draw (acons (mvar 0) (acons (mret (D.int 8)) anil))) (mret (D.int 7))))) (sasg (mcall D_law_due (acons (mvar 0) anil)) (gset 11)) sskip))
    (sappend 6 (mvar 11)))))))))))
    (sgive 8 (sgive 5 (sgive 6 (sret (mfreeze (mshort (acons (mvar 5) (acons (mvar 8) (acons (mcall D_law_marks (acons (mvar 0) (acons (mvar 3) anil))) (acons (mvar 6) anil)))))))))))))))
def D_law_web : RF := denF 3 12 (dn_law_web)
end
end PL
namespace PL
open PySem L2 Den
noncomputable section
def b_check_state_range_1 : MS := (sdrop (mcall D_check_least (acons (mvar 1) (acons (mret (D.int 0)) anil))))
def b_check_state_range_2 (A : CA) : MS := (sdrop (mcall (D_check_stand A) (acons (mvar 0) (acons (mvar 2) anil))))
def b_check_state_range_3 : MS := (sdrop (mcall D_check_range (acons (mvar 3) (acons (mret (D.int 0)) (acons (mvar 1) anil)))))
def dn_check_state_range (A : CA) : MS := (sseq b_check_state_range_1
    (sseq (b_check_state_range_2 A)
    b_check_state_range_3))
def D_check_state_range (A : CA) : RF := denF 4 4 (dn_check_state_range A)
def c_law_low_1 : M (List D) := (mcomp (mbind (op2 fIx (op2 fIx (mvar 0) (mret (D.int 0))) (mvar 2)) fun x => mlift (lstOf x)) 3 mtrue (op2 fIx (mvar 1) (mvar 3)))
def dn_law_low : MS := (sret (opn fMinL (acons (mfreeze c_law_low_1) anil)))
def D_law_low : RF := denF 3 4 (dn_law_low)
def c_law_high_1 : M (List D) := (mcomp (mbind (op2 fIx (op2 fIx (mvar 0) (mret (D.int 1))) (mvar 2)) fun x => mlift (lstOf x)) 3 mtrue (op2 fIx (mvar 1) (mvar 3)))
def dn_law_high : MS := (sret (opn fMaxL (acons (mfreeze c_law_high_1) anil)))
def D_law_high : RF := denF 3 4 (dn_law_high)
def b_law_price_1 : MS := (sif (mtest (op2 fEq (opn fLen (acons (op2 fIx (op2 fIx (mvar 0) (mret (D.int 0))) (mvar 3)) anil)) (mret (D.int 0)))) (sret (op2 fAdd (mvar 1) (mret (D.int 1)))) sskip)
def b_law_price_2 : MS := (sret (mcall D_half_of (acons (op2 fIx (op2 fIx (mvar 0) (mret (D.int 2))) (mvar 3)) (acons (mcall D_law_low (acons (mvar 0) (acons (mvar 2) (acons (mvar 3) anil)))) (acons (mcall D_law_high (acons (mvar 0) (acons (mvar 2) (acons (mvar 3) anil)))) anil)))))
def dn_law_price : MS := (sseq b_law_price_1
    b_law_price_2)
def D_law_price : RF := denF 4 4 (dn_law_price)
end
end PL
namespace PL
open PySem L2 Den
noncomputable section
def b_bought_1 : MS := (sif (mor (mtest (op2 fGt (mvar 2) (mvar 3))) (mand (mtest (op2 fEq (mvar 2) (mvar 3))) (mtest (op2 fEq (mvar 0) (mret (D.int 1)))))) (sret (mtupd (acons (mret (D.int 1)) (acons (op2 fSub (mvar 1) (mvar 2)) anil)))) sskip)
def b_bought_2 : MS := (sret (mtupd (acons (mret (D.int 2)) (acons (op2 fAdd (mvar 1) (mvar 3)) anil))))
def dn_bought : MS := (sseq b_bought_1
    b_bought_2)
def D_bought : RF := denF 4 4 (dn_bought)
end
end PL
namespace PL
open PySem L2 Den
noncomputable section
end
end PL
namespace PySem
open AutoSeq1 (wpAny_loadPart')
/-- enumerate(v), v told by how its iterator begins -/
theorem enum1_meets {v : Value} {ob : Obj} {HH : Heap → Prop} (B : Begins v ob HH) :
    Meets (Builtin.«enumerate.__new__» ⟨[.type "enumerate", v], []⟩) (fun _ R s => HH s.heap ∧
      R (.ok (.ret (.ref (s.heap.push ob).objs.size))) { s with heap := (s.heap.push ob).push { cls := .type "enumerate", data := .fields #[.none, .bool false, .ref s.heap.objs.size, rawInt 0, .none, .none] } }) :=
  .of_wp fun prg wd Ar Rs sh hh => by
    obtain ⟨hp, gs, dr, tk, os⟩ := sh
    obtain ⟨hB, hh⟩ := hh
    have hsub := sub_enumerate
    have begin' : ∀ {A' : Around} {E' : Value → Shared → Prop} {Q' : Value → Shared → Prop}, Q' (.ref hp.objs.size) ⟨hp.push ob, gs, dr, tk, os⟩ → wpAny (model prg wd) A' (pyIter v) Q' E' ⟨hp, gs, dr, tk, os⟩ :=
      fun q => B.iter prg wd _ _ ⟨hp, gs, dr, tk, os⟩ _ hB q
    wp_walk using begin'
    refine wpAny_stack_any fun st => wpAny_pure ?_
    split
    · rename_i cl _ _ _ _ _
      cases (cl == Value.type "enumerate")
      · wp_walk using begin'
        exact ⟨_, rfl, hh⟩
      · wp_walk using begin'
        exact ⟨_, rfl, hh⟩
    · wp_walk using begin'
      exact ⟨_, rfl, hh⟩
theorem enum1_begins {prog : Program} {w : World} {A : Around} {E : Value → Shared → Prop} {s : Shared} {v : Value} {ob : Obj} {HH : Heap → Prop} {Q : Value → Shared → Prop} (B : Begins v ob HH) (hB : HH s.heap)
    (k : ∀ h1, IsEnum h1 (s.heap.objs.size + 1) s.heap.objs.size 0 .none → h1.get? s.heap.objs.size = some ob → (∀ b u, s.heap.get? b = some u → h1.get? b = some u) → Q (.ref (s.heap.objs.size + 1)) { s with heap := h1 }) :
    wpAny (model prog w) A (call (.type "enumerate") [v]) Q E s := by
  refine callType_new F.called_enumerate (by decide) (F.typeCall_enumerate_1 _) (F.newCall_enumerate_1 _) (fun obj => F.args_object_init_2 obj _) F.entry_enumerate_new (enum1_meets B) ⟨hB, ?_⟩
  have sz : (s.heap.push ob).objs.size = s.heap.objs.size + 1 := Heap.size_push ..
  show _ ∧ _
  rw [sz]
  have isE : IsEnum ((s.heap.push ob).push { cls := .type "enumerate", data := .fields #[.none, .bool false, .ref s.heap.objs.size, rawInt 0, .none, .none] }) (s.heap.objs.size + 1) s.heap.objs.size 0 .none := by
    have g := Heap.get?_push_size (s.heap.push ob) (o := { cls := .type "enumerate", data := .fields #[.none, .bool false, .ref s.heap.objs.size, rawInt 0, .none, .none] }) rfl
    rw [sz] at g
    exact g
  exact ⟨⟨_, isE, rfl⟩, k _ isE (Heap.get?_push_of_some _ (Heap.get?_push_size _ B.free)) fun b u y => Heap.get?_push_of_some _ (Heap.get?_push_of_some _ y)⟩
end PySem
namespace Den
open PySem L2 PyProof.Rows
/-- the tuple at a, each item in a new pair -/
def Itet (K : PySem.W.Frag) (a : Addr) : It :=
  ⟨fun j H => ∃ (ys : List V) (y : V), SqT K H a ys ∧ ys[j]? = some y, fun j H u H2 => ∃ T y, u = .ref T ∧ H T = none ∧ H2 = upd H T (.tup [.int (j : Nat), y]) ∧ ∀ ys, SqT K H a ys → ys[j]? = some y, fun j H => ∃ ys : List V, SqT K H a ys ∧ ys.length ≤ j⟩
theorem turn_enumT {P : Program} {w : World} {K : PySem.W.Frag} {elts : List Expr} {kk : Nat} {tpos : Pos} (a e it : Addr) :
    Turn P w K (.Tuple elts kk tpos) (Itet K a) [e, it] e (fun j h => (∃ old, IsEnum h e it ((j : Nat) : Int) old) ∧ h.IsTupleIter it a j ∧ e ≠ it ∧ a ≠ it) where
  mem := by simp
  obj := fun j h st b hb => by
    obtain ⟨⟨old, he⟩, ⟨ob, ho, hc, hd⟩, _⟩ := st
    have two : b = e ∨ b = it := by simpa using hb
    rcases two with z | z
    · rw [z]; exact ⟨_, he, fun v q => nomatch q⟩
    · rw [z]; exact ⟨ob, ho, fun v q => by rw [hd] at q; cases q⟩
  keep := fun j h h' st k => let ⟨⟨old, he⟩, hi, hne⟩ := st; ⟨⟨old, k e (by simp) _ he⟩, hi.at fun ob q => k it (by simp) ob q, hne⟩
  item := by
    intro X hP hw hK hc j pins s σ H E I hf st hg
    subst hP hw hK
    obtain ⟨⟨old, he⟩, hit, hne, hna⟩ := st
    obtain ⟨ys, y, hq, hy⟩ := hg
    obtain ⟨its, rv, tp, hz⟩ := I.tuple hq
    have tp' : s.heap.IsTuple a its.toArray := tp
    obtain ⟨u, hu, ru⟩ := rv.get hy
    have hel : e < s.heap.objs.size := Heap.lt_size he
    have hil : it < s.heap.objs.size := by obtain ⟨_, q, _⟩ := hit; exact Heap.lt_size q
    have hal : a < s.heap.objs.size := by obtain ⟨_, q, _⟩ := tp'; exact Heap.lt_size q
    have hea : e ≠ a := fun z => by
      obtain ⟨ob, ho, hcl, _⟩ := tp'
      rw [← z] at ho
      rw [show s.heap.get? e = _ from he] at ho
      cases ho
      injection hcl with q
      exact absurd q (by decide)
    have D := Draws.tuple (prog := X.prog) (w := X.w) (A := X.A.in1) (I.ok.hd hc) it a hna its.toArray
    have hlt : j < its.toArray.size := by
      have := (List.getElem?_eq_some_iff.mp hu).1
      simpa using this
    refine wpAny_pyNext_enum_itemD D he ⟨hit, tp'⟩ hlt hne (by simp [hne, hea]) fun x1 h1 tk hx1 ho st1 hT hsz hk => ?_
    have ex : x1 = u := by
      have q1 : its.toArray[j]? = some u := by simpa using hu
      rw [q1] at hx1
      exact (Option.some.inj hx1).symm
    subst ex
    refine ⟨_, rfl, wpAny_letOwnedTupleGo_enum (s := { s with heap := h1, toks := tk + 1 }) ho fun h2 he2 sb => ?_⟩
    have hT2 : h2.get? s.heap.objs.size = some { cls := .type "tuple", data := .seq #[.int j tk, x1] } := (sb.2 _ (Nat.ne_of_gt hel)).trans hT
    have new : ObjOk X.prog X.w (upd H s.heap.objs.size (.tup [.int (j : Nat), y])) h2 s.heap.objs.size (.tup [.int (j : Nat), y]) :=
      ⟨by show 2 ≤ sizeLine; decide, [.int j tk, x1], .cons ⟨_, rfl⟩ (.cons ru .nil), ⟨_, hT2, rfl, _, rfl⟩⟩
    have I1 : Inv X pins σ (upd H s.heap.objs.size (.tup [.int (j : Nat), y])) { s with heap := h2, toks := tk + 1 } :=
      I.turnedNew (ch := [e, it]) (fun b ob hb q => (sb.2 b (fun z => hb (by simp [z]))).trans (hk b ob (fun z => hb (by simp [z])) (fun z => hb (by simp [z])) q)) hf (Nat.le_refl _) new
    refine ⟨.ref s.heap.objs.size, _, I1, rfl, ⟨_, y, rfl, I.hok.fresh (Nat.le_refl _), rfl, fun zs hzs => by rw [I.tuple_inj hzs hq]; exact hy⟩, ⟨⟨x1, ?_⟩, st1.1.at fun ob q => (sb.2 it (Ne.symm hne)).trans q, hne, hna⟩, fun b hb => ?_⟩
    · have e1 : ((j + 1 : Nat) : Int) = (j : Int) + 1 := by omega
      rw [e1]; exact he2
    · have hbl : b < s.heap.objs.size := by
        have two : b = e ∨ b = it := by simpa using hb
        rcases two with z | z
        · rw [z]; exact hel
        · rw [z]; exact hil
      rw [upd_ne (Nat.ne_of_lt hbl)]
      exact (hf b hb).1
  done := by
    intro X hP hw hK hc j pins s σ H E I hf st hg
    subst hP hw hK
    obtain ⟨⟨old, he⟩, hit, hne, hna⟩ := st
    obtain ⟨ys, hq, hy⟩ := hg
    obtain ⟨its, rv, tp, hz⟩ := I.tuple hq
    have tp' : s.heap.IsTuple a its.toArray := tp
    obtain ⟨f0, f1, f2, f3, f4, f5⟩ := hf it (by simp)
    have hl := rv.length
    have out : its.toArray[j]? = none := by simp; omega
    have hTe : s.TypeIs (.ref e) "enumerate" := ⟨_, he, rfl⟩
    unfold pyNext
    refine wpAny_bind (wpAny_attempt (wpAny_callSpecial?_slot (name := Str.ofString "__next__") hTe F.slot_enumerate_next (wpAny_call_entry F.slot_enumerate_next hTe F.entry_enumerate_next ?last (F.args_enumerate_next_1 _))))
    show wpAny _ _ (field (.ref e) 2 >>= _) _ _ _
    refine wpAny_bind (wpAny_field he rfl (x := .ref it) rfl (wpAny_bind (wpAny_nextOf_tuple_end (by exact I.ok.hd hc) hit tp' out fun h1 x1 ext1 ⟨ob, hob, hcl⟩ => ?_)))
    refine wpAny_bind (wpAny_isInstance (T := "StopIteration") (b := true) ⟨ob, hob, hcl⟩ isSubtype_stop ?_)
    exact wpAny_pure ⟨rfl, I.turned (t' := s.toks) (fun b o hb q => ext1 b o hb q) f0 f1 f3 f4 f5⟩
  self := fun A j s Q E st h => let ⟨⟨_, he⟩, _⟩ := st; wpAny_pyIter_enum he h
end Den
namespace Den
open PySem L2 PyProof.Rows
section
variable {X : Cx}
def iEnumS (K : PySem.W.Frag) (ta : TA) : TI := fun σ H R => ta σ H fun vs H1 => ∃ a, vs = [.ref a] ∧ ((∃ xs, SqL K H1 a xs ∧ R (Ite K a) H1) ∨ (∃ xs, SqT K H1 a xs ∧ R (Itet K a) H1))
theorem pi_enumS {e : Expr} {ta : TA} {p pos tpos : Pos} {elts : List Expr} {kk : Nat} (hg : Gl X "enumerate") (hm : X.mg "enumerate" = none) (ha : PA X [e] ta) (hs : starEach [e] X.env = [(false, eval e X.env)] := by rfl) :
    PI X (.Tuple elts kk tpos) (.Call (.Name "enumerate" p) [e] [] pos) (iEnumS X.K ta) := by
  refine ⟨fun pins sh σ H R I h => Call_ (ld_blt I hg hm boot_enumerate (PyProof.Rows.callWith_type1 (thn (ha.run pos pins sh σ H _ I h) fun us s1 got => ?_) hs rfl))⟩
  obtain ⟨vs, H1, I1, r1, a, rfl, q⟩ := got
  cases r1 with
  | cons r rr =>
    cases rr
    cases r
    have low : ∀ b, b ∈ [s1.heap.objs.size + 1, s1.heap.objs.size] → s1.heap.objs.size ≤ b := fun b hb => by
      have two : b = s1.heap.objs.size + 1 ∨ b = s1.heap.objs.size := by simpa using hb
      omega
    rcases q with ⟨xs, hq, q⟩ | ⟨xs, hq, q⟩
    · obtain ⟨its, rv, lp, hz⟩ := I1.list hq
      refine call_enumerate_list lp.isList fun h1 he hit hsz hk => wpAny_pyIter_enum he ?_
      exact ⟨s1.heap.objs.size + 1, [s1.heap.objs.size + 1, s1.heap.objs.size], _, _, H1, rfl, I1.kept (t' := s1.toks) hk, turn_enum a (s1.heap.objs.size + 1) s1.heap.objs.size, ⟨⟨.none, he⟩, hit, Nat.succ_ne_self _⟩, fun b hb => I1.fpOk (low b hb) (I1.hok.fresh (low b hb)), q⟩
    · obtain ⟨its, rv, tp, hz⟩ := I1.tuple hq
      have tp' : s1.heap.IsTuple a its.toArray := tp
      have hal : a < s1.heap.objs.size := by obtain ⟨_, g, _⟩ := tp'; exact Heap.lt_size g
      refine enum1_begins (begins_tuple a its.toArray) tp' fun h1 he hit hk => wpAny_pyIter_enum he ?_
      exact ⟨s1.heap.objs.size + 1, [s1.heap.objs.size + 1, s1.heap.objs.size], _, _, H1, rfl, I1.kept (t' := s1.toks) hk, turn_enumT a (s1.heap.objs.size + 1) s1.heap.objs.size, ⟨⟨.none, he⟩, ⟨_, hit, rfl, rfl⟩, Nat.succ_ne_self _, Nat.ne_of_lt hal⟩, fun b hb => I1.fpOk (low b hb) (I1.hok.fresh (low b hb)), q⟩
end
section
variable {c : Cfg} {E : L2.St → XK}
theorem walks_enumT {G : Hp} {a : Addr} {vs : List V} {ds : List D} (h : G a = some (.tup vs)) (al : AtL c.P G vs ds) : Walks c (Itet c.K a) (enumD 0 ds) G := by
  refine ⟨fun i H e z => ⟨vs, .inl (.inl (e _ _ h)), ?_⟩, fun i H e z => ?_, fun i H x H' e z hP y G2 e2 e3 => ?_⟩
  · rw [AtL.length al]; rw [enumD_len] at z; exact Nat.le_of_eq z.symm
  · have z' : i < vs.length := by rw [AtL.length al]; rw [enumD_len] at z; exact z
    exact ⟨vs, vs[i], .inl (.inl (e _ _ h)), List.getElem?_eq_getElem z'⟩
  · obtain ⟨T, v, rfl, hT, rfl, y⟩ := y
    obtain ⟨d, ed, ad⟩ := AtL.getV al (y vs (.inl (.inl (e _ _ h))))
    have g := enumD_get ds 0 i d ed
    rw [Nat.zero_add] at g
    exact ⟨_, _, g, Stp.lay e3 hT, fun b hb => upd_ne (fun z => hP b hb (by rw [z]; exact hT)), at_new_t e3 hT (.cons (.int _) (.cons (At.mono e2 ad) .nil))⟩
def enumS : List D → Option (List D)
  | [d] => (seqOf d).map (enumD 0)
  | _ => none
theorem si_enumS {t : TA} {a : M (List D)} (ha : SA c E t a) : SI c E (iEnumS c.K t) (mbind a fun x => mlift (enumS x)) := by
  intro G0 H0 G H σ l pot r Q post
  refine Sn.go ha r post fun x dx p G1 H1 s1 r1 hx post1 => ?_
  obtain ⟨ds, e, post2⟩ := post_lift0 post1
  unfold enumS at e
  split at e
  · obtain ⟨y, rfl, hy⟩ := atl1 hx
    rename_i d
    cases d with
    | lst es =>
      cases e
      obtain ⟨q, vs, rfl, h, al⟩ := at_lst hy
      exact ⟨q, rfl, .inl ⟨vs, .inl (.inl (r1.stp.gh _ _ h)), Post.ok post2 r1 (walks_enum h al)⟩⟩
    | tup es =>
      cases e
      obtain ⟨q, vs, rfl, h, al⟩ := at_tup hy
      exact ⟨q, rfl, .inr ⟨vs, .inl (.inl (r1.stp.gh _ _ h)), Post.ok post2 r1 (walks_enumT h al)⟩⟩
    | _ => cases e
  · cases e
def comp2 (i j : Nat) (t : M Bool) (e : M D) : List D → M (List D)
  | [] => mret []
  | d :: ds => fun l p => match gset2 i j d l with
    | none => .bad
    | some l1 => (match turn t e l1 p with
      | .ok o p' => (match comp2 i j t e ds l p' with
        | .ok r p'' => .ok (o.toList ++ r) p''
        | x => x)
      | _ => .bad)
def mcomp2 (a : M (List D)) (i j : Nat) (t : M Bool) (e : M D) : M (List D) := mbind a fun ds => if ds.length ≤ 1000 then comp2 i j t e ds else fun _ _ => .bad
theorem set2_wipe {α : Type} (σ : List (Option α)) (i j : Nat) (u v : α) : (((σ.set j none).set i none).set i (some u)).set j (some v) = (σ.set i (some u)).set j (some v) := by
  refine List.ext_getElem? fun k => ?_
  simp only [List.getElem?_set, List.length_set]
  by_cases hk : j = k
  · simp [hk]
  · by_cases hi : i = k
    · simp [hk, hi]
    · simp [hk, hi]
theorem wipe_set2 {α : Type} (σ : List (Option α)) (i j : Nat) (u v : α) : ((((σ.set i (some u)).set j (some v)).set j none).set i none) = (σ.set j none).set i none := by
  refine List.ext_getElem? fun k => ?_
  simp only [List.getElem?_set, List.length_set]
  by_cases hi : i = k
  · simp [hi]
  · by_cases hk : j = k
    · simp [hk, hi]
    · simp [hk, hi]
theorem sen_comp2 {wi : TI} {i j : Nat} {tt : TT} {te : TE} {a : M (List D)} {t : M Bool} {e : M D} (ha : SI c E wi a) (ht : ST c (fun _ => E0) tt t) (he : SE c (fun _ => E0) te e) : SEN c E (tLc wi (gTup c.K 2 (gCons (gName i) (gCons (gName j) gNil))) tt te [i, j]) (mcomp2 a i j t e) := by
  intro G0 H0 G H σ l pot r Q post
  refine Sn.goN ha r post fun J ds p G1 H1 s1 r1 w post1 => ?_
  split at post1
  · rename_i hlen
    intro Dl hD
    have hPD : ∀ a, c.B a → a ≠ Dl := fun a b z => r1.hp a b (by rw [z]; exact hD)
    have hG1 : G1 Dl = none := by
      cases eg : G1 Dl with
      | none => rfl
      | some u => have := r1.stp.gh Dl u eg; rw [hD] at this; cases this
    refine ⟨fun k m H => m = ds.length - k ∧ k ≤ ds.length ∧ ∃ G p acc aD, Stp c.B G1 H1 G H ∧ c.inv p H ∧ H Dl = some (.lst acc) ∧ AtL c.P G acc aD ∧ G Dl = none ∧ aD.length ≤ k ∧ PostN c E G0 H0 G1 H1 σ l (pre aD (comp2 i j t e (ds.drop k) l p)) Q,
      ⟨_, rfl, Nat.zero_le _, G1, p, [], [], Stp.lay0 r1.stp.gh hD, c.ext (fun a b => upd_ne (hPD a b)) r1.pot, upd_same, .nil, hG1, Nat.le_refl _, by rw [pre_nil]; exact post1⟩, ?_⟩
    rintro k m H ⟨rfl, hk, G, p, acc, aD, sG, hp, hDl, al, hG, hl, post⟩
    by_cases hlt : k < ds.length
    · refine .inr ⟨w.go k H (sG.gg.trans sG.gh) hlt, fun H => ∃ G p acc aD, Stp c.B G1 H1 G H ∧ c.inv p H ∧ H Dl = some (.lst acc) ∧ AtL c.P G acc aD ∧ G Dl = none ∧ aD.length ≤ k + 1 ∧ PostN c E G0 H0 G1 H1 σ l (pre aD (comp2 i j t e (ds.drop (k + 1)) l p)) Q,
        fun H' ⟨G, p, acc, aD, h⟩ => ⟨_, by omega, rfl, hlt, G, p, acc, aD, h⟩, fun x H' y => ?_⟩
      obtain ⟨d, G3, ed, s3, hP3, ad⟩ := w.yld k H x H' (sG.gg.trans sG.gh) hlt (c.full hp) y G sG.gg sG.gh
      have edr : ds.drop k = d :: ds.drop (k + 1) := by
        obtain ⟨h1, h2⟩ := List.getElem?_eq_some_iff.mp ed
        rw [List.drop_eq_getElem_cons h1, h2]
      rw [edr] at post
      unfold comp2 at post
      cases eT : gset2 i j d l with
      | none => simp only [eT] at post; exact post.elim
      | some l1 =>
        simp only [eT] at post
        -- the pair
        unfold gset2 at eT
        split at eT
        · rename_i d1 d2
          have hi : i < l.length := by
            by_cases z : i < l.length
            · exact z
            · unfold gset at eT; rw [if_neg z] at eT; cases eT
          have hj : j < l.length := by
            by_cases z : j < l.length
            · exact z
            · unfold gset at eT; rw [if_pos hi, Option.bind_some, if_neg (by simpa using z)] at eT; cases eT
          have el1 : l1 = (l.set i (some (.dat d1))).set j (some (.dat d2)) := by
            unfold gset at eT
            rw [if_pos hi, Option.bind_some, if_pos (by simpa using hj)] at eT
            exact (Option.some.inj eT).symm
          subst el1
          obtain ⟨tq, tvs, rfl, hT, tal⟩ := at_tup ad
          obtain ⟨v1, v2, rfl, hv1, hv2⟩ := atl2 tal
          have s13 := sG.trans s3
          have r3 : Rel c G0 H0 G3 H' σ l p := r1.step s13 (c.ext hP3 hp)
          have hDl3 : H' Dl = some (.lst acc) := s3.keep Dl _ hDl (fun b => hPD _ b rfl)
          have noD : ∀ {Ga Ha Gb Hb : Hp}, Stp c.B Ga Ha Gb Hb → Ga Dl = none → Ha Dl ≠ none → Gb Dl = none := fun {Ga Ha Gb Hb} s h1 h2 => by
            cases eg : Gb Dl with
            | none => rfl
            | some u =>
              rcases s.new Dl u eg with z | z
              · rw [h1] at z; cases z
              · exact absurd z h2
          have hG3 := noD s3 hG (by rw [hDl]; exact fun z => nomatch z)
          have r4 : Rel c G0 H0 G3 H' ((σ.set i (some v1)).set j (some v2)) ((l.set i (some (.dat d1))).set j (some (.dat d2))) p := (r3.set hv1 hi).set hv2 (by simpa using hj)
          refine ⟨tq, _, rfl, .inl (.inl (r3.stp.gh _ _ hT)), rfl, v1, _, rfl, v2, _, rfl, rfl, ?_⟩
          show wipe (((wipe σ [i, j]).set i (some v1)).set j (some v2)) [i, j] = wipe σ [i, j] ∧ tt (((wipe σ [i, j]).set i (some v1)).set j (some v2)) H' _
          have ew : (((wipe σ [i, j]).set i (some v1)).set j (some v2)) = (σ.set i (some v1)).set j (some v2) := set2_wipe σ i j v1 v2
          rw [ew]
          refine ⟨wipe_set2 σ i j v1 v2, ?_⟩
          refine ht _ _ _ _ _ _ _ r4 _ ?_
          unfold turn at post
          cases e1 : t ((l.set i (some (.dat d1))).set j (some (.dat d2))) p with
          | err n p1 => rw [mbind_err e1] at post; exact post.elim
          | bad => rw [mbind_bad e1] at post; exact post.elim
          | ok b p1 =>
            rw [mbind_ok e1] at post
            intro b' G5 H5 s5 r5 eb
            subst eb
            have s15 := s13.trans s5
            have hDl5 : H5 Dl = some (.lst acc) := s5.keep Dl _ hDl3 (fun b => hPD _ b rfl)
            have hG5 := noD s5 hG3 (by rw [hDl3]; exact fun z => nomatch z)
            cases b' with
            | false =>
              rw [if_neg Bool.false_ne_true]
              rw [if_neg Bool.false_ne_true] at post
              refine ⟨G5, p1, acc, aD, s15, r5.pot, hDl5, AtL.mono (s3.gg.trans s5.gg) al, hG5, Nat.le_succ_of_le hl, ?_⟩
              dsimp only [mret] at post
              cases e2 : comp2 i j t e (ds.drop (k + 1)) l p1 with
              | ok r' p2 => rw [e2] at post; exact post
              | err n p2 => rw [e2] at post; exact post
              | bad => rw [e2] at post; exact post
            | true =>
              rw [if_pos rfl]
              rw [if_pos rfl] at post
              refine he _ _ _ _ _ _ _ r5 _ ?_
              cases e2 : e ((l.set i (some (.dat d1))).set j (some (.dat d2))) p1 with
              | err n p2 => rw [mbind_err e2] at post; exact post.elim
              | bad => rw [mbind_bad e2] at post; exact post.elim
              | ok y p2 =>
                rw [mbind_ok e2] at post
                dsimp only [mret] at post
                intro v G6 H6 s6 r6 av
                have s16 := s15.trans s6
                have hDl6 : H6 Dl = some (.lst acc) := s6.keep Dl _ hDl5 (fun b => hPD _ b rfl)
                have hG6 := noD s6 hG5 (by rw [hDl5]; exact fun z => nomatch z)
                have al6 : AtL c.P G6 acc aD := AtL.mono ((s3.gg.trans s5.gg).trans s6.gg) al
                refine ⟨acc, hDl6, ?_, G6, p2, acc ++ [v], aD ++ [y], s16.poke hD hG6, c.ext (fun a b => upd_ne (hPD a b)) r6.pot, upd_same, AtL.append al6 (.cons av .nil), hG6, by rw [List.length_append]; exact Nat.succ_le_succ hl, ?_⟩
                · rw [AtL.length al6]
                  have z : aD.length ≤ 1000 := by omega
                  exact Nat.lt_of_le_of_lt z (by decide)
                · cases e3 : comp2 i j t e (ds.drop (k + 1)) l p2 with
                  | ok r' p3 =>
                    rw [e3] at post
                    have ea : aD ++ ([y] ++ r') = aD ++ [y] ++ r' := by rw [List.append_assoc]
                    show PostN c E G0 H0 G1 H1 σ l (.ok (aD ++ [y] ++ r') p3) Q
                    rw [← ea]
                    exact post
                  | err n p3 => rw [e3] at post; exact post
                  | bad => rw [e3] at post; exact post
        · cases eT
    · have ej : k = ds.length := by omega
      refine .inl ⟨w.stop k H (sG.gg.trans sG.gh) ej, ?_⟩
      rw [ej, List.drop_length] at post
      have post' : PostN c E G0 H0 G1 H1 σ l (.ok (aD ++ []) p) Q := post
      rw [List.append_nil] at post'
      exact post' Dl acc G H sG (r1.step sG hp) hDl al hG hD
  · exact post1.elim
end
theorem mcomp2_ev {a : M (List D)} {i j : Nat} {t : M Bool} {e : M D} {l : Loc} {p p' : List Int} {ds : List D} (ha : a l p = .ok ds p') (hl : ds.length ≤ 1000) : mcomp2 a i j t e l p = comp2 i j t e ds l p' := by
  unfold mcomp2
  rw [mbind_ok ha, if_pos hl]
/-- over what enumerate yields: a part, or none, for each -/
theorem comp2_enum {α : Type} {i j : Nat} {t : M Bool} {e : M D} {l : Loc} (hi : i < l.length) (hj : j < l.length) (g : α → D) (f : Nat → α → Option D) {p : List Int} : ∀ {xs : List α} {n : Nat}, (∀ (m : Nat) (x : α), xs[m]? = some x → turn t e ((l.set i (some (.dat (.int ((n + m : Nat) : Int))))).set j (some (.dat (g x)))) p = .ok (f (n + m) x) p) →
    comp2 i j t e (enumD n (xs.map g)) l p = .ok ((xs.zipIdx n).filterMap fun z => f z.2 z.1) p
  | [], n, _ => rfl
  | x :: xs, n, h => by
    have h0 := h 0 x rfl
    have ih := comp2_enum hi hj g f (p := p) (xs := xs) (n := n + 1) fun m y hy => by
      have := h (m + 1) y (by simpa using hy)
      rw [show n + (m + 1) = n + 1 + m by omega] at this
      exact this
    have eT : gset2 i j (.tup [.int (n : Int), g x]) l = some ((l.set i (some (.dat (.int (n : Int))))).set j (some (.dat (g x)))) := by
      show (gset i _ l).bind (gset j _) = _
      rw [lset_lt i _ l hi, Option.bind_some, lset_lt j _ _ (by simpa using hj)]
    show comp2 i j t e (.tup [.int (n : Int), g x] :: enumD (n + 1) (xs.map g)) l p = _
    unfold comp2
    rw [eT]
    simp only [Nat.add_zero] at h0
    simp only [h0, ih]
    rw [List.zipIdx_cons, List.filterMap_cons]
    cases f n x <;> rfl
end Den
namespace Den
open PySem L2
section
variable {c : Cfg} {E : St → XK}
def cellOf (i : Nat) (l : Loc) : Option (List D) := match l[i]? with
  | some (some (.cell ds)) => some ds
  | _ => none
theorem cellOf_at {i : Nat} {l : Loc} {ds : List D} (h : cellOf i l = some ds) : l[i]? = some (some (.cell ds)) := by
  unfold cellOf at h
  split at h
  · rename_i e
    cases h
    exact e
  · cases h
def ixk (ds : List D) : D → Option D
  | .int n => atI ds n
  | _ => none
def mixc (i : Nat) (a : M D) : M D := fun l p => match cellOf i l with
  | some ds => mbind a (fun k => mlift (ixk ds k)) l p
  | none => .bad
theorem atL_get {P : Addr} {G : Hp} {vs : List V} {ds : List D} {n : Int} {d : D} (h : AtL P G vs ds) (e : atI ds n = some d) : ∃ v, atI vs n = some v ∧ At P G v d := by
  unfold atI at e ⊢
  rw [AtL.length h]
  cases e1 : ixN ds.length n with
  | none => rw [e1] at e; cases e
  | some j =>
    rw [e1] at e
    obtain ⟨v, e2, hv⟩ := AtL.get h (show ds[j]? = some d from e)
    exact ⟨v, e2, hv⟩
theorem se_ixc {i : Nat} {t : TE} {a : M D} (ha : SE c E t a) : SE c E (tOp (rIx c.K) (tVar i) t) (mixc i a) := by
  intro G0 H0 G H σ l pot r Q post
  unfold mixc at post
  cases e : cellOf i l with
  | none => rw [e] at post; exact post.elim
  | some ds =>
    rw [e] at post
    have hc := cellOf_at e
    obtain ⟨q, vs, hσ, h1, h2⟩ := cell_at r hc
    refine ⟨.ref q, hσ, ?_⟩
    refine Sn.go ha r post fun x dx p G1 H1 s1 r1 hx post1 => ?_
    cases dx with
    | int n =>
      rw [at_int hx]
      cases e2 : atI ds n with
      | none => simp only [ixk, e2] at post1; exact post1.elim
      | some d =>
        simp only [ixk, e2] at post1
        obtain ⟨q2, vs2, hσ2, g1, g2⟩ := cell_at r1 hc
        rw [hσ] at hσ2
        cases hσ2
        obtain ⟨v, ev, hv⟩ := atL_get g2 e2
        exact .inl ⟨q, vs2, n, v, rfl, rfl, .inl (.inl g1), ev, Post.ok post1 r1 hv⟩
    | _ => exact post1.elim
def mlenc (i : Nat) : M D := fun l p => match cellOf i l with
  | some ds => .ok (.int ds.length) p
  | none => .bad
theorem se_lenc {i : Nat} : SE c E (tCB (rLenS c.K) (tCons (tVar i) tNil)) (mlenc i) := by
  intro G0 H0 G H σ l pot r Q post
  unfold mlenc at post
  cases e : cellOf i l with
  | none => rw [e] at post; exact post.elim
  | some ds =>
    rw [e] at post
    obtain ⟨q, vs, hσ, h1, h2⟩ := cell_at r (cellOf_at e)
    exact ⟨.ref q, hσ, q, vs, rfl, .inl (.inl (.inl h1)), by rw [AtL.length h2]; exact Post.ok post r (.int _)⟩
def intAt (i : Nat) (l : Loc) : Option Int := match l[i]? with
  | some (some (.dat (.int n))) => some n
  | _ => none
theorem intAt_at {i : Nat} {l : Loc} {n : Int} (h : intAt i l = some n) : l[i]? = some (some (.dat (.int n))) := by
  unfold intAt at h
  split at h
  · rename_i e
    cases h
    exact e
  · cases h
def saug (i : Nat) (f : Int → Int → Int) (a : M D) : MS := fun l p => match intAt i l with
  | some m => sbind a (fun y l p => match y with
    | .int n => .nx (l.set i (some (.dat (.int (f m n))))) p
    | _ => .bad) l p
  | none => .bad
theorem ss_aug {i : Nat} {t : TE} {f : Int → Int → Int} {a : M D} (ha : SE c E t a) : SS c E (tAug i t (ipI f)) (saug i f a) := by
  intro G0 H0 G H σ l pot r De post
  unfold saug at post
  cases e : intAt i l with
  | none => rw [e] at post; exact post.elim
  | some m =>
    rw [e] at post
    have hl := intAt_at e
    have q := r.slot i _ hl
    have hi : i < l.length := (List.getElem?_eq_some_iff.mp hl).1
    cases eσ : σ[i]? with
    | none => rw [eσ] at q; exact q.elim
    | some o =>
      cases o with
      | none => rw [eσ] at q; exact q.elim
      | some v =>
        rw [eσ] at q
        obtain rfl : v = .int m := at_int q
        refine ⟨.int m, eσ, ?_⟩
        refine Sn.goS ha r post fun x dx p G1 H1 s1 r1 hx post1 => ?_
        cases dx with
        | int n =>
          rw [at_int hx]
          exact ⟨m, n, rfl, rfl, PostS.of post1 (r1.set (.int _) hi)⟩
        | _ => exact post1.elim
/-- at most n turns -/
def whileN (t : M Bool) (b : MS) : Nat → MS
  | 0 => fun _ _ => .bad
  | n + 1 => sbind t fun x => if x = true then (fun l p => match b l p with
      | .nx l' p' => whileN t b n l' p'
      | .ct l' p' => whileN t b n l' p'
      | .bk l' p' => .nx l' p'
      | o => o) else sskip
open Classical in
noncomputable def swhile (t : M Bool) (b : MS) : MS := fun l p => if h : ∃ n, whileN t b n l p ≠ .bad then whileN t b (choose h) l p else .bad
theorem ss_while {tt : TT} {tb : TS} {t : M Bool} {b : MS} (ht : ST c E tt t) (hb : SS c E tb b) : SS c E (tWhile tt tb) (swhile t b) := by
  intro G0 H0 G H σ l pot r De post
  have hn : ∃ n, PostS c E G0 H0 G De (whileN t b n l pot) := by
    unfold swhile at post
    split at post
    · exact ⟨_, post⟩
    · exact post.elim
  obtain ⟨n, post⟩ := hn
  refine ⟨fun m σ H => ∃ G1 l p, Ex G G1 ∧ Rel c G0 H0 G1 H σ l p ∧ PostS c E G0 H0 G1 De (whileN t b m l p), ⟨n, G, l, pot, Ex.refl _, r, post⟩, ?_⟩
  rintro m σ H ⟨G1, l, p, eg, r, post⟩
  cases m with
  | zero => exact post.elim
  | succ m =>
    unfold whileN at post
    refine Sn.goS ht r post fun x dx p G2 H2 s2 r2 hx post2 => ?_
    subst hx
    cases x with
    | false =>
      rw [if_neg Bool.false_ne_true] at post2 ⊢
      exact PostS.of post2 r2
    | true =>
      rw [if_pos rfl] at post2 ⊢
      refine ⟨fun σ' H' => ∃ G1 l p, Ex G G1 ∧ Rel c G0 H0 G1 H' σ' l p ∧ PostS c E G0 H0 G1 De (whileN t b m l p), fun σ' H' h => ⟨m, Nat.lt_succ_self m, h⟩, ?_⟩
      refine hb _ _ _ _ _ _ _ r2 _ ?_
      cases e : b l p with
      | nx l' p' => simp only [e] at post2; exact fun G' H' σ' e' r' => ⟨G', l', p', (eg.trans s2.gg).trans e', r', PostS.mono post2 e'⟩
      | ct l' p' => simp only [e] at post2; exact fun G' H' σ' e' r' => ⟨G', l', p', (eg.trans s2.gg).trans e', r', PostS.mono post2 e'⟩
      | bk l' p' => simp only [e] at post2; exact post2
      | rt d p' => simp only [e] at post2; exact post2
      | err n l' p' => simp only [e] at post2; exact post2
      | bad => simp only [e] at post2; exact post2
theorem whileN_more {t : M Bool} {b : MS} : ∀ {n m : Nat} {l : Loc} {p : List Int}, whileN t b n l p ≠ .bad → n ≤ m → whileN t b m l p = whileN t b n l p
  | 0, _, _, _, h, _ => absurd rfl h
  | n + 1, 0, _, _, _, h => absurd h (Nat.not_succ_le_zero n)
  | n + 1, m + 1, l, p, h, hm => by
    have hm' : n ≤ m := Nat.le_of_succ_le_succ hm
    unfold whileN at h ⊢
    unfold sbind at h ⊢
    cases e : t l p with
    | bad => rfl
    | err k q => rfl
    | ok x q =>
      simp only [e] at h ⊢
      cases x with
      | false => rfl
      | true =>
        simp only [if_true] at h ⊢
        cases e2 : b l q with
        | nx l' p' => simp only [e2] at h ⊢; exact whileN_more h hm'
        | ct l' p' => simp only [e2] at h ⊢; exact whileN_more h hm'
        | bk l' p' => rfl
        | rt d p' => rfl
        | err k l' p' => rfl
        | bad => rfl
theorem swhile_ev {t : M Bool} {b : MS} {n : Nat} {l : Loc} {p : List Int} {o : O} (h : whileN t b n l p = o) (ho : o ≠ .bad) : swhile t b l p = o := by
  have hz : ∃ n, whileN t b n l p ≠ .bad := ⟨n, by rw [h]; exact ho⟩
  unfold swhile
  rw [dif_pos hz]
  have h1 := Classical.choose_spec hz
  rw [← h]
  rcases Nat.le_total n (Classical.choose hz) with z | z
  · exact whileN_more (by rw [h]; exact ho) z
  · exact (whileN_more h1 z).symm
end
section
variable {X : Cx} {CX : CXT} {C g : Addr} {n : Nat} {sp : Sp} {E : XK}
end
section
variable {c : Cfg} {E : St → XK}
end
end Den
namespace DenB
open PySem
open PySem.Sem (wp)
theorem truthy_tupN {prog : Program} {w : World} {A : Around} {E : Value → Shared → Prop} {s : Shared} {l : Addr} {items : Array Value} {Q : Bool → Shared → Prop} (hl : s.heap.IsTuple l items) (hfit : (items.size : Int) < 2 ^ 63)
    (h : Q (!items.isEmpty) { s with toks := s.toks + 1 + 1 }) : wpAny (model prog w) A (truthy (.ref l)) Q E s := PyProof.Rows.truthy_tuple hl hfit h
theorem meets_bool_tup (l : Addr) (items : Array Value) (hfit : (items.size : Int) < 2 ^ 63) :
    Meets (Builtin.«bool.__new__» ⟨[.type "bool", .ref l], []⟩) (fun _ R s => s.heap.IsTuple l items ∧ ∀ t, R (.ok (.ret (.bool (!items.isEmpty)))) { s with toks := t }) :=
  Meets.of_wp fun prog w A R s hs => by
    obtain ⟨hl, hs⟩ := hs
    obtain ⟨hp, g, d, tk, os⟩ := s
    have f1 := F.conv_sub_bool
    repeat (any_goals (first | assumption | (with_reducible refine truthy_tupN hl hfit ?_) | wp_step))
    all_goals first | exact ⟨_, rfl, hs _⟩ | exact hs _ | skip
theorem call_bool_tup {prog : Program} {w : World} {A : Around} {E : Value → Shared → Prop} {s : Shared} {l : Addr} {items : Array Value} {Q : Value → Shared → Prop} (hfit : (items.size : Int) < 2 ^ 63) (hl : s.heap.IsTuple l items)
    (h : ∀ t, Q (.bool (!items.isEmpty)) { s with toks := t }) : wpAny (model prog w) A (call (.type "bool") [.ref l]) Q E s :=
  call_bool_1 (meets_bool_tup l items hfit) ⟨hl, fun t => ⟨rfl, h t⟩⟩
end DenB
namespace Den
open PySem L2
section
variable {X : Cx}
def rBoolS (K : PySem.W.Frag) : List V → Hp → VK → Prop := fun xs H Q => ∃ (a : Addr) (zs : List V), xs = [.ref a] ∧ (SqL K H a zs ∨ SqT K H a zs) ∧ Q (.bl (!zs.isEmpty)) H
theorem call_boolS : CallR X (.type "bool") (rBoolS X.K) := by
  intro pins s σ H xs us Q I r h
  obtain ⟨a, zs, rfl, hq | hq, q⟩ := h
  · exact call_boolL pins s σ H _ us Q I r ⟨a, zs, rfl, hq, q⟩
  · obtain rfl := Vals.ref1 r
    obtain ⟨its, rv, pl, hz⟩ := I.tuple hq
    have hl := line63
    have hlen := rv.length
    refine DenB.call_bool_tup (by simp only [List.size_toArray]; omega) pl fun t => ?_
    exact ⟨.bl (!zs.isEmpty), H, I.tok _, by rw [isEmpty_of rv]; rfl, q⟩
end
section
variable {c : Cfg}
def fBoolS : List D → Option D
  | [d] => (seqOf d).map fun ds => .bl (!ds.isEmpty)
  | _ => none
theorem sn_boolS : SN c (rBoolS c.K) fBoolS := ⟨fun G H xs ds d gh _ hx e => by
  unfold fBoolS at e
  split at e
  · obtain ⟨x, rfl, hx1⟩ := atl1 hx
    rename_i dx
    cases dx with
    | lst es =>
      obtain ⟨p, vs, rfl, h, a⟩ := at_lst hx1
      cases e
      exact ops_pure gh (.bl _) fun Q q => ⟨p, vs, rfl, .inl (.inl (.inl (gh _ _ h))), by rw [isEmpty_at a]; exact q⟩
    | tup es =>
      obtain ⟨p, vs, rfl, h, a⟩ := at_tup hx1
      cases e
      exact ops_pure gh (.bl _) fun Q q => ⟨p, vs, rfl, .inr (.inl (.inl (gh _ _ h))), by rw [isEmpty_at a]; exact q⟩
    | _ => cases e
  · cases e⟩
end
end Den
namespace PL
open PySem L2 Den
noncomputable section
def dn_check_one_or_two : MS := (sif (mtest (op2 (fInB true) (mvar 0) (mtupd (acons (mret (D.int 1)) (acons (mret (D.int 2)) anil))))) (sraise 1) sskip)
def D_check_one_or_two : RF := denF 1 1 (dn_check_one_or_two)
def b_due_at_1 : MS := (sif (mtest (op2 fIsN (mvar 0) (mret D.non))) (sret (op2 fAdd (mvar 1) (mret (D.int 1)))) sskip)
def b_due_at_2 : MS := (sif (mtest (op2 fEq (op2 fIx (mvar 0) (mret (D.int 0))) (mret (D.str "chips")))) (sret (opn fMin2 (acons (op2 fIx (mvar 0) (mret (D.int 1))) (acons (op2 fAdd (mvar 1) (mret (D.int 1))) anil)))) sskip)
def b_due_at_3 : MS := (sret (opn fMax2 (acons (mret (D.int 0)) (acons (op2 fSub (op2 fAdd (mvar 1) (mret (D.int 1))) (op2 fIx (mvar 0) (mret (D.int 1)))) anil))))
def dn_due_at : MS := (sseq b_due_at_1
    (sseq b_due_at_2
    b_due_at_3))
def D_due_at : RF := denF 2 2 (dn_due_at)
def L_check_kinds_k09_1 : MS := (sif (mnot (mtru (opn fIs2 (acons (mvar 4) (acons (mtupd (acons (mret (D.ty Ty.lst)) (acons (mret (D.ty Ty.tup)) anil))) anil))))) (sraise 0) sskip)
def b_check_kinds_k09_1 : MS := (sfor (mbind (mtupd (acons (mvar 0) (acons (mvar 1) (acons (mvar 3) anil)))) fun x => mlift (tupOf x)) (gset 4) L_check_kinds_k09_1)
def L_check_kinds_k09_2 : MS := (sdrop (mcall D_whole_list (acons (mvar 4) anil)))
def b_check_kinds_k09_2 : MS := (sfor (mbind (mtupd (astar (mvar 0) (astar (mvar 1) (acons (mvar 2) anil)))) fun x => mlift (tupOf x)) (gset 4) L_check_kinds_k09_2)
def L_check_kinds_k09_3 : MS := (sdrop (mcall D_check_due (acons (mvar 5) anil)))
def b_check_kinds_k09_3 : MS := (sfor (mbind (mvar 3) fun x => mlift (seqOf x)) (gset 5) L_check_kinds_k09_3)
def dn_check_kinds_k09 : MS := (sseq b_check_kinds_k09_1
    (sseq b_check_kinds_k09_2
    b_check_kinds_k09_3))
def D_check_kinds_k09 : RF := denF 4 6 (dn_check_kinds_k09)
def L_check_steps_k09_1l1 : MS := (sif (mor (mtest (op2 fLt (mvar 4) (mret (D.int 0)))) (mtest (op2 fGe (mvar 4) (opn fLen (acons (mvar 0) anil))))) (sraise 2) sskip)
def b_check_steps_k09_1l1 : MS := (sfor (mbind (mtupd (astar (mvar 3) (astar (op2 fIx (mvar 1) (mvar 2)) anil))) fun x => mlift (tupOf x)) (gset 4) L_check_steps_k09_1l1)
def b_check_steps_k09_1l2 : MS := (sif (mtest (op2 fNe (opn fBoolS (acons (mvar 3) anil)) (opn fBoolS (acons (op2 fIx (mvar 1) (mvar 2)) anil)))) (sraise 2) sskip)
def L_check_steps_k09_1 : MS := (sseq b_check_steps_k09_1l1
    b_check_steps_k09_1l2)
def dn_check_steps_k09 : MS := (sfor (mbind (acons (mvar 0) anil) fun x => mlift (enumS x)) (gset2 2 3) L_check_steps_k09_1)
def D_check_steps_k09 : RF := denF 2 5 (dn_check_steps_k09)
def b_check_parts_k09_1 : MS := (sdrop (mcall D_check_kinds_k09 (acons (mvar 0) (acons (mvar 1) (acons (mvar 2) (acons (mvar 3) anil))))))
def b_check_parts_k09_2 : MS := (sasg (opn fLen (acons (mvar 2) anil)) (gset 4))
def b_check_parts_k09_3 : MS := (sif (mor (mtest (op2 fEq (mvar 4) (mret (D.int 0)))) (mtest (op2 (fEqD true) (mfreeze (mshort (acons (opn fLen (acons (mvar 0) anil)) (acons (opn fLen (acons (mvar 1) anil)) (acons (opn fLen (acons (mvar 3) anil)) anil))))) (op2 fRep (mfreeze (mshort (acons (mvar 4) anil))) (mret (D.int 3)))))) (sraise 2) sskip)
def b_check_parts_k09_4 : MS := (sdrop (mcall D_check_steps_k09 (acons (mvar 0) (acons (mvar 1) anil))))
def L_check_parts_k09_5 : MS := (sif (mtest (op2 (fInB true) (mvar 5) (mtupd (acons (mret (D.int 1)) (acons (mret (D.int 2)) anil))))) (sraise 2) sskip)
def b_check_parts_k09_5 : MS := (sfor (mbind (mvar 2) fun x => mlift (seqOf x)) (gset 5) L_check_parts_k09_5)
def L_check_parts_k09_6 : MS := (sif (mnot (mtru (mcall D_due_in_range (acons (mvar 6) anil)))) (sraise 2) sskip)
def b_check_parts_k09_6 : MS := (sfor (mbind (mvar 3) fun x => mlift (seqOf x)) (gset 6) L_check_parts_k09_6)
def b_check_parts_k09_7 : MS := (sdrop (mcall D_check_most (acons (mvar 4) (acons (mret (D.int 60)) anil))))
def L_check_parts_k09_8 : MS := (sif (mtru (mcall D_due_too_great (acons (mvar 6) anil))) (sraise 3) sskip)
def b_check_parts_k09_8 : MS := (sfor (mbind (mvar 3) fun x => mlift (seqOf x)) (gset 6) L_check_parts_k09_8)
def dn_check_parts_k09 : MS := (sseq b_check_parts_k09_1
    (sseq b_check_parts_k09_2
    (sseq b_check_parts_k09_3
    (sseq b_check_parts_k09_4
    (sseq b_check_parts_k09_5
    (sseq b_check_parts_k09_6
    (sseq b_check_parts_k09_7
    b_check_parts_k09_8)))))))
def D_check_parts_k09 : RF := denF 4 7 (dn_check_parts_k09)
def b_Web_init_k09_01 : MS := (sdrop (mcall D_check_parts_k09 (acons (mvar 1) (acons (mvar 2) (acons (mvar 3) (acons (mvar 4) anil))))))
def b_Web_init_k09_02 : MS := (sasg (opn fLen (acons (mvar 3) anil)) (gset 5))
def c_Web_init_k09_1 : M (List D) := (mcomp (mbind (mvar 1) fun x => mlift (seqOf x)) 6 mtrue (mcall D_as_stands (acons (mvar 6) (acons (mvar 5) anil))))
def b_Web_init_k09_04 (A : CA) : MS := (sfldO A.Web 0 "_first" (opn fTuple (acons (mfreeze c_Web_init_k09_1) anil)))
def c_Web_init_k09_2 : M (List D) := (mcomp (mbind (mvar 2) fun x => mlift (seqOf x)) 6 mtrue (mcall D_as_stands (acons (mvar 6) (acons (mvar 5) anil))))
def b_Web_init_k09_05 (A : CA) : MS := (sfldO A.Web 0 "_second" (opn fTuple (acons (mfreeze c_Web_init_k09_2) anil)))
def b_Web_init_k09_06 (A : CA) : MS := (sfldO A.Web 0 "_marks" (opn fTuple (acons (mvar 3) anil)))
def c_Web_init_k09_3 : M (List D) := (mcomp (mbind (mvar 4) fun x => mlift (seqOf x)) 7 mtrue (mif (mtest (op2 fIsN (mvar 7) (mret D.non))) (mret D.non) (opn fTuple (acons (mvar 7) anil))))
def b_Web_init_k09_07 (A : CA) : MS := (sfldO A.Web 0 "_dues" (opn fTuple (acons (mfreeze c_Web_init_k09_3) anil)))
def c_Web_init_k09_4 : M (List D) := (mcomp (mbind (acons (mvar 5) anil) fun x => mlift (rng1 x)) 8 (mnot (mtru (op2 fIx (mvar 1) (mvar 8)))) (mvar 8))
def b_Web_init_k09_08 (A : CA) : MS := (sfldO A.Web 0 "_ends" (opn fTuple (acons (mfreeze c_Web_init_k09_4) anil)))
def c_Web_init_k09_5 : M (List D) := (mcomp (mbind (acons (mvar 5) anil) fun x => mlift (rng1 x)) 8 (mtru (op2 fIx (mvar 1) (mvar 8))) (mvar 8))
def b_Web_init_k09_09 (A : CA) : MS := (sfldO A.Web 0 "_moving" (opn fTuple (acons (mfreeze c_Web_init_k09_5) anil)))
def c_Web_init_k09_6 : M (List D) := (mcomp (mbind (mvar 4) fun x => mlift (seqOf x)) 7 mtrue (mif (mtest (op2 fIsN (mvar 7) (mret D.non))) (mret (D.int 0)) (op2 fIx (mvar 7) (mret (D.int 1)))))
def b_Web_init_k09_10 (A : CA) : MS := (sfldO A.Web 0 "_greatest_due" (opn fMaxL (acons (mfreeze c_Web_init_k09_6) anil)))
def b_Web_init_k09_11 (A : CA) : MS := (sfldO A.Web 0 "_even" (op2 (fEqD false) (mfldO A.Web 0 "_first") (mfldO A.Web 0 "_second")))
def dn_Web_init_k09 (A : CA) : MS := (sseq b_Web_init_k09_01
    (sseq b_Web_init_k09_02
    (sseq (sfldO A.Web 0 "_size" (mvar 5))
    (sseq (b_Web_init_k09_04 A)
    (sseq (b_Web_init_k09_05 A)
    (sseq (b_Web_init_k09_06 A)
    (sseq (b_Web_init_k09_07 A)
    (sseq (b_Web_init_k09_08 A)
    (sseq (b_Web_init_k09_09 A)
    (sseq (b_Web_init_k09_10 A)
    (b_Web_init_k09_11 A)))))))))))
def sqD (b : Bool) (ds : List D) : D := if b then .tup ds else .lst ds
def sqI (s : Bool × List Int) : D := sqD s.1 (s.2.map .int)
def sqDue (s : Bool × Due) : D := match s.2 with
  | none => .non
  | some (w, x) => sqD s.1 [.str (if w then "chips" else "less"), .int x]
structure Wg where
  first : Bool × List (Bool × List Int)
  second : Bool × List (Bool × List Int)
  marks : Bool × List Int
  dues : Bool × List (Bool × Due)
def Wg.wb (g : Wg) : Wb := ⟨g.first.2.map Prod.snd, g.second.2.map Prod.snd, g.marks.2, g.dues.2.map Prod.snd⟩
def encG (g : Wg) : List D := [sqD g.first.1 (g.first.2.map sqI), sqD g.second.1 (g.second.2.map sqI), sqI g.marks, sqD g.dues.1 (g.dues.2.map sqDue)]
structure ValidG (wb : Wb) : Prop where
  n1 : 1 ≤ wb.marks.length
  n2 : wb.marks.length ≤ 60
  l1 : wb.first.length = wb.marks.length
  l2 : wb.second.length = wb.marks.length
  l3 : wb.dues.length = wb.marks.length
  s1 : ∀ ss ∈ wb.first, ss.length < 64 ∧ ∀ x ∈ ss, 0 ≤ x ∧ x < (wb.marks.length : Int)
  s2 : ∀ ss ∈ wb.second, ss.length < 64 ∧ ∀ x ∈ ss, 0 ≤ x ∧ x < (wb.marks.length : Int)
  both : ∀ (i : Nat) (a b : List Int), wb.first[i]? = some a → wb.second[i]? = some b → a.isEmpty = b.isEmpty
  mks : ∀ m ∈ wb.marks, m = 1 ∨ m = 2
  du : ∀ d ∈ wb.dues, ∀ b x, d = some (b, x) → 0 ≤ x ∧ x ≤ 10000000000000000000000000000000000000000
open Classical in
def D_Web_init_k09 (_ : CA) : RI := fun ds pot => if h : ∃ g, ValidG (Wg.wb g) ∧ ds = encG g then .ok (wnames, wfields (choose h).wb) pot else .bad

def c_dues_at_1 (A : CA) : M (List D) := (mcomp (mbind (mfld A.Web "_dues" (mvar 0)) fun x => mlift (tupOf x)) 2 mtrue (mcall D_due_at (acons (mvar 2) (acons (mvar 1) anil))))
def dn_dues_at (A : CA) : MS := (sret (opn fTuple (acons (mfreeze (c_dues_at_1 A)) anil)))
def D_dues_at (A : CA) : RF := denF 2 3 (dn_dues_at A)
def c_law_next_1 : M (List D) := (mcomp (mbind (acons (opn fLen (acons (mvar 2) anil)) anil) fun x => mlift (rng1 x)) 3 mtrue (opn fMin2 (acons (mcall D_due_at (acons (op2 fIx (op2 fIx (mvar 0) (mret (D.int 3))) (mvar 3)) (acons (mvar 1) anil))) (acons (mcall D_law_price (acons (mvar 0) (acons (mvar 1) (acons (mvar 2) (acons (mvar 3) anil))))) anil))))
def dn_law_next : MS := (sret (mfreeze c_law_next_1))
def D_law_next : RF := denF 3 4 (dn_law_next)
def c_law_built_k09_1 : M (List D) := (mcomp (mbind (op2 fIx (mvar 0) (mret (D.int 1))) fun x => mlift (lstOf x)) 1 mtrue (mfreeze (mlistN (acons (mvar 1) anil))))
def c_law_built_k09_2 : M (List D) := (mcomp (mbind (op2 fIx (mvar 0) (mret (D.int 0))) fun x => mlift (lstOf x)) 1 mtrue (mfreeze (mlistN (acons (mvar 1) anil))))
def dn_law_built_k09 (A : CA) : MS := (sret (mmake A.Web (D_Web_init_k09 A) (acons (mfreeze c_law_built_k09_2) (acons (mfreeze c_law_built_k09_1) (acons (mfreeze (mlistN (acons (op2 fIx (mvar 0) (mret (D.int 2))) anil))) (acons (mfreeze (mlistN (acons (op2 fIx (mvar 0) (mret (D.int 3))) anil))) anil))))))
def D_law_built_k09 (A : CA) : RF := denF 1 2 (dn_law_built_k09 A)
end
end PL
namespace DenB
open PySem PySem.Calls
section
variable {prog : Program} {w : World} {A : Around} {E : Value → Shared → Prop} {s : Shared} {K : PySem.W.Frag} {x C L f : Addr} {ox : Obj} {od : Option Obj} {h₀ : Heap} {m : Str → Option Value} {b tb : Value}
end
end DenB
namespace DenB
open PySem PySem.Calls
section
variable {prog : Program} {w : World} {A : Around} {E : Value → Shared → Prop} {s : Shared} {K : PySem.W.Frag} {x C L f : Addr} {ox : Obj} {od : Option Obj}
end
end DenB
namespace Den
open PySem L2 ItX
end Den
namespace Den
open PySem L2
section
variable {X : Cx} {CX : CXT} {C g : Addr} {n : Nat} {sp : Sp} {E : XK} {pins : List (Addr × Obj)} {σ : St} {H : Hp} {s : Shared}
end
section
variable {c : Cfg} {E : St → XK}
/-- the walk -/
def itOwn (C : Addr) (f : Str) : D → Option (List D)
  | .ins C' ns ds => if C' = C then ((ns.zip ds).lookup f).bind tupOf else none
  | _ => none
end
end Den
namespace Den
open PySem L2
section
variable {c : Cfg} {E : St → XK}
inductive SuitesB (c : Cfg) (B : Nat) : List (Value × (Addr → Value → Option Addr → TS)) → List (Nat × MS) → Prop
  | nil : SuitesB c B [] []
  | cons {m : Nat} {ts : Addr → Value → Option Addr → TS} {s : MS} {l : List (Value × (Addr → Value → Option Addr → TS))} {hs : List (Nat × MS)} (hm : m < B) (h : ∀ a cls d, SS c (fun _ => E0) (ts a cls d) s) (t : SuitesB c B l hs) : SuitesB c B ((.ref (c.ec m), ts) :: l) ((m, s) :: hs)
end
end Den
namespace Den
open PySem L2
section
variable {c : Cfg} {E : St → XK}
end
end Den
namespace Den
open PySem L2 StX
section
variable {X : Cx} {CX : CXT} {k : Nat} {f C : Addr} {sp : Sp} {E : St → XK} {x : Str} {e : Expr} {es : List Expr} {t : TA} {p pos : Pos}
end
section
variable {c : Cfg} {E : St → XK}
end
end Den
namespace PL
open PySem L2 Den
noncomputable section
def D_Verdict_init (_ : CA) : RI := fun ds pot => match ds with
  | [d] => (D_whole_list [d] pot).bind fun t p => match t with
    | .tup es => (match intsOf es with
      | some ns => if ∃ n ∈ ns, n < 0 then .err 1 p else if ns.length < 64 then .ok (["_faults"], [.tup ((sortSet ns).map .int)]) p else .bad
      | none => .bad)
    | _ => .bad
  | _ => .bad

end
end PL
namespace Den
open PySem L2 ItX
section
variable {c : Cfg} {E : St → XK}
def mlistO (C : Addr) (f : Str) (a : M (List D)) : M (List D) := mbind a fun ds => match ds with
  | [d] => mlift (itOwn C f d)
  | _ => fun _ _ => .bad
@[simp] theorem mlistO_ev (C : Addr) (f : Str) (a : M (List D)) (l : Loc) (p : List Int) {d : D} {p' : List Int} (h : a l p = .ok [d] p') : mlistO C f a l p = mlift (itOwn C f d) l p' := by
  unfold mlistO
  rw [mbind_ok h]
end
end Den
namespace PL
open PySem L2 Den
noncomputable section
end
end PL
namespace Den
open PySem L2
section
variable {c : Cfg} {E : St → XK}
/-- what stands, but for p -/
def less (G : Hp) (p : Addr) : Hp := fun q => if q = p then none else G q
theorem less_some {G : Hp} {p q : Addr} {o : HO} (h : less G p q = some o) : q ≠ p ∧ G q = some o := by
  unfold less at h
  by_cases z : q = p
  · rw [if_pos z] at h; cases h
  · rw [if_neg z] at h; exact ⟨z, h⟩
theorem Stp.back {G H G2 H2 : Hp} {p : Addr} {o : HO} (gp : G p = none) (s : Stp c.B (upd G p o) H G2 H2) : Stp c.B G H (less G2 p) H2 := by
  refine ⟨fun a u e => ?_, fun a u e => s.gh a u (less_some e).2, s.keep, s.there, fun a u e => ?_⟩
  · have ne : a ≠ p := fun z => by rw [z, gp] at e; cases e
    show (if a = p then none else G2 a) = some u
    rw [if_neg ne]
    exact s.gg a u (by rw [upd_ne ne]; exact e)
  · obtain ⟨ne, e2⟩ := less_some e
    rcases s.new a u e2 with z | z
    · rw [upd_ne ne] at z; exact .inl z
    · exact .inr z
theorem cellOf_ev {i : Nat} {l : Loc} {ds : List D} (h : l[i]? = some (some (.cell ds))) : Den.cellOf i l = some ds := by
  unfold Den.cellOf
  rw [h]
end
end Den
namespace Den
open PySem L2
section
variable {X : Cx}
end
section
variable {c : Cfg} {E : St → XK}
/-- ints, in ascending order -/
def insW (k : Int) : List Int → List Int
  | [] => [k]
  | n :: ns => if k ≤ n then k :: n :: ns else n :: insW k ns
end
end Den
namespace Den
open PySem L2
section
variable {c : Cfg} {E : St → XK}
def blsOf : List D → Option (List Bool)
  | [] => some []
  | .bl b :: ds => (blsOf ds).map (b :: ·)
  | _ :: _ => none
theorem bls_at {P : Addr} {G : Hp} : ∀ {vs : List V} {ds : List D} {bs : List Bool}, AtL P G vs ds → blsOf ds = some bs → vs = bs.map V.bl
  | _, [], _, h, e => by cases h; cases e; rfl
  | _, d :: ds, bs, h, e => by
    cases h with
    | cons h t =>
      cases d with
      | bl b =>
        cases h
        unfold blsOf at e
        cases e1 : blsOf ds with
        | none => rw [e1] at e; cases e
        | some cs =>
          rw [e1] at e
          cases e
          rw [bls_at t e1]
          rfl
      | _ => cases e
def fAny : List D → Option D
  | [.lst ds] => (blsOf ds).map fun bs => .bl (bs.any id)
  | _ => none
def fAll : List D → Option D
  | [.lst ds] => (blsOf ds).map fun bs => .bl (bs.all id)
  | _ => none
theorem sn_any : SN c (rAny c.K) fAny := ⟨fun G H xs ds d gh _ hx e => by
  unfold fAny at e
  split at e
  · obtain ⟨x, rfl, hx1⟩ := atl1 hx
    rename_i es
    obtain ⟨q, vs, rfl, h, al⟩ := at_lst hx1
    cases e1 : blsOf es with
    | none => rw [e1] at e; cases e
    | some bs =>
      rw [e1] at e
      cases e
      have ev := bls_at al e1
      subst ev
      exact ops_pure gh (.bl _) fun Q k => ⟨q, bs, rfl, .inl (.inl (gh _ _ h)), k⟩
  · cases e⟩
theorem sn_all : SN c (rAll c.K) fAll := ⟨fun G H xs ds d gh _ hx e => by
  unfold fAll at e
  split at e
  · obtain ⟨x, rfl, hx1⟩ := atl1 hx
    rename_i es
    obtain ⟨q, vs, rfl, h, al⟩ := at_lst hx1
    cases e1 : blsOf es with
    | none => rw [e1] at e; cases e
    | some bs =>
      rw [e1] at e
      cases e
      have ev := bls_at al e1
      subst ev
      exact ops_pure gh (.bl _) fun Q k => ⟨q, bs, rfl, .inl (.inl (gh _ _ h)), k⟩
  · cases e⟩
theorem blsOf_map : ∀ bs : List Bool, blsOf (bs.map .bl) = some bs
  | [] => rfl
  | b :: bs => by simp [blsOf, blsOf_map bs]
theorem fAny_bls (bs : List Bool) : fAny [.lst (bs.map .bl)] = some (.bl (bs.any id)) := by simp [fAny, blsOf_map]
theorem fAll_bls (bs : List Bool) : fAll [.lst (bs.map .bl)] = some (.bl (bs.all id)) := by simp [fAll, blsOf_map]
end
end Den
namespace Den
open PySem L2
section
variable {c : Cfg} {E : St → XK}
end
end Den
namespace PL
open PySem L2 Den
noncomputable section
end
end PL
namespace PL
open PySem L2 Den
noncomputable section
end
end PL
namespace Den
open PySem L2
section
variable {c : Cfg} {E : St → XK}
end
end Den
namespace Den
open PySem L2
section
variable {c : Cfg} {E : St → XK}
def insM (C : Addr) (m : Str) : D → Option D
  | .ins C' ns ds => if C' = C ∧ ns.contains m = false then some (.ins C' ns ds) else none
  | _ => none
def mmeth (C : Addr) (m : Str) (f : RF) (a : M D) (b : M (List D)) : M D := mbind a fun d => mbind (mlift (insM C m d)) fun x => mbind b fun ys _ p => f (x :: ys) p
end
section
variable {c : Cfg} {E : St → XK}
@[simp] theorem mmeth_ev (C : Addr) (m : Str) (f : RF) (a : M D) (b : M (List D)) (l : Loc) (p : List Int) : mmeth C m f a b l p = (a l p).bind fun d p' => (mlift (insM C m d) l p').bind fun x p'' => (b l p'').bind fun ys q => f (x :: ys) q := rfl
end
end Den
namespace L2
open PySem PySem.Spec PyProof.Rows
end L2
namespace Den
open PySem L2
end Den
namespace FX
open PySem L2 Den
noncomputable section
variable {K : PySem.W.Frag} {P : Program} {w : World} {mg : Str → Option Value} {base : Heap}
theorem pss_any {X : Cx} {st : List Stmt} : PSs X st (fun D σ H => ∃ t, PSs X st t ∧ t D σ H) := ⟨fun pins s σ H D I h => by
  obtain ⟨t, ht, h⟩ := h
  exact ht.run pins s σ H D I h⟩
def spLaw (K : PySem.W.Frag) : Sp := fun vs H Q _ => ∃ (a : Addr) (ns : List Int), vs = [.ref a] ∧ SqL K H a (ns.map V.int) ∧ ns.length ≤ 63 ∧ ∀ H', Q (.bl true) H'
/-- the slots of the law behind its first statement: the pot alone -/
def potLoc (m : Nat) : Den.Loc := none :: some (.dat .pot) :: List.replicate m none
theorem pot_rel {ec : Nat → Addr} {p : Addr} {H' : Hp} {pot : List Int} {m : Nat} {a : Addr} (hp : H' p = some (.lst (pot.map V.int))) : Rel (potCfg K p ec) (fun _ => none) H' (fun _ => none) H' (some (.ref a) :: some (.ref p) :: List.replicate m none) (potLoc m) pot := by
  have key : ∀ (i : Nat) (x : L), (potLoc m)[i]? = some (some x) → i = 1 ∧ x = .dat .pot := fun i x e => by
    match i, e with
    | 0, e => cases e
    | 1, e => cases e; exact ⟨rfl, rfl⟩
    | n + 2, e =>
      have e' : (List.replicate m (none : Option L))[n]? = some (some x) := e
      rw [List.getElem?_replicate] at e'
      split at e' <;> cases e'
  refine ⟨Stp.refl (fun _ _ z => nomatch z), hp, fun _ _ => rfl, fun a b z => (potCfg K p ec).full (p := pot) hp a b z, by simp [potLoc], fun i x e => ?_, fun i j x y e1 e2 o1 => ?_⟩
  · obtain ⟨rfl, rfl⟩ := key i x e
    exact At.pot
  · obtain ⟨rfl, rfl⟩ := key i x e1
    cases o1
theorem kitCls_at {t : Value} {C : Addr} {b : Bool} (i : PySem.W.isClsIn K C = true) (ty : PySem.W.typeIn K (.ref C) = some (.type "type")) (s : PySem.W.subIn K t (.ref C) = some b) : PySem.W.kitCls K t (.ref C) = some b := by
  have e : ((PySem.W.clsIn K C).isSome && PySem.W.typeIn K (.ref C) == some (.type "type")) = true := by
    rw [ty, show (PySem.W.clsIn K C).isSome = true from i]
    rfl
  unfold PySem.W.kitCls
  simp only [e, if_true]
  exact s
theorem exm_at {t : Value} {C : Addr} {b : Bool} (bp : PySem.W.subIn K (.ref C) (.type "BaseException") = some true) (i : PySem.W.isClsIn K C = true) (ty : PySem.W.typeIn K (.ref C) = some (.type "type")) (s : PySem.W.subIn K t (.ref C) = some b) : PySem.W.exmOne K t (.ref C) = some b := by
  unfold PySem.W.exmOne
  rw [if_pos (by rw [bp]; rfl)]
  exact kitCls_at i ty s
theorem sub_no {n : String} {C : Addr} (vs : List Value) (e : fastBuiltinMro n = some vs) (h : ∀ v ∈ vs, ∃ m, v = .type m) : PySem.W.subIn K (.type n) (.ref C) = some false := by
  show (fastBuiltinMro n).map (fun x => x.contains (Value.ref C)) = _
  rw [e]
  show some (vs.contains (Value.ref C)) = _
  congr 1
  cases hc : vs.contains (Value.ref C) with
  | false => rfl
  | true =>
    have := List.contains_iff_mem.mp hc
    obtain ⟨m, z⟩ := h _ this
    cases z
theorem clsF_at {C : Addr} (cl : Cls K C) (ha : PySem.W.findIn K (.ref C) "__class__" = some (some (.builtin "object.__class__"))) (i : PySem.W.isClsIn K C = true) (ty : PySem.W.typeIn K (.ref C) = some (.type "type")) (hm : PySem.W.mroIn K C (.type "object") = some true) : Den.ClsF K C := by
  have et : PySem.W.typeIn K (.builtin "object.__class__") = some (.type "getset_descriptor") := by
    show PySem.W.pureOf (fastBuiltinType "object.__class__") = _
    decide +kernel
  have kit : ∀ {n : String} (vs : List Value), fastBuiltinMro n = some vs → (∀ v ∈ vs, ∃ m, v = .type m) → PySem.W.kitOne K (.type n) (.ref C) = some false := fun vs e h => by
    unfold PySem.W.kitOne
    rw [if_neg (fun z => by cases (beq_iff_eq.mp z))]
    exact kitCls_at i ty (sub_no vs e h)
  refine ⟨cl, ha, ?_, ?_, hm, ?_, kit [.type "list", .type "object"] (by decide +kernel) ?_, kit [.type "tuple", .type "object"] (by decide +kernel) ?_, kit [.type "int", .type "object"] (by decide +kernel) ?_, kit [.type "bool", .type "int", .type "object"] (by decide +kernel) ?_, kit [.type "str", .type "object"] (by decide +kernel) ?_, kit [.type "NoneType", .type "object"] (by decide +kernel) ?_⟩
  · unfold PySem.W.specialIn
    rw [et]
    show PySem.fastLookup "getset_descriptor" "__get__" = _
    decide +kernel
  · unfold PySem.W.takesIn PySem.W.specialIn
    rw [et]
    have : PySem.W.findIn K (.type "getset_descriptor") "__set__" = some (some (.builtin "getset_descriptor.__set__")) := by
      show PySem.fastLookup "getset_descriptor" "__set__" = _
      decide +kernel
    simp only [Option.bind_some, this]
  · unfold PySem.W.kitOne
    rw [if_pos (by simp)]
  all_goals simp
theorem prop_at {C p g : Addr} {f : Str} {d : Option Addr} {vs : Array Value} {sl : Array (Option Value)} {rest : List Value} (at_ : PySem.W.findIn K (.ref C) f = some (some (.ref p))) (l : K.lookup p = some ⟨.type "property", d, .fields vs, sl⟩) (e : vs.toList = .ref g :: rest) : PropOf K C f p g := by
  have et : PySem.W.typeIn K (.ref p) = some (.type "property") := by
    show (K.lookup p).map (fun x => x.cls) = _
    rw [l]
    rfl
  refine ⟨at_, ?_, ?_, rest, ?_⟩
  · unfold PySem.W.specialIn
    rw [et]
    show PySem.fastLookup "property" "__get__" = _
    decide +kernel
  · unfold PySem.W.takesIn PySem.W.specialIn
    rw [et]
    have : PySem.W.findIn K (.type "property") "__set__" = some (some (.builtin "property.__set__")) := by
      show PySem.fastLookup "property" "__set__" = _
      decide +kernel
    simp only [Option.bind_some, this]
  · unfold PySem.W.recIn
    rw [l]
    show (if ("property" == "property") = true then some vs.toList else none) = _
    rw [if_pos (by decide), e]
def FnIn (K : PySem.W.Frag) (x qual : Str) (st : Stmt) (f : Addr) : Prop := ∃ fd, Fun K x qual st f fd
theorem fnIn_mk {x qual : Str} {st : Stmt} {f : Addr} {oc : Value} {od an : Option Addr} {osl : Array (Option Value)} {kV doc pm cdv ct : Value} (l : K.lookup f = some ⟨oc, od, .func (PySem.W.fnOf x qual (defArgs st) (defBody st) (defScope st) .none kV doc pm an cdv ct), osl⟩) (c : PySem.W.codeIn K cdv qual = true) (k : PySem.W.keepIn K (.ref f) = true) : FnIn K x qual st f := ⟨_, fun_mk (st := st) l c k⟩
end
end FX
namespace Den
open PySem L2
section
variable {X : Cx}
/-- an instance of the class that a local name holds -/
def tMakeV (i : Nat) (C : Addr) (sp : Sp) (E : XK) (t : TA) : TE := fun σ H Q => σ[i]? = some (some (.ref C)) ∧ StX.tMakeR C sp E t σ H Q
theorem pe_makeV {CX : CXT} {k i : Nat} {f C : Addr} {sp : Sp} {E : XK} {x : Str} {e : Expr} {es : List Expr} {t : TA} {p pos : Pos} (M : Mk X.K C f) (F : FnR X.prog X.w X.K X.mg X.base CX k f sp) (hr : Room (k + 1) X.A) (hx : Passes CX X E) (hN : X.N[i]? = some x) (hv : Vis X.env.scope x) (ha : PA X (e :: es) t)
    (hd : (x == ("__debug__" : Str)) = false := by decide) (hcd : (x == ("__classdict__" : Str)) = false := by decide)
    (he : starEach (e :: es) X.env = (false, eval e X.env) :: starEach es X.env := by rfl) (hpl : (backTo pos (starEach es X.env)).any (·.1) = false := by rfl) : PE X (.Call (.Name x p) (e :: es) [] pos) (tMakeV i C sp E t) := by
  refine ⟨fun pins s σ H Q I h => ?_⟩
  obtain ⟨hs, h⟩ := h
  refine wpAny_Call_Name_kw (thn ((pe_var (pos := p) (i := i) hN hv hd hcd).run pins s σ H (fun v H1 => v = .ref C ∧ H1 = H) I ⟨.ref C, hs, rfl, rfl⟩) fun u s1 ⟨v, H1, I1, r1, ev, eH⟩ => ?_)
  subst ev
  rw [eH] at I1
  cases r1
  exact PySem.W.callWith_K (h₀ := X.base) I.ok.mod.kin M.kp (thn (ha.run pos pins s1 σ H _ I1 h) fun us s2 ⟨vs, H2, I2, r, q⟩ => ⟨I2.kIn, StX.run_makeR M F hr hx I2 r q⟩) he hpl
end
section
variable {c : Cfg} {E : St → XK}
/-- C.m(..), m a method of the class -/
def mcmeth (C : Addr) (f : RF) (b : M (List D)) : M D := mbind b fun ys _ p => f (.cls C :: ys) p
theorem se_cmeth {C : Addr} {f : RF} {tb : TA} {b : M (List D)} (hb : SA c E tb b) : SE c E (fun σ H Q => ClX.tCMeth C (spD c f) (E σ) (tC (.ref C)) tb σ H Q) (mcmeth C f b) := by
  intro G0 H0 G H σ l pot r Q post
  refine ⟨rfl, ?_⟩
  refine Sn.go hb r post fun ys dys p2 G2 H2 s2 r2 hy post2 => ?_
  exact spD_of r2 (AtL.cons (At.cls C) hy) post2
def mmakeV (i : Nat) (C : Addr) (f : RI) (a : M (List D)) : M D := fun l p => match l[i]? with
  | some (some (.dat (.cls C'))) => if C' = C then mmake C f a l p else .bad
  | _ => .bad
theorem se_makeV {i : Nat} {C : Addr} {f : RI} {E' : XK} {t : TA} {a : M (List D)} (ha : SA c (fun _ => E') t a) : SE c (fun _ => E') (tMakeV i C (spI c C f) E' t) (mmakeV i C f a) := by
  intro G0 H0 G H σ l pot r Q post
  unfold mmakeV at post
  split at post
  · rename_i C' e
    split at post
    · rename_i z
      subst z
      have a1 := r.slot i _ e
      refine ⟨?_, se_make ha G0 H0 G H σ l pot r Q post⟩
      cases e2 : σ[i]? with
      | none => rw [e2] at a1; exact a1.elim
      | some o =>
        cases o with
        | none => rw [e2] at a1; exact a1.elim
        | some v =>
          rw [e2] at a1
          have a2 : At c.P G v (.cls C') := a1
          cases a2
          rfl
    · exact post.elim
  · exact post.elim
/-- a def whose last parameter has a default -/
def denD (n m : Nat) (d : D) (s : MS) : RF := fun ds p => if ds.length + 1 = n then denF n m s (ds ++ [d]) p else denF n m s ds p
variable {P : Program} {w : World} {mg : Str → Option Value} {base : Heap}
theorem fn_ssD {x qual : Str} {st : Stmt} {f : Addr} {fd : FuncData} {N ps : List Str} {k : Nat} {s : MS} {dv : V} {dd : D} (F : FunD c.K x qual (defArgs st) (defBody st) (defScope st) [dv] [] f fd) (S : FnScope N ps (defScope st)) (hd : ∀ P G, At P G dv dd)
    (hb : ∀ (T : Addr) (kV doc pm : Value) (an : Option Addr) (cdv ct : Value) (us its : List Value), us.length = ps.length → its.length = 1 →
      ∃ k, bindArgs (PySem.W.fnOf x qual (defArgs st) (defBody st) (defScope st) (.ref T) kV doc pm an cdv ct) ⟨us, []⟩ = seqItems? (.ref T) >>= k ∧ k (some its.toArray) = pure (ps.zip us))
    (hb1 : ∀ (T : Addr) (kV doc pm : Value) (an : Option Addr) (cdv ct : Value) (us its : List Value), us.length + 1 = ps.length → its.length = 1 →
      ∃ k, bindArgs (PySem.W.fnOf x qual (defArgs st) (defBody st) (defScope st) (.ref T) kV doc pm an cdv ct) ⟨us, []⟩ = seqItems? (.ref T) >>= k ∧ k (some its.toArray) = pure (ps.zip (us ++ its)))
    (hp : 0 < ps.length)
    (hbody : ∀ (cdv : Value) (A : Around) (outer : List Env) (sh : Shared) (H : Hp) (E' : XK), Room k (A.deeper (PyProof.Rows.envOfC qual (defScope st) sh.heap.objs.size f cdv)) →
      ∃ t, PSs (cxOf (L2.CX P w) P w c.K mg base N qual (defScope st) f cdv A outer sh H E') (defBody st) t ∧ SS c (fun _ => E') t s) :
    FnR P w c.K mg base (L2.CX P w) (k + 1) f (spD c (denD ps.length N.length dd s)) := by
  have lenOf : ∀ vs H Q E, spD c (denF ps.length N.length s) vs H Q E → vs.length = ps.length := fun vs H Q E h => by
    obtain ⟨G, ds, pot, a, gh, gP, hp, h⟩ := h
    rw [AtL.length a]
    by_cases z : ds.length = ps.length
    · exact z
    · unfold denF at h
      rw [if_neg z] at h
      exact h.elim
  have ok : FnOk P w c.K mg base (L2.CX P w) (k + 1) f fd ps (spD c (denF ps.length N.length s)) := by
    refine F.ok S lenOf (fun cdv A outer sh H vs Q E hr h => ?_)
    have hl := lenOf vs H Q E h
    obtain ⟨G, ds, pot, a, gh, gP, hp, h⟩ := h
    obtain ⟨t, ht, hs⟩ := hbody cdv A outer sh H E hr
    refine ⟨t, ht, hs G H G H _ _ _ (start_rel a gh gP hp) _ ?_⟩
    exact post_fn (f := fun _ _ => .bad) ((AtL.length a).symm.trans hl) h
  obtain ⟨us1, v1, B1⟩ := FunD.binds1 (ps := ps) F (ps.length - 1) 0 (by simp) (by simp; omega) (fun T kV doc pm an cdv ct us its h1 h2 => by rw [List.drop_zero]; exact hb1 T kV doc pm an cdv ct us its (by omega) h2)
  obtain ⟨us0, v0, B0⟩ := FunD.binds1 (ps := ps) F ps.length 1 (by simp) (by simp) (fun T kV doc pm an cdv ct us its h1 h2 => by
    obtain ⟨k, e1, e2⟩ := hb T kV doc pm an cdv ct us its h1 h2
    have h2' : its.length = 1 := h2
    refine ⟨k, e1, ?_⟩
    rw [e2, List.drop_eq_nil_of_le (by omega), List.append_nil])
  intro A outer sh H us vs Q E hr e0 r hs
  obtain ⟨G, ds, pot, a, gh, gP, hp, h⟩ := hs
  have hlen := AtL.length a
  by_cases z : ds.length + 1 = ps.length
  · have ez : denD ps.length N.length dd s ds pot = denF ps.length N.length s (ds ++ [dd]) pot := if_pos z
    rw [ez] at h
    refine ok.raw B1 v1 A outer sh H us vs Q E hr e0 r ?_
    exact ⟨G, ds ++ [dd], pot, AtL.append a (.cons (hd _ _) .nil), gh, gP, hp, h⟩
  · have ez : denD ps.length N.length dd s ds pot = denF ps.length N.length s ds pot := if_neg z
    rw [ez] at h
    refine ok.raw B0 v0 A outer sh H us vs Q E hr e0 r ?_
    refine ⟨G, ds, pot, ?_, gh, gP, hp, h⟩
    show AtL c.P G (vs ++ []) ds
    rw [List.append_nil]
    exact a
end
section
variable {c : Cfg} {E : St → XK}
@[simp] theorem mcmeth_ev (C : Addr) (f : RF) (b : M (List D)) (l : Loc) (p : List Int) : mcmeth C f b l p = (b l p).bind fun ys q => f (.cls C :: ys) q := rfl
theorem mmakeV_ev {i : Nat} {C : Addr} {f : RI} {a : M (List D)} {l : Loc} {p : List Int} (h : l[i]? = some (some (.dat (.cls C)))) : mmakeV i C f a l p = mmake C f a l p := by
  unfold mmakeV
  rw [h]
  exact if_pos rfl
end
end Den
namespace FX
open PySem L2 Den
variable {K : PySem.W.Frag}
def FnDIn (K : PySem.W.Frag) (x qual : Str) (st : Stmt) (dv : V) (f : Addr) : Prop := ∃ fd, FunD K x qual (defArgs st) (defBody st) (defScope st) [dv] [] f fd
theorem fnDIn_mk {x qual : Str} {st : Stmt} {dv : V} {f T : Addr} {oc : Value} {od an : Option Addr} {osl : Array (Option Value)} {kV doc pm cdv ct u : Value} {oT : Obj} {n : Nat}
    (l : K.lookup f = some ⟨oc, od, .func (PySem.W.fnOf x qual (defArgs st) (defBody st) (defScope st) (.ref T) kV doc pm an cdv ct), osl⟩) (c : PySem.W.codeIn K cdv qual = true) (k : PySem.W.keepIn K (.ref f) = true)
    (lT : K.lookup T = some oT) (dT : oT.data = .seq #[u] n) (hu : RelV dv u) : FnDIn K x qual st dv f :=
  ⟨_, ⟨oc, od, .ref T, kV, doc, pm, an, cdv, ct, osl, rfl, l, c, .inr ⟨by simp, T, oT, [u], n, rfl, lT, dT, .cons hu .nil⟩, .inl rfl⟩, k⟩
theorem cread_at {C : Addr} (h1 : PySem.W.nsIn K cStatics "thirdparty.any" = some none) (h2 : PySem.W.typeIn K (.ref C) = some (.type "type")) : ClX.CRead K C (.type "type") := by
  have f1 : PySem.W.findIn K (.type "type") "__getattribute__" = some (some (.builtin "type.__getattribute__")) := by
    show PySem.fastLookup "type" "__getattribute__" = _
    decide +kernel
  have f2 : PySem.W.subIn K (.type "type") (.type "type") = some true := by
    show (fastBuiltinMro "type").map (fun x => x.contains (Value.type "type")) = _
    decide +kernel
  refine ⟨?_, ?_⟩
  · unfold PySem.W.readsIn
    rw [h1, h2, f1, f2]
    have f3 : (if onTheHeap (Value.type "type") = true then PySem.W.findIn K (Value.type "type") (Str.ofString "__getattr__") else some none).isSome = true := by
      rw [if_neg (by decide +kernel)]
      rfl
    rw [f3]
    decide +kernel
  · unfold PySem.W.specialIn
    rw [h2]
    exact f1
theorem cmet_at {C p g : Addr} {f : Str} {d : Option Addr} {vs : Array Value} {sl : Array (Option Value)} {rest : List Value} (h0 : PySem.W.findIn K (.type "type") f = some none) (at_ : PySem.W.findIn K (.ref C) f = some (some (.ref p))) (l : K.lookup p = some ⟨.type "classmethod", d, .fields vs, sl⟩) (e : vs.toList = .ref g :: rest) (hf : PySem.W.fnIn K g = true) : ClX.CMet K C (.type "type") f p g := by
  have et : PySem.W.typeIn K (.ref p) = some (.type "classmethod") := by
    show (K.lookup p).map (fun x => x.cls) = _
    rw [l]
    rfl
  have eg : PySem.W.specialIn K (.ref p) "__get__" = some (some (.builtin "classmethod.__get__")) := by
    unfold PySem.W.specialIn
    rw [et]
    show PySem.fastLookup "classmethod" "__get__" = _
    decide +kernel
  refine ⟨?_, ⟨rest, ?_⟩, hf⟩
  · unfold PySem.W.findCls
    rw [h0]
    simp only [Option.bind_some, at_, et, eg]
    rfl
  · unfold PySem.W.recIn
    rw [l]
    show (if ("classmethod" == "classmethod") = true then some vs.toList else none) = _
    rw [if_pos (by decide), e]
end FX
namespace DenM
open PySem PySem.Spec PyProof.Rows
section
variable {prog : Program} {w : World} {A : Around} {E : Value → Shared → Prop} {s : Shared} {l : Addr} {xs : Array (Int × Tok)} {d : Value}
end
end DenM
namespace L2
open PySem PySem.Spec PyProof.Rows
section
variable {X : Cx}
end
end L2
namespace Den
open PySem L2
section
variable {c : Cfg} {E : St → XK}
theorem AtL.reverse {P : Addr} {G : Hp} : ∀ {vs : List V} {ds : List D}, AtL P G vs ds → AtL P G vs.reverse ds.reverse
  | _, _, .nil => .nil
  | _, _, .cons h t => by
    rw [List.reverse_cons, List.reverse_cons]
    exact AtL.append (AtL.reverse t) (.cons h .nil)
/-- a built-in with keywords that lays nothing -/
structure SNK (c : Cfg) (r : List V → List V → Hp → VK → Prop) (f : List D → List D → Option D) : Prop where
  run : ∀ (G H : Hp) (xs zs : List V) (ds es : List D) (d : D), Ex G H → AtL c.P G xs ds → AtL c.P G zs es → f ds es = some d → ∃ v, At c.P G v d ∧ ∀ Q : VK, Q v H → r xs zs H Q
def mckw (f : List D → List D → Option D) (a b : M (List D)) : M D := mbind a fun xs => mbind b fun zs => mlift (f xs zs)
def fRev2 : D → Option (List D)
  | .lst ds => some (ds.take (ds.length - 1)).reverse
  | _ => none
def mrev2 (a : M D) : M (List D) := mbind a fun x => mlift (fRev2 x)
/-- a new list by cases -/
def mifN (t : M Bool) (a b : M (List D)) : M (List D) := mbind t fun x => if x = true then a else b
@[simp] theorem mckw_ev (f : List D → List D → Option D) (a b : M (List D)) (l : Loc) (p : List Int) : mckw f a b l p = (a l p).bind fun xs p' => (b l p').bind fun zs p'' => mlift (f xs zs) l p'' := rfl
@[simp] theorem mrev2_ev (a : M D) (l : Loc) (p : List Int) : mrev2 a l p = (a l p).bind fun y p' => mlift (fRev2 y) l p' := rfl
@[simp] theorem mifN_ev (t : M Bool) (a b : M (List D)) (l : Loc) (p : List Int) : mifN t a b l p = (t l p).bind fun x p' => (if x = true then a else b) l p' := rfl
end
end Den
namespace PL
open PySem L2 Den
noncomputable section
def b_check_plain_1 : MS := (sdrop (mcall D_check_whole (acons (mvar 0) (acons (mvar 1) anil))))
def b_check_plain_2 : MS := (sdrop (mcall D_check_least (acons (mvar 0) (acons (mret (D.int 1)) anil))))
def b_check_plain_3 : MS := (sdrop (mcall D_check_one_or_two (acons (mvar 1) anil)))
def b_check_plain_4 : MS := (sdrop (mcall D_check_most (acons (op2 fAdd (mvar 0) (mvar 2)) (acons (mret (D.int 60)) anil))))
def dn_check_plain : MS := (sseq b_check_plain_1
    (sseq b_check_plain_2
    (sseq b_check_plain_3
    b_check_plain_4)))
def D_check_plain : RF := denF 3 3 (dn_check_plain)
def b_Web_line_1 : MS := (sdrop (mcall D_check_plain (acons (mvar 1) (acons (mvar 2) (acons (mret (D.int 1)) anil)))))
def c_Web_line_1 : M (List D) := (mcomp (mbind (acons (mret (D.int 1)) (acons (mvar 1) anil)) fun x => mlift (rng2 x)) 4 mtrue (mfreeze (mshort (acons (op2 fSub (mvar 4) (mret (D.int 1))) (acons (op2 fAdd (mvar 4) (mret (D.int 1))) anil)))))
def b_Web_line_3 : MS := (sasg (mfreeze (mshort (acons (mfreeze (mshort anil)) (astar (mvar 3) (acons (mfreeze (mshort anil)) anil))))) (gset 5))
def b_Web_line_4 (A : CA) : MS := (sret (mmakeV 0 A.Web (D_Web_init_k09 A) (acons (mvar 5) (acons (mvar 5) (acons (op2 fRep (mfreeze (mshort (acons (mvar 2) anil))) (op2 fAdd (mvar 1) (mret (D.int 1)))) (acons (op2 fCat (mfreeze (mshort (acons (mtupd (acons (mret (D.str "chips")) (acons (mret (D.int 0)) anil))) anil))) (op2 fRep (mfreeze (mshort (acons (mret D.non) anil))) (mvar 1))) anil))))))
def dn_Web_line (A : CA) : MS := (sseq b_Web_line_1
    (sseq (sasg (mfreeze c_Web_line_1) (gset 3))
    (sseq b_Web_line_3
    (b_Web_line_4 A))))
def D_Web_line (A : CA) : RF := denD 3 6 (D.int 1) (dn_Web_line A)
end
end PL
namespace PL
open PySem L2 Den
noncomputable section
end
end PL
namespace L2
open PySem PySem.Spec PyProof.Rows
/-- a standing tuple that a main name holds -/
def GTup (K : PySem.W.Frag) (T : Addr) (xs : List V) : Prop := ∃ (o : Obj) (its : Array Value) (n : Nat), K.lookup T = some o ∧ o.cls = .type "tuple" ∧ o.data = .seq its n ∧ its.size ≤ sizeLine ∧ Vals xs its.toList
/-- f(e, .., k = v) where what it may raise is asked at the state -/
def tCallNS (n m : Nat) (sp : Sp) (gV : List V → List V → List V) (E : St → XK) (t tk : TA) : TE := fun σ H Q => t σ H fun vs H1 => tk σ H1 fun zs H2 => vs.length = n ∧ zs.length = m ∧ sp (gV vs zs) H2 Q (E σ)
section
variable {X : Cx} {CX : CXT} {k n : Nat} {f : Addr} {fd : FuncData} {ps ks : List Str} {sp : Sp} {E : St → XK} {x : Str} {p pos : Pos} {e : Expr} {es : List Expr} {kws : List Keyword} {t tk : TA} {gV : List V → List V → List V}
theorem pe_callNS (F : FnOk X.prog X.w X.K X.mg X.base CX k f fd ps sp) (hr : Room k X.A) (hg : Gl X x) (hm : X.mg x = some (.ref f)) (hk : PySem.W.keepIn X.K (.ref f) = true) (hb : ∃ g, KBn X.K fd ps n ks g gV) (hx : ∀ σ, PassesAt CX X σ (E σ))
    (ha : PA X (e :: es) t) (hkw : PK X kws tk) (hall : (backToKw pos (keywordEach kws X.env)).all (·.1.isSome) = true := by rfl) (hks : (backToKw pos (keywordEach kws X.env)).filterMap (·.1) = ks := by rfl)
    (hdb : (x == ("__debug__" : Str)) = false := by decide) (he : starEach (e :: es) X.env = (false, eval e X.env) :: starEach es X.env := by rfl)
    (hpl : ((backTo pos (starEach (e :: es) X.env)).any (·.1) || (backToKw pos (keywordEach kws X.env)).any (·.1.isNone)) = false := by rfl) :
    PE X (.Call (.Name x p) (e :: es) kws pos) (tCallNS n ks.length sp gV E t tk) := by
  obtain ⟨g, hb⟩ := hb
  refine ⟨fun pins s σ H Q I h => ?_⟩
  refine wpAny_Call_Name_kw (ld_glob I hg hm ?_ hdb)
  refine PySem.W.callWith_KW (h₀ := X.base) I.ok.mod.kin hk hall (thn (ha.run pos pins s σ H _ I h) fun us s1 ⟨vs, H1, I1, r, q⟩ => ?_) hpl he
  refine thn (hkw.run pos pins s1 σ H1 _ I1 q) fun ws s2 ⟨zs, H2, I2, rz, l1, l2, q2⟩ => ⟨I2.kIn, ?_⟩
  rw [hks]
  have r2 := hb.rel r rz
  refine wpAny_call (codeAny_mono (F.run X.A X.stack s2 H2 ⟨us, ks.zip ws⟩ (g us ws) (gV vs zs) Q (E σ) hr I2.env0 (hb.to s2 us ws I2.kIn (r.length.symm.trans l1) (rz.length.symm.trans l2)) r2 q2) fun r s' hq => ?_)
  cases r with
  | error e => exact hx σ pins H2 s2 e s' I2 hq
  | ok fl =>
    cases fl with
    | ret u => exact I2.after hq
    | next => exact False.elim hq
    | brk => exact False.elim hq
    | cont => exact False.elim hq
theorem pe_callNS1 {kn : Str} (F : FnOk X.prog X.w X.K X.mg X.base CX k f fd ps sp) (hr : Room k X.A) (hg : Gl X x) (hm : X.mg x = some (.ref f)) (hk : PySem.W.keepIn X.K (.ref f) = true) (hb : ∃ g, KBn X.K fd ps n [kn] g gV) (hx : ∀ σ, PassesAt CX X σ (E σ))
    (ha : PA X (e :: es) t) (hkw : PK X kws tk) (hall : (backToKw pos (keywordEach kws X.env)).all (·.1.isSome) = true := by rfl) (hks : (backToKw pos (keywordEach kws X.env)).filterMap (·.1) = [kn] := by rfl)
    (hdb : (x == ("__debug__" : Str)) = false := by decide) (he : starEach (e :: es) X.env = (false, eval e X.env) :: starEach es X.env := by rfl)
    (hpl : ((backTo pos (starEach (e :: es) X.env)).any (·.1) || (backToKw pos (keywordEach kws X.env)).any (·.1.isNone)) = false := by rfl) :
    PE X (.Call (.Name x p) (e :: es) kws pos) (tCallNS n 1 sp gV E t tk) := pe_callNS F hr hg hm hk hb hx ha hkw hall hks hdb he hpl
end
section
variable {K : PySem.W.Frag} {x qual : Str} {params : Arguments} {body : List Stmt} {scope : Scope} {dv kv : V} {kn : Str} {f : Addr} {fd : FuncData} {ps : List Str}
theorem kbn_all (F : FunD K x qual params body scope [dv] [(kn, kv)] f fd) (n : Nat)
    (h : ∀ (T D : Addr) (doc pm : Value) (an : Option Addr) (cdv ct : Value) (us its ws : List Value), us.length = n → its.length = 1 → ws.length = 1 →
      ∃ k, bindArgs (PySem.W.fnOf x qual params body scope (.ref T) (.ref D) doc pm an cdv ct) ⟨us, [kn].zip ws⟩ = seqItems? (.ref T) >>= k ∧ k (some its.toArray) = pure (ps.zip (us ++ ws))) :
    ∃ g, KBn K fd ps n [kn] g (fun vs zs => vs ++ [] ++ zs) := by
  obtain ⟨its, mv, hb⟩ := F.kbinds n [kn] [] (fun us _ _ ws => us ++ [] ++ ws) (by simp) (by simp) (fun q hq => by cases hq)
    (fun r1 _ _ r2 => (r1.append .nil).append r2) (fun T D doc pm an cdv ct us its mv ws h1 h2 h3 h4 => by
      obtain ⟨k, e1, e2⟩ := h T D doc pm an cdv ct us its ws h1 h2 h4
      refine ⟨k, e1, ?_⟩
      show k (some its.toArray) = pure (ps.zip (us ++ [] ++ ws))
      rw [List.append_nil]
      exact e2)
  exact ⟨_, hb⟩
theorem kbn_dfl (F : FunD K x qual params body scope [dv] [(kn, kv)] f fd) (n : Nat)
    (h : ∀ (T D : Addr) (doc pm : Value) (an : Option Addr) (cdv ct : Value) (us its ws : List Value), us.length = n → its.length = 1 → ws.length = 1 →
      ∃ k, bindArgs (PySem.W.fnOf x qual params body scope (.ref T) (.ref D) doc pm an cdv ct) ⟨us, [kn].zip ws⟩ = seqItems? (.ref T) >>= k ∧ k (some its.toArray) = pure (ps.zip (us ++ its ++ ws))) :
    ∃ g, KBn K fd ps n [kn] g (fun vs zs => vs ++ [dv] ++ zs) := by
  obtain ⟨its, mv, hb⟩ := F.kbinds n [kn] [] (fun us ds _ ws => us ++ ds ++ ws) (by simp) (by simp) (fun q hq => by cases hq)
    (fun r1 r0 _ r2 => (r1.append r0).append r2) (fun T D doc pm an cdv ct us its mv ws h1 h2 h3 h4 => by
      obtain ⟨k, e1, e2⟩ := h T D doc pm an cdv ct us its ws h1 h2 h4
      exact ⟨k, e1, e2⟩)
  exact ⟨_, hb⟩
end
end L2
namespace Den
open PySem L2
section
variable {c : Cfg} {E : St → XK}
/-- f(.., k = v): mid stands for the defaults between them -/
def mcallK (f : RF) (n m : Nat) (mid : List D) (a b : M (List D)) : M D := mbind a fun xs => mbind b fun zs _ p => if xs.length = n ∧ zs.length = m then f (xs ++ mid ++ zs) p else .bad
theorem se_callK {f : RF} {n m : Nat} {mid : List D} {vmid : List V} {ta tb : TA} {a b : M (List D)} (hm : ∀ P G, AtL P G vmid mid) (ha : SA c E ta a) (hb : SA c E tb b) : SE c E (tCallNS n m (spD c f) (fun vs zs => vs ++ vmid ++ zs) E ta tb) (mcallK f n m mid a b) := by
  intro G0 H0 G H σ l pot rl Q post
  refine Sn.go ha rl post fun x dx p G1 H1 s1 r1 hx post1 => ?_
  refine Sn.go hb r1 post1 fun y dy p2 G2 H2 s2 r2 hy post2 => ?_
  have hx2 := AtL.mono s2.gg hx
  by_cases z : dx.length = n ∧ dy.length = m
  · have e : (if dx.length = n ∧ dy.length = m then f (dx ++ mid ++ dy) p2 else R.bad) = f (dx ++ mid ++ dy) p2 := if_pos z
    rw [e] at post2
    exact ⟨(AtL.length hx2).trans z.1, (AtL.length hy).trans z.2, spD_of r2 (AtL.append (AtL.append hx2 (hm _ _)) hy) post2⟩
  · have e : (if dx.length = n ∧ dy.length = m then f (dx ++ mid ++ dy) p2 else R.bad) = .bad := if_neg z
    rw [e] at post2
    exact post2.elim
/-- x in T, T a standing tuple of flat values -/
def fInG (neg : Bool) (ws : List V) (x : D) : Option D := match sc x with
  | some v => some (.bl (if neg then !inV v ws else inV v ws))
  | none => none
theorem se_inG {neg : Bool} {T : Addr} {ws : List V} {ta : TE} {a : M D} (g : GTup c.K T ws) (hf : ws.all flatV = true) (ha : SE c E ta a) : SE c E (tOp (rIn c.K neg) ta (tC (.ref T))) (op1 (fInG neg ws) a) := by
  intro G0 H0 G H σ l pot rl Q post
  refine Sn.go ha rl post fun x dx p G1 H1 s1 r1 hx post1 => ?_
  refine post_op (t := fun H Q => rIn c.K neg x (.ref T) H Q) r1 post1 fun d e => ?_
  unfold fInG at e
  cases e1 : sc dx with
  | none => rw [e1] at e; cases e
  | some v =>
    rw [e1] at e
    cases e
    rw [sc_at hx e1]
    exact ops_pure r1.stp.gh (.bl _) fun Q q => ⟨T, ws, rfl, .inr (.inr g), sc_flat e1, hf, q⟩
/-- a def with one default and one keyword-only parameter, called without keywords -/
def denK (n m : Nat) (d k : D) (s : MS) : RF := fun ds p => if ds.length + 2 = n then denF n m s (ds ++ [d, k]) p else if ds.length + 1 = n then denF n m s (ds ++ [k]) p else .bad
variable {P : Program} {w : World} {mg : Str → Option Value} {base : Heap}
theorem fn_ssK {x qual : Str} {st : Stmt} {f : Addr} {fd : FuncData} {N ps : List Str} {k : Nat} {s : MS} {dv kv : V} {kn : Str} (F : FunD c.K x qual (defArgs st) (defBody st) (defScope st) [dv] [(kn, kv)] f fd) (S : FnScope N ps (defScope st))
    (hbody : ∀ (cdv : Value) (A : Around) (outer : List Env) (sh : Shared) (H : Hp) (E' : XK), Room k (A.deeper (PyProof.Rows.envOfC qual (defScope st) sh.heap.objs.size f cdv)) →
      ∃ t, PSs (cxOf (L2.CX P w) P w c.K mg base N qual (defScope st) f cdv A outer sh H E') (defBody st) t ∧ SS c (fun _ => E') t s) :
    FnOk P w c.K mg base (L2.CX P w) (k + 1) f fd ps (spD c (denF ps.length N.length s)) := by
  have lenOf : ∀ vs H Q E, spD c (denF ps.length N.length s) vs H Q E → vs.length = ps.length := fun vs H Q E h => by
    obtain ⟨G, ds, pot, a, gh, gP, hp, h⟩ := h
    rw [AtL.length a]
    by_cases z : ds.length = ps.length
    · exact z
    · unfold denF at h
      rw [if_neg z] at h
      exact h.elim
  refine F.ok S lenOf (fun cdv A outer sh H vs Q E hr h => ?_)
  have hl := lenOf vs H Q E h
  obtain ⟨G, ds, pot, a, gh, gP, hp, h⟩ := h
  obtain ⟨t, ht, hs⟩ := hbody cdv A outer sh H E hr
  refine ⟨t, ht, hs G H G H _ _ _ (start_rel a gh gP hp) _ ?_⟩
  exact post_fn (f := fun _ _ => .bad) ((AtL.length a).symm.trans hl) h
theorem fn_plainK {x qual : Str} {st : Stmt} {f : Addr} {fd : FuncData} {ps : List Str} {m k : Nat} {s : MS} {dv kv : V} {kn : Str} {dd kk : D} (F : FunD c.K x qual (defArgs st) (defBody st) (defScope st) [dv] [(kn, kv)] f fd) (ok : FnOk P w c.K mg base (L2.CX P w) k f fd ps (spD c (denF ps.length m s)))
    (hd : ∀ P G, At P G dv dd) (hk : ∀ P G, At P G kv kk)
    (h2 : ∀ (T D : Addr) (doc pm : Value) (an : Option Addr) (cdv ct : Value) (us its ks : List Value), us.length + 2 = ps.length → its.length = 1 → ks.length = 1 →
      ∃ k, bindArgs (PySem.W.fnOf x qual (defArgs st) (defBody st) (defScope st) (.ref T) (.ref D) doc pm an cdv ct) ⟨us, []⟩ = seqItems? (.ref T) >>= k ∧ KwChain D ([kn].zip ks) (k (some its.toArray)) (ps.zip (us ++ (its ++ ks))))
    (h1 : ∀ (T D : Addr) (doc pm : Value) (an : Option Addr) (cdv ct : Value) (us its ks : List Value), us.length + 1 = ps.length → its.length = 1 → ks.length = 1 →
      ∃ k, bindArgs (PySem.W.fnOf x qual (defArgs st) (defBody st) (defScope st) (.ref T) (.ref D) doc pm an cdv ct) ⟨us, []⟩ = seqItems? (.ref T) >>= k ∧ KwChain D ([kn].zip ks) (k (some its.toArray)) (ps.zip (us ++ ks)))
    (hp : 2 ≤ ps.length) : FnR P w c.K mg base (L2.CX P w) k f (spD c (denK ps.length m dd kk s)) := by
  obtain ⟨us2, v2, B2⟩ := FunD.binds (ps := ps) F (ps.length - 2) 0 (by simp) (by simp; omega) (fun T D doc pm an cdv ct us its ks e1 e2 e3 => by rw [List.drop_zero]; exact h2 T D doc pm an cdv ct us its ks (by omega) e2 e3) (by simp)
  obtain ⟨us1, v1, B1⟩ := FunD.binds (ps := ps) F (ps.length - 1) 1 (by simp) (by simp; omega) (fun T D doc pm an cdv ct us its ks e1 e2 e3 => by
    have e2' : its.length = 1 := e2
    rw [List.drop_eq_nil_of_le (by omega), List.nil_append]
    exact h1 T D doc pm an cdv ct us its ks (by omega) e2 e3) (by simp)
  intro A outer sh H us vs Q E hr e0 r hs
  obtain ⟨G, ds, pot, a, gh, gP, hp', h⟩ := hs
  have hlen := AtL.length a
  by_cases z : ds.length + 2 = ps.length
  · have ez : denK ps.length m dd kk s ds pot = denF ps.length m s (ds ++ [dd, kk]) pot := if_pos z
    rw [ez] at h
    refine ok.raw B2 v2 A outer sh H us vs Q E hr e0 r ?_
    exact ⟨G, ds ++ [dd, kk], pot, AtL.append a (.cons (hd _ _) (.cons (hk _ _) .nil)), gh, gP, hp', h⟩
  · by_cases z1 : ds.length + 1 = ps.length
    · have ez : denK ps.length m dd kk s ds pot = denF ps.length m s (ds ++ [kk]) pot := (if_neg z).trans (if_pos z1)
      rw [ez] at h
      refine ok.raw B1 v1 A outer sh H us vs Q E hr e0 r ?_
      exact ⟨G, ds ++ [kk], pot, AtL.append a (.cons (hk _ _) .nil), gh, gP, hp', h⟩
    · have ez : denK ps.length m dd kk s ds pot = .bad := (if_neg z).trans (if_neg z1)
      rw [ez] at h
      exact h.elim
@[simp] theorem mcallK_ev (f : RF) (n m : Nat) (mid : List D) (a b : M (List D)) (l : Loc) (p : List Int) : mcallK f n m mid a b l p = (a l p).bind fun xs q => (b l q).bind fun zs q2 => if xs.length = n ∧ zs.length = m then f (xs ++ mid ++ zs) q2 else .bad := rfl
end
end Den
namespace FX
open PySem L2 Den
variable {K : PySem.W.Frag}
def FnKIn (K : PySem.W.Frag) (x qual : Str) (st : Stmt) (dv : V) (kn : Str) (kv : V) (f : Addr) : Prop := ∃ fd, FunD K x qual (defArgs st) (defBody st) (defScope st) [dv] [(kn, kv)] f fd
theorem fnKIn_mk {x qual kn : Str} {st : Stmt} {dv kv : V} {f T D : Addr} {oc : Value} {od an : Option Addr} {osl : Array (Option Value)} {doc pm cdv ct u u2 : Value} {oT : Obj} {n : Nat}
    (l : K.lookup f = some ⟨oc, od, .func (PySem.W.fnOf x qual (defArgs st) (defBody st) (defScope st) (.ref T) (.ref D) doc pm an cdv ct), osl⟩) (c : PySem.W.codeIn K cdv qual = true) (k : PySem.W.keepIn K (.ref f) = true)
    (lT : K.lookup T = some oT) (dT : oT.data = .seq #[u] n) (hu : RelV dv u) (lk : PySem.W.nsIn K D kn = some (some u2)) (hk : RelV kv u2) : FnKIn K x qual st dv kn kv f :=
  ⟨_, ⟨oc, od, .ref T, .ref D, doc, pm, an, cdv, ct, osl, rfl, l, c, .inr ⟨by simp, T, oT, [u], n, rfl, lT, dT, .cons hu .nil⟩, .inr ⟨D, rfl, fun q hq => by
    rcases List.mem_cons.mp hq with e | hq
    · subst e
      exact ⟨u2, lk, hk⟩
    · cases hq⟩⟩, k⟩
theorem gtup_mk {T : Addr} {xs : List V} {o : Obj} {its : Array Value} {n : Nat} (l : K.lookup T = some o) (hc : o.cls = .type "tuple") (hd : o.data = .seq its n) (hs : its.size ≤ sizeLine) (hv : Vals xs its.toList) : GTup K T xs := ⟨o, its, n, l, hc, hd, hs, hv⟩
end FX
namespace PL
open PySem L2 Den
noncomputable section
def b_Web_ring_1 : MS := (sdrop (mcall D_check_plain (acons (mvar 1) (acons (mvar 2) (acons (mret (D.int 0)) anil)))))
def c_Web_ring_1 : M (List D) := (mcomp (mbind (acons (mvar 1) anil) fun x => mlift (rng1 x)) 4 mtrue (mfreeze (mshort (acons (op2 fMod (op2 fAdd (mvar 4) (mret (D.int 1))) (mvar 1)) anil))))
def b_Web_ring_3 (A : CA) : MS := (sret (mmakeV 0 A.Web (D_Web_init_k09 A) (acons (mvar 3) (acons (mvar 3) (acons (op2 fRep (mfreeze (mshort (acons (mvar 2) anil))) (mvar 1)) (acons (op2 fRep (mfreeze (mshort (acons (mret D.non) anil))) (mvar 1)) anil))))))
def dn_Web_ring (A : CA) : MS := (sseq b_Web_ring_1
    (sseq (sasg (mfreeze c_Web_ring_1) (gset 3))
    (b_Web_ring_3 A)))
def D_Web_ring (A : CA) : RF := denD 3 5 (D.int 1) (dn_Web_ring A)
def b_check_state_1 (A : CA) : MS := (sdrop (mcall (D_check_web A) (acons (mvar 0) anil)))
def b_check_state_2 : MS := (sdrop (mcall D_check_whole (acons (mvar 1) (acons (mvar 2) (acons (mvar 3) anil)))))
def b_check_state_3 (A : CA) : MS := (sdrop (mcall (D_check_state_range A) (acons (mvar 0) (acons (mvar 1) (acons (mvar 2) (acons (mvar 3) anil))))))
def dn_check_state (A : CA) : MS := (sseq (b_check_state_1 A)
    (sseq b_check_state_2
    (b_check_state_3 A)))
def D_check_state (A : CA) : RF := denF 4 4 (dn_check_state A)
def b_check_listing_size_1 (A : CA) : MS := (sdrop (mcall D_check_most (acons (mfld A.Web "_size" (mvar 0)) (acons (mret (D.int 8)) anil))))
def b_check_listing_size_2 : MS := (sdrop (mcall D_check_most (acons (mvar 1) (acons (mret (D.int 12)) anil))))
def dn_check_listing_size (A : CA) : MS := (sseq (b_check_listing_size_1 A)
    b_check_listing_size_2)
def D_check_listing_size (A : CA) : RF := denF 2 2 (dn_check_listing_size A)
def c_claimable_1 : M (List D) := (mcomp (mbind (acons (op2 fAdd (mvar 1) (mret (D.int 1))) anil) fun x => mlift (rng1 x)) 2 mtrue (op2 fGe (mvar 2) (mvar 3)))
def c_claimable_2 (A : CA) : M (List D) := (mcomp (mbind (mcall (D_dues_at A) (acons (mvar 0) (acons (mvar 1) anil))) fun x => mlift (tupOf x)) 3 mtrue (opn fTuple (acons (mfreeze c_claimable_1) anil)))
def dn_claimable (A : CA) : MS := (sret (opn fTuple (acons (mfreeze (c_claimable_2 A)) anil)))
def D_claimable (A : CA) : RF := denF 2 4 (dn_claimable A)
def b_is_good_1 : MS := (sasg (mcall D_bought (acons (mvar 0) (acons (mvar 1) (acons (mvar 2) (acons (mvar 3) anil))))) (gset2 5 6))
def b_is_good_2 : MS := (sret (op2 fIx (op2 fIx (mvar 4) (op2 fSub (mvar 5) (mret (D.int 1)))) (mvar 6)))
def dn_is_good : MS := (sseq b_is_good_1
    b_is_good_2)
def D_is_good : RF := denF 5 7 (dn_is_good)
def c_forced_1 : M (List D) := (mcomp (mbind (acons (op2 fAdd (mvar 2) (mret (D.int 1))) anil) fun x => mlift (rng1 x)) 6 mtrue (mcall D_is_good (acons (mvar 0) (acons (mvar 2) (acons (mvar 6) (acons (mvar 5) (acons (mvar 3) anil)))))))
def L_forced_1t1 : MS := (sif (mnot (mtru (opn fAny (acons (mfreeze c_forced_1) anil)))) (sret (mret (D.bl false))) sskip)
def b_forced_1t1 : MS := (sfor (mbind (acons (op2 fAdd (op2 fSub (mvar 1) (mvar 2)) (mret (D.int 1))) anil) fun x => mlift (rng1 x)) (gset 5) L_forced_1t1)
def b_forced_1 : MS := (sif (mtest (op2 fEq (mvar 4) (mret (D.str "second")))) (sseq b_forced_1t1
    (sret (mret (D.bl true)))) sskip)
def c_forced_2 : M (List D) := (mcomp (mbind (acons (op2 fAdd (op2 fSub (mvar 1) (mvar 2)) (mret (D.int 1))) anil) fun x => mlift (rng1 x)) 5 mtrue (mcall D_is_good (acons (mvar 0) (acons (mvar 2) (acons (mvar 6) (acons (mvar 5) (acons (mvar 3) anil)))))))
def L_forced_2 : MS := (sif (mtru (opn fAll (acons (mfreeze c_forced_2) anil))) (sret (mret (D.bl true))) sskip)
def b_forced_2 : MS := (sfor (mbind (acons (op2 fAdd (mvar 2) (mret (D.int 1))) anil) fun x => mlift (rng1 x)) (gset 6) L_forced_2)
def dn_forced : MS := (sseq b_forced_1
    (sseq b_forced_2
    (sret (mret (D.bl false)))))
def D_forced : RF := denF 5 7 (dn_forced)
def b_stand_behind_1 (A : CA) : MS := (sif (mnot (mtru (op2 fIx (mfld A.Web "_first" (mvar 0)) (mvar 4)))) (sret (mvar 5)) sskip)
def c_stand_behind_2 (A : CA) : M (List D) := (mcomp (mbind (op2 fIx (mfld A.Web "_first" (mvar 0)) (mvar 4)) fun x => mlift (tupOf x)) 7 mtrue (op2 fIx (op2 fIx (mvar 2) (mvar 7)) (mvar 8)))
def c_stand_behind_3 (A : CA) : M (List D) := (mcomp (mbind (acons (op2 fAdd (mvar 1) (mret (D.int 1))) anil) fun x => mlift (rng1 x)) 8 mtrue (mfreeze (c_stand_behind_2 A)))
def b_stand_behind_2 (A : CA) : MS := (sasg (mfreeze (c_stand_behind_3 A)) (gset 6))
def c_stand_behind_5 (A : CA) : M (List D) := (mcomp (mbind (op2 fIx (mfld A.Web "_second" (mvar 0)) (mvar 4)) fun x => mlift (tupOf x)) 7 mtrue (op2 fIx (op2 fIx (mvar 2) (mvar 7)) (mvar 8)))
def c_stand_behind_6 (A : CA) : M (List D) := (mcomp (mbind (acons (op2 fAdd (mvar 1) (mret (D.int 1))) anil) fun x => mlift (rng1 x)) 8 mtrue (mfreeze (c_stand_behind_5 A)))
def b_stand_behind_3 (A : CA) : MS := (sasg (mfreeze (c_stand_behind_6 A)) (gset 9))
def c_stand_behind_7 : M (List D) := (mcomp (mbind (mvar 9) fun x => mlift (lstOf x)) 11 mtrue (opn fAll (acons (mvar 11) anil)))
def c_stand_behind_8 : M (List D) := (mcomp (mbind (mvar 6) fun x => mlift (lstOf x)) 11 mtrue (opn fAny (acons (mvar 11) anil)))
def b_stand_behind_4 : MS := (sasg (mtupd (acons (mfreeze c_stand_behind_8) (acons (mfreeze c_stand_behind_7) anil))) (gset 10))
def c_stand_behind_9 (A : CA) : M (List D) := (mcomp2 (mbind (acons (mvar 5) anil) fun x => mlift (enumS x)) 8 12 mtrue (vor (mvar 12) (mcall D_forced (acons (op2 fIx (mfld A.Web "_marks" (mvar 0)) (mvar 4)) (acons (mvar 1) (acons (mvar 8) (acons (mvar 10) (acons (mvar 3) anil))))))))
def b_stand_behind_5 (A : CA) : MS := (sret (opn fTuple (acons (mfreeze (c_stand_behind_9 A)) anil)))
def dn_stand_behind (A : CA) : MS := (sseq (b_stand_behind_1 A)
    (sseq (b_stand_behind_2 A)
    (sseq (b_stand_behind_3 A)
    (sseq b_stand_behind_4
    (b_stand_behind_5 A)))))
def D_stand_behind (A : CA) : RF := denF 6 13 (dn_stand_behind A)
def b_level_behind_1 (A : CA) : MS := (sasg (mcall (D_claimable A) (acons (mvar 0) (acons (mvar 1) anil))) (gset 4))
def c_level_behind_1 (A : CA) : M (List D) := (mcomp (mbind (acons (mfld A.Web "_size" (mvar 0)) anil) fun x => mlift (rng1 x)) 5 mtrue (mcall (D_stand_behind A) (acons (mvar 0) (acons (mvar 1) (acons (mvar 2) (acons (mvar 3) (acons (mvar 5) (acons (op2 fIx (mvar 4) (mvar 5)) anil))))))))
def b_level_behind_2 (A : CA) : MS := (sret (opn fTuple (acons (mfreeze (c_level_behind_1 A)) anil)))
def dn_level_behind (A : CA) : MS := (sseq (b_level_behind_1 A)
    (b_level_behind_2 A))
def D_level_behind (A : CA) : RF := denF 4 6 (dn_level_behind A)
def b_won_states_01 (A : CA) : MS := (sdrop (mcall (D_check_web A) (acons (mvar 0) anil)))
def b_won_states_02 : MS := (sdrop (mcall D_check_whole (acons (mvar 1) anil)))
def b_won_states_03 : MS := (sif (mtest (op2 fNotN (mvar 2) (mret D.non))) (sdrop (mcall D_check_whole (acons (mvar 2) anil))) sskip)
def b_won_states_04 : MS := (sif (mnot (mtru (opn fIs1 (acons (mvar 3) (acons (mret (D.ty Ty.str)) anil))))) (sraise 0) sskip)
def b_won_states_05 : MS := (sdrop (mcall D_check_least (acons (mvar 1) (acons (mret (D.int 0)) anil))))
def b_won_states_06 : MS := (sif (mtest (op2 fNotN (mvar 2) (mret D.non))) (sdrop (mcall D_check_least (acons (mvar 2) (acons (mret (D.int 0)) anil)))) sskip)
def b_won_states_07 : MS := (sif (mtest (op1 (fInG true [(V.str "sealed"), (V.str "first"), (V.str "second")]) (mvar 3))) (sraise 1) sskip)
def b_won_states_08 (A : CA) : MS := (sdrop (mcall (D_check_listing_size A) (acons (mvar 0) (acons (mvar 1) anil))))
def b_won_states_09 (A : CA) : MS := (sasg (mcall (D_claimable A) (acons (mvar 0) (acons (mvar 1) anil))) (gset 4))
def b_won_states_10 (A : CA) : MS := (sasg (mcall (D_level_behind A) (acons (mvar 0) (acons (mvar 1) (acons (mvar 4) (acons (mvar 3) anil))))) (gset 5))
def b_won_states_12w2 (A : CA) : MS := (sasg (mcall (D_level_behind A) (acons (mvar 0) (acons (mvar 1) (acons (mvar 4) (acons (mvar 3) anil))))) (gset 5))
def W_won_states_12 (A : CA) : MS := (sseq (sasg (mvar 5) (gset 4))
    (sseq (b_won_states_12w2 A)
    (saug 6 (fun i j => i + j) (mret (D.int 1)))))
def b_won_states_12 (A : CA) : MS := (swhile (mand (mtest (op2 (fEqD true) (mvar 5) (mvar 4))) (mor (mtest (op2 fIsN (mvar 2) (mret D.non))) (mtest (op2 fLt (mvar 6) (mvar 2))))) (W_won_states_12 A))
def dn_won_states (A : CA) : MS := (sseq (b_won_states_01 A)
    (sseq b_won_states_02
    (sseq b_won_states_03
    (sseq b_won_states_04
    (sseq b_won_states_05
    (sseq b_won_states_06
    (sseq b_won_states_07
    (sseq (b_won_states_08 A)
    (sseq (b_won_states_09 A)
    (sseq (b_won_states_10 A)
    (sseq (sasg (mret (D.int 0)) (gset 6))
    (sseq (b_won_states_12 A)
    (sret (mvar 4))))))))))))))
def D4_won_states (A : CA) : RF := denF 4 7 (dn_won_states A)
def D_won_states (A : CA) : RF := denK 4 7 D.non (D.str "sealed") (dn_won_states A)
def b_level_of_1 (A : CA) : MS := (sdrop (mcall (D_check_state A) (acons (mvar 0) (acons (mvar 1) (acons (mvar 2) (acons (mvar 3) anil))))))
def b_level_of_2 (A : CA) : MS := (sdrop (mcall (D_check_listing_size A) (acons (mvar 0) (acons (mvar 1) anil))))
def b_level_of_3 (A : CA) : MS := (sasg (mcall (D_claimable A) (acons (mvar 0) (acons (mvar 1) anil))) (gset 4))
def b_level_of_4 (A : CA) : MS := (sasg (mcall (D_level_behind A) (acons (mvar 0) (acons (mvar 1) (acons (mvar 4) (acons (mret (D.str "sealed")) anil))))) (gset 5))
def b_level_of_6w2 (A : CA) : MS := (sasg (mcall (D_level_behind A) (acons (mvar 0) (acons (mvar 1) (acons (mvar 4) (acons (mret (D.str "sealed")) anil))))) (gset 5))
def W_level_of_6 (A : CA) : MS := (sseq (sasg (mvar 5) (gset 4))
    (sseq (b_level_of_6w2 A)
    (saug 6 (fun i j => i + j) (mret (D.int 1)))))
def b_level_of_6 (A : CA) : MS := (swhile (mand (mtest (op2 (fEqD true) (mvar 5) (mvar 4))) (mnot (mtru (op2 fIx (op2 fIx (mvar 4) (mvar 2)) (mvar 3))))) (W_level_of_6 A))
def b_level_of_7 : MS := (sret (mif (mtru (op2 fIx (op2 fIx (mvar 4) (mvar 2)) (mvar 3))) (mvar 6) (mret D.non)))
def dn_level_of (A : CA) : MS := (sseq (b_level_of_1 A)
    (sseq (b_level_of_2 A)
    (sseq (b_level_of_3 A)
    (sseq (b_level_of_4 A)
    (sseq (sasg (mret (D.int 0)) (gset 6))
    (sseq (b_level_of_6 A)
    b_level_of_7))))))
def D_level_of (A : CA) : RF := denF 4 7 (dn_level_of A)
def c_law_rounds_1 : M (List D) := (mcomp (mbind (op2 fIx (mvar 0) (mret (D.int 3))) fun x => mlift (lstOf x)) 3 mtrue (mcall D_due_at (acons (mvar 3) (acons (mvar 1) anil))))
def b_law_rounds_1 : MS := (sown (mshort (acons (mfreeze c_law_rounds_1) anil)) 2)
def b_law_rounds_2l1 : MS := (sasg (mcall D_law_next (acons (mvar 0) (acons (mvar 1) (acons (mixc 2 (op2 fSub (mlenc 2) (mret (D.int 1)))) anil)))) (gset 5))
def b_law_rounds_2l2 : MS := (sif (mtest (op2 (fEqD false) (mvar 5) (mixc 2 (op2 fSub (mlenc 2) (mret (D.int 1)))))) (sgive 2 (sret (mvar 2))) sskip)
def L_law_rounds_2 : MS := (sseq b_law_rounds_2l1
    (sseq b_law_rounds_2l2
    (sappend 2 (mvar 5))))
def b_law_rounds_2 : MS := (sfor (mbind (acons (op2 fAdd (op2 fMul (opn fLen (acons (op2 fIx (mvar 0) (mret (D.int 3))) anil)) (op2 fAdd (mvar 1) (mret (D.int 2)))) (mret (D.int 2))) anil) fun x => mlift (rng1 x)) (gset 4) L_law_rounds_2)
def dn_law_rounds : MS := (sseq b_law_rounds_1
    (sseq b_law_rounds_2
    (sgive 2 (sret (mvar 2)))))
def D_law_rounds : RF := denF 2 6 (dn_law_rounds)
def b_law_states_1 : MS := (sif (mor (mnot (mtru (opn fIs1 (acons (mvar 0) (acons (mret (D.ty Ty.tup)) anil))))) (mtest (op2 fNe (opn fLen (acons (mvar 0) anil)) (opn fLen (acons (mvar 2) anil))))) (sret (mret (D.bl false))) sskip)
def b_law_states_2l1 : MS := (sif (mor (mnot (mtru (opn fIs1 (acons (op2 fIx (mvar 0) (mvar 3)) (acons (mret (D.ty Ty.tup)) anil))))) (mtest (op2 fNe (opn fLen (acons (op2 fIx (mvar 0) (mvar 3)) anil)) (op2 fAdd (mvar 1) (mret (D.int 1)))))) (sret (mret (D.bl false))) sskip)
def L_law_states_2l2 : MS := (sif (mor (mnot (mtru (opn fIs1 (acons (op2 fIx (op2 fIx (mvar 0) (mvar 3)) (mvar 4)) (acons (mret (D.ty Ty.bl)) anil))))) (mtest (op2 fNe (op2 fIx (op2 fIx (mvar 0) (mvar 3)) (mvar 4)) (op2 fGe (mvar 4) (op2 fIx (mvar 2) (mvar 3)))))) (sret (mret (D.bl false))) sskip)
def b_law_states_2l2 : MS := (sfor (mbind (acons (op2 fAdd (mvar 1) (mret (D.int 1))) anil) fun x => mlift (rng1 x)) (gset 4) L_law_states_2l2)
def b_law_states_2 : MS := (sfor (mbind (acons (opn fLen (acons (mvar 2) anil)) anil) fun x => mlift (rng1 x)) (gset 3) (sseq b_law_states_2l1
    b_law_states_2l2))
def dn_law_states : MS := (sseq b_law_states_1
    (sseq b_law_states_2
    (sret (mret (D.bl true)))))
def D_law_states : RF := denF 3 5 (dn_law_states)
def L_law_level_1 : MS := (sif (mtest (op2 fGe (mvar 2) (op2 fIx (op2 fIx (mvar 0) (mvar 3)) (mvar 1)))) (sret (mvar 3)) sskip)
def b_law_level_1 : MS := (sfor (mbind (acons (opn fLen (acons (mvar 0) anil)) anil) fun x => mlift (rng1 x)) (gset 3) L_law_level_1)
def dn_law_level : MS := (sseq b_law_level_1
    (sret (mret D.non)))
def D_law_level : RF := denF 3 4 (dn_law_level)
def b_law_code_k10_2 (A : CA) : MS := (stry (sdrop (mcallK (D4_won_states A) 3 1 [] (acons (mvar 0) (acons (mvar 1) (acons (mvar 2) anil))) (acons (mvar 3) anil))) [(0, (sasg (mret (D.int 1)) (gset 4))), (1, (sasg (mret (D.int 2)) (gset 4))), (3, (sasg (mret (D.int 3)) (gset 4)))])
def dn_law_code_k10 (A : CA) : MS := (sseq (sasg (mret (D.int 0)) (gset 4))
    (sseq (b_law_code_k10_2 A)
    (sret (mvar 4))))
def D_law_code_k10 (A : CA) : RF := denF 4 5 (dn_law_code_k10 A)
def b_law_level_code_2 (A : CA) : MS := (stry (sdrop (mcall (D_level_of A) (acons (mvar 0) (acons (mvar 1) (acons (mvar 2) (acons (mvar 3) anil)))))) [(0, (sasg (mret (D.int 1)) (gset 4))), (1, (sasg (mret (D.int 2)) (gset 4))), (3, (sasg (mret (D.int 3)) (gset 4)))])
def dn_law_level_code (A : CA) : MS := (sseq (sasg (mret (D.int 0)) (gset 4))
    (sseq (b_law_level_code_2 A)
    (sret (mvar 4))))
def D_law_level_code (A : CA) : RF := denF 4 5 (dn_law_level_code A)
def b_law_refusals_k10_01 (A : CA) : MS := (sif (mor (mtest (op2 fNe (mcall (D_law_code_k10 A) (acons (mvar 0) (acons (mvar 1) (acons (mret D.non) (acons (mret (D.str "third")) anil))))) (mret (D.int 2)))) (mtest (op2 fNe (mcall (D_law_code_k10 A) (acons (mvar 0) (acons (mvar 1) (acons (op2 fSub (mret (D.int 0)) (mret (D.int 1))) (acons (mvar 3) anil))))) (mret (D.int 2))))) (sret (mret (D.bl false))) sskip)
def b_law_refusals_k10_02 (A : CA) : MS := (sif (mor (mtest (op2 fNe (mcall (D_law_code_k10 A) (acons (mvar 0) (acons (op2 fSub (mret (D.int 0)) (mret (D.int 1))) (acons (mret D.non) (acons (mret (D.str "third")) anil))))) (mret (D.int 2)))) (mtest (op2 fNe (mcall (D_law_code_k10 A) (acons (mvar 0) (acons (mret (D.int 13)) (acons (op2 fSub (mret (D.int 0)) (mret (D.int 1))) (acons (mvar 3) anil))))) (mret (D.int 2))))) (sret (mret (D.bl false))) sskip)
def b_law_refusals_k10_03 (A : CA) : MS := (sif (mor (mtest (op2 fNe (mcall (D_law_code_k10 A) (acons (mvar 0) (acons (mret (D.int 13)) (acons (mret D.non) (acons (mvar 3) anil))))) (mret (D.int 3)))) (mtest (op2 fNe (mcall (D_law_code_k10 A) (acons (mvar 0) (acons (op2 fSub (mret (D.int 0)) (mret (D.int 1))) (acons (mret (D.bl true)) (acons (mvar 3) anil))))) (mret (D.int 1))))) (sret (mret (D.bl false))) sskip)
def b_law_refusals_k10_04 (A : CA) : MS := (sif (mor (mtest (op2 fNe (mcall (D_law_code_k10 A) (acons (mvar 0) (acons (mret (D.int 13)) (acons (mret D.non) (acons (mret D.non) anil))))) (mret (D.int 1)))) (mtest (op2 fNe (mcall (D_law_code_k10 A) (acons (mret D.non) (acons (mvar 1) (acons (mret D.non) (acons (mret (D.str "third")) anil))))) (mret (D.int 1))))) (sret (mret (D.bl false))) sskip)
def b_law_refusals_k10_05 (A : CA) : MS := (sif (mor (mtest (op2 fNe (mcall (D_law_code_k10 A) (acons (mcmeth A.Web (D_Web_line A) (acons (mret (D.int 8)) anil)) (acons (mret (D.int 0)) (acons (mret (D.int 0)) (acons (mvar 3) anil))))) (mret (D.int 3)))) (mtest (op2 fNe (mcall (D_law_code_k10 A) (acons (mcmeth A.Web (D_Web_line A) (acons (mret (D.int 7)) anil)) (acons (mret (D.int 0)) (acons (mret (D.int 0)) (acons (mvar 3) anil))))) (mret (D.int 0))))) (sret (mret (D.bl false))) sskip)
def b_law_refusals_k10_06 (A : CA) : MS := (sif (mor (mtest (op2 fNe (mcall (D_law_level_code A) (acons (mcmeth A.Web (D_Web_line A) (acons (mret (D.int 8)) anil)) (acons (mret (D.int 0)) (acons (mret (D.int 8)) (acons (mret (D.int 0)) anil))))) (mret (D.int 3)))) (mtest (op2 fNe (mcall (D_law_level_code A) (acons (mvar 0) (acons (mret (D.int 13)) (acons (mret (D.int 0)) (acons (mret (D.int 13)) anil))))) (mret (D.int 3))))) (sret (mret (D.bl false))) sskip)
def b_law_refusals_k10_07 (A : CA) : MS := (sif (mor (mtest (op2 fNe (mcall (D_law_level_code A) (acons (mvar 0) (acons (mvar 1) (acons (op2 fSub (mret (D.int 0)) (mret (D.int 1))) (acons (mret (D.int 0)) anil))))) (mret (D.int 2)))) (mtest (op2 fNe (mcall (D_law_level_code A) (acons (mvar 0) (acons (mvar 1) (acons (mret (D.int 0)) (acons (op2 fSub (mret (D.int 0)) (mret (D.int 1))) anil))))) (mret (D.int 2))))) (sret (mret (D.bl false))) sskip)
def b_law_refusals_k10_08 (A : CA) : MS := (sif (mtest (op2 fNe (mcall (D_law_level_code A) (acons (mvar 0) (acons (op2 fSub (mret (D.int 0)) (mret (D.int 1))) (acons (mret (D.int 0)) (acons (mret (D.int 0)) anil))))) (mret (D.int 2)))) (sret (mret (D.bl false))) sskip)
def b_law_refusals_k10_09 (A : CA) : MS := (sif (mor (mtest (op2 fNe (mcall (D_law_level_code A) (acons (mvar 0) (acons (mvar 1) (acons (mvar 2) (acons (mret (D.int 0)) anil))))) (mret (D.int 2)))) (mtest (op2 fNe (mcall (D_law_level_code A) (acons (mvar 0) (acons (mvar 1) (acons (mret (D.int 0)) (acons (op2 fAdd (mvar 1) (mret (D.int 1))) anil))))) (mret (D.int 2))))) (sret (mret (D.bl false))) sskip)
def b_law_refusals_k10_10 (A : CA) : MS := (sret (vand (op2 fEq (mcall (D_law_level_code A) (acons (mvar 0) (acons (mret (D.int 13)) (acons (mvar 2) (acons (mret (D.str "0")) anil))))) (mret (D.int 1))) (op2 fEq (mcall (D_law_level_code A) (acons (mvar 0) (acons (mret (D.int 13)) (acons (mret (D.int 0)) (acons (mret (D.int 14)) anil))))) (mret (D.int 2)))))
def dn_law_refusals_k10 (A : CA) : MS := (sseq (b_law_refusals_k10_01 A)
    (sseq (b_law_refusals_k10_02 A)
    (sseq (b_law_refusals_k10_03 A)
    (sseq (b_law_refusals_k10_04 A)
    (sseq (b_law_refusals_k10_05 A)
    (sseq (b_law_refusals_k10_06 A)
    (sseq (b_law_refusals_k10_07 A)
    (sseq (b_law_refusals_k10_08 A)
    (sseq (b_law_refusals_k10_09 A)
    (b_law_refusals_k10_10 A))))))))))
def D_law_refusals_k10 (A : CA) : RF := denF 4 4 (dn_law_refusals_k10 A)
def b_law_k10_01 : MS := (sasg (mcall D_law_web (acons (mvar 1) (acons (mret (D.int 5)) (acons (mret (D.bl false)) anil)))) (gset 2))
def b_law_k10_02 : MS := (sasg (opn fLen (acons (op2 fIx (mvar 2) (mret (D.int 0))) anil)) (gset 3))
def b_law_k10_03 : MS := (sasg (mcall D_law_draw (acons (mvar 1) (acons (mret (D.int 5)) anil))) (gset 4))
def b_law_k10_04 : MS := (sasg (mcall D_law_rounds (acons (mvar 2) (acons (mvar 4) anil))) (gset 5))
def b_law_k10_05 : MS := (sasg (op2 fIx (mvar 5) (op2 fSub (opn fLen (acons (mvar 5) anil)) (mret (D.int 1)))) (gset 6))
def b_law_k10_06 (A : CA) : MS := (sasg (mcall (D_law_built_k09 A) (acons (mvar 2) anil)) (gset 7))
def b_law_k10_07 : MS := (sasg (mfreeze (mshort (acons (mret (D.str "sealed")) (acons (mret (D.str "first")) (acons (mret (D.str "second")) anil))))) (gset 8))
def b_law_k10_08 : MS := (sasg (op2 fIx (mvar 8) (mcall D_law_draw (acons (mvar 1) (acons (mret (D.int 3)) anil)))) (gset 9))
def b_law_k10_09 : MS := (sasg (mcall D_law_draw (acons (mvar 1) (acons (op2 fAdd (opn fLen (acons (mvar 5) anil)) (mret (D.int 2))) anil))) (gset 10))
def b_law_k10_10 : MS := (sasg (op2 fIx (mvar 5) (opn fMin2 (acons (mvar 10) (acons (op2 fSub (opn fLen (acons (mvar 5) anil)) (mret (D.int 1))) anil)))) (gset 11))
def b_law_k10_11 (A : CA) : MS := (sif (mnot (mtru (mcall D_law_states (acons (mcallK (D4_won_states A) 3 1 [] (acons (mvar 7) (acons (mvar 4) (acons (mvar 10) anil))) (acons (mvar 9) anil)) (acons (mvar 4) (acons (mvar 11) anil)))))) (sret (mret (D.bl false))) sskip)
def b_law_k10_12 (A : CA) : MS := (sif (mnot (mtru (mcall D_law_states (acons (mcall (D_won_states A) (acons (mvar 7) (acons (mvar 4) anil))) (acons (mvar 4) (acons (mvar 6) anil)))))) (sret (mret (D.bl false))) sskip)
def b_law_k10_13 (A : CA) : MS := (sif (mnot (mtru (mcall D_law_states (acons (mcallK (D4_won_states A) 2 1 [D.non] (acons (mvar 7) (acons (mvar 4) anil)) (acons (op2 fIx (mvar 8) (mcall D_law_draw (acons (mvar 1) (acons (mret (D.int 3)) anil)))) anil)) (acons (mvar 4) (acons (mvar 6) anil)))))) (sret (mret (D.bl false))) sskip)
def b_law_k10_14l1 : MS := (sasg (mcall D_law_draw (acons (mvar 1) (acons (mvar 3) anil))) (gset 13))
def b_law_k10_14l2 : MS := (sasg (mcall D_law_draw (acons (mvar 1) (acons (op2 fAdd (mvar 4) (mret (D.int 1))) anil))) (gset 14))
def b_law_k10_14l3 (A : CA) : MS := (sasg (mcall (D_level_of A) (acons (mvar 7) (acons (mvar 4) (acons (mvar 13) (acons (mvar 14) anil))))) (gset 15))
def b_law_k10_14l4 : MS := (sasg (mcall D_law_level (acons (mvar 5) (acons (mvar 13) (acons (mvar 14) anil)))) (gset 16))
def b_law_k10_14l5 : MS := (sif (mtest (op2 fIsN (mvar 16) (mret D.non))) (sif (mtest (op2 fNotN (mvar 15) (mret D.non))) (sret (mret (D.bl false))) sskip) (sif (mor (mnot (mtru (mcall D_is_integer (acons (mvar 15) anil)))) (mtest (op2 fNe (mvar 15) (mvar 16)))) (sret (mret (D.bl false))) sskip))
def L_law_k10_14 (A : CA) : MS := (sseq b_law_k10_14l1
    (sseq b_law_k10_14l2
    (sseq (b_law_k10_14l3 A)
    (sseq b_law_k10_14l4
    b_law_k10_14l5))))
def b_law_k10_14 (A : CA) : MS := (sfor (mbind (acons (mret (D.int 2)) anil) fun x => mlift (rng1 x)) (gset 12) (L_law_k10_14 A))
def b_law_k10_15 (A : CA) : MS := (sasg (mcall (D_won_states A) (acons (mcmeth A.Web (D_Web_ring A) (acons (mret (D.int 1)) (acons (op2 fAdd (mret (D.int 1)) (mcall D_law_draw (acons (mvar 1) (acons (mret (D.int 2)) anil)))) anil))) (acons (mret (D.int 12)) (acons (op2 fPow (mret (D.int 10)) (mret (D.int 30))) anil)))) (gset 17))
def b_law_k10_16 (A : CA) : MS := (sif (mor (mnot (mtru (mcall D_law_states (acons (mvar 17) (acons (mret (D.int 12)) (acons (mfreeze (mshort (acons (mret (D.int 13)) anil))) anil)))))) (mnot (mtru (mcall D_law_states (acons (mcall (D_won_states A) (acons (mvar 7) (acons (mvar 4) (acons (mret (D.int 0)) anil)))) (acons (mvar 4) (acons (op2 fIx (mvar 5) (mret (D.int 0))) anil))))))) (sret (mret (D.bl false))) sskip)
def b_law_k10_17 (A : CA) : MS := (sret (mcall (D_law_refusals_k10 A) (acons (mvar 7) (acons (mvar 4) (acons (mvar 3) (acons (mvar 9) anil))))))
def dn_law_k10 (A : CA) : MS := (sseq b_law_k10_01
    (sseq b_law_k10_02
    (sseq b_law_k10_03
    (sseq b_law_k10_04
    (sseq b_law_k10_05
    (sseq (b_law_k10_06 A)
    (sseq b_law_k10_07
    (sseq b_law_k10_08
    (sseq b_law_k10_09
    (sseq b_law_k10_10
    (sseq (b_law_k10_11 A)
    (sseq (b_law_k10_12 A)
    (sseq (b_law_k10_13 A)
    (sseq (b_law_k10_14 A)
    (sseq (b_law_k10_15 A)
    (sseq (b_law_k10_16 A)
    (b_law_k10_17 A)))))))))))))))))
end
end PL
namespace K10
open PySem L2 Den PL
def top (i : Nat) : Stmt := PySem.Challenge.pw_pursewebs_k10_levels_listed_and_by_round.main.body.getD i (.Pass ⟨0, 0, 0, 0⟩)
abbrev s_is_integer : Stmt := top 9
abbrev s_check_whole : Stmt := top 10
abbrev s_whole_list : Stmt := top 11
abbrev s_check_range : Stmt := top 12
abbrev s_check_least : Stmt := top 13
abbrev s_check_one_or_two : Stmt := top 14
abbrev s_check_most : Stmt := top 15
abbrev s_as_stands : Stmt := top 16
abbrev s_is_due : Stmt := top 18
abbrev s_due_in_range : Stmt := top 19
abbrev s_due_too_great : Stmt := top 20
abbrev s_check_due : Stmt := top 21
abbrev s_due_at : Stmt := top 22
abbrev s_check_kinds : Stmt := top 26
abbrev s_check_steps : Stmt := top 27
abbrev s_check_parts : Stmt := top 25
abbrev s_check_plain : Stmt := top 28
abbrev s_Web_init : Stmt := inClass (top 30) 0
abbrev s_Web_line : Stmt := inClass (top 30) 13
abbrev s_Web_ring : Stmt := inClass (top 30) 14
abbrev s_check_web : Stmt := top 31
abbrev s_check_stand : Stmt := top 33
abbrev s_check_state_range : Stmt := top 35
abbrev s_check_state : Stmt := top 34
abbrev s_dues_at : Stmt := top 37
abbrev s_bought : Stmt := top 39
abbrev s_check_listing_size : Stmt := top 44
abbrev s_claimable : Stmt := top 45
abbrev s_is_good : Stmt := top 49
abbrev s_forced : Stmt := top 48
abbrev s_stand_behind : Stmt := top 47
abbrev s_level_behind : Stmt := top 46
abbrev s_won_states : Stmt := top 50
abbrev s_level_of : Stmt := top 51
abbrev s_law_draw : Stmt := top 54
abbrev s_law_whole : Stmt := top 55
abbrev s_law_lot : Stmt := top 56
abbrev s_law_due : Stmt := top 57
abbrev s_law_marks : Stmt := top 58
abbrev s_law_path : Stmt := top 59
abbrev s_law_web : Stmt := top 60
abbrev s_law_due_at : Stmt := top 61
abbrev s_law_half : Stmt := top 62
abbrev s_law_low : Stmt := top 63
abbrev s_law_high : Stmt := top 64
abbrev s_law_price : Stmt := top 65
abbrev s_law_next : Stmt := top 66
abbrev s_law_built : Stmt := top 67
abbrev s_law_rounds : Stmt := top 68
abbrev s_law_states : Stmt := top 69
abbrev s_law_level : Stmt := top 70
abbrev s_law_code : Stmt := top 71
abbrev s_law_level_code : Stmt := top 72
abbrev s_law_refusals : Stmt := top 73
abbrev s_law : Stmt := top 74
abbrev s_law_pot : Stmt := top 53
abbrev s_Web_dues : Stmt := inClass (top 30) 5
abbrev s_Web_first : Stmt := inClass (top 30) 2
abbrev s_Web_marks : Stmt := inClass (top 30) 4
abbrev s_Web_second : Stmt := inClass (top 30) 3
abbrev s_Web_size : Stmt := inClass (top 30) 1
structure Adr where
  ca : CA
  is_integer : Addr
  fd_is_integer : FuncData
  check_whole : Addr
  fd_check_whole : FuncData
  whole_list : Addr
  fd_whole_list : FuncData
  check_range : Addr
  fd_check_range : FuncData
  check_least : Addr
  fd_check_least : FuncData
  check_one_or_two : Addr
  fd_check_one_or_two : FuncData
  check_most : Addr
  fd_check_most : FuncData
  as_stands : Addr
  fd_as_stands : FuncData
  is_due : Addr
  fd_is_due : FuncData
  due_in_range : Addr
  fd_due_in_range : FuncData
  due_too_great : Addr
  fd_due_too_great : FuncData
  check_due : Addr
  fd_check_due : FuncData
  due_at : Addr
  fd_due_at : FuncData
  check_kinds : Addr
  fd_check_kinds : FuncData
  check_steps : Addr
  fd_check_steps : FuncData
  check_parts : Addr
  fd_check_parts : FuncData
  check_plain : Addr
  fd_check_plain : FuncData
  Web_init : Addr
  fd_Web_init : FuncData
  Web_line : Addr
  fd_Web_line : FuncData
  Web_ring : Addr
  fd_Web_ring : FuncData
  check_web : Addr
  fd_check_web : FuncData
  check_stand : Addr
  fd_check_stand : FuncData
  check_state_range : Addr
  fd_check_state_range : FuncData
  check_state : Addr
  fd_check_state : FuncData
  dues_at : Addr
  fd_dues_at : FuncData
  bought : Addr
  fd_bought : FuncData
  check_listing_size : Addr
  fd_check_listing_size : FuncData
  claimable : Addr
  fd_claimable : FuncData
  is_good : Addr
  fd_is_good : FuncData
  forced : Addr
  fd_forced : FuncData
  stand_behind : Addr
  fd_stand_behind : FuncData
  level_behind : Addr
  fd_level_behind : FuncData
  won_states : Addr
  fd_won_states : FuncData
  level_of : Addr
  fd_level_of : FuncData
  law_draw : Addr
  fd_law_draw : FuncData
  law_whole : Addr
  fd_law_whole : FuncData
  law_lot : Addr
  fd_law_lot : FuncData
  law_due : Addr
  fd_law_due : FuncData
  law_marks : Addr
  fd_law_marks : FuncData
  law_path : Addr
  fd_law_path : FuncData
  law_web : Addr
  fd_law_web : FuncData
  law_due_at : Addr
  fd_law_due_at : FuncData
  law_half : Addr
  fd_law_half : FuncData
  law_low : Addr
  fd_law_low : FuncData
  law_high : Addr
  fd_law_high : FuncData
  law_price : Addr
  fd_law_price : FuncData
  law_next : Addr
  fd_law_next : FuncData
  law_built : Addr
  fd_law_built : FuncData
  law_rounds : Addr
  fd_law_rounds : FuncData
  law_states : Addr
  fd_law_states : FuncData
  law_level : Addr
  fd_law_level : FuncData
  law_code : Addr
  fd_law_code : FuncData
  law_level_code : Addr
  fd_law_level_code : FuncData
  law_refusals : Addr
  fd_law_refusals : FuncData
  Web_dues : Addr
  fd_Web_dues : FuncData
  Web_first : Addr
  fd_Web_first : FuncData
  Web_marks : Addr
  fd_Web_marks : FuncData
  Web_second : Addr
  fd_Web_second : FuncData
  Web_size : Addr
  fd_Web_size : FuncData
  pr_Web_dues : Addr
  pr_Web_first : Addr
  pr_Web_marks : Addr
  pr_Web_second : Addr
  pr_Web_size : Addr
  pm_Web_line : Addr
  pm_Web_ring : Addr
  g_ORDERS : Addr
structure Txt (c : Cfg) (mg : Str → Option Value) (A : Adr) : Prop where
  pl : c.Pot
  F_is_integer : Fun c.K "is_integer" "is_integer" s_is_integer A.is_integer A.fd_is_integer
  m_is_integer : mg "is_integer" = some (.ref A.is_integer)
  F_check_whole : Fun c.K "check_whole" "check_whole" s_check_whole A.check_whole A.fd_check_whole
  m_check_whole : mg "check_whole" = some (.ref A.check_whole)
  F_whole_list : Fun c.K "whole_list" "whole_list" s_whole_list A.whole_list A.fd_whole_list
  m_whole_list : mg "whole_list" = some (.ref A.whole_list)
  F_check_range : Fun c.K "check_range" "check_range" s_check_range A.check_range A.fd_check_range
  m_check_range : mg "check_range" = some (.ref A.check_range)
  F_check_least : Fun c.K "check_least" "check_least" s_check_least A.check_least A.fd_check_least
  m_check_least : mg "check_least" = some (.ref A.check_least)
  F_check_one_or_two : Fun c.K "check_one_or_two" "check_one_or_two" s_check_one_or_two A.check_one_or_two A.fd_check_one_or_two
  m_check_one_or_two : mg "check_one_or_two" = some (.ref A.check_one_or_two)
  F_check_most : Fun c.K "check_most" "check_most" s_check_most A.check_most A.fd_check_most
  m_check_most : mg "check_most" = some (.ref A.check_most)
  F_as_stands : Fun c.K "as_stands" "as_stands" s_as_stands A.as_stands A.fd_as_stands
  m_as_stands : mg "as_stands" = some (.ref A.as_stands)
  F_is_due : Fun c.K "is_due" "is_due" s_is_due A.is_due A.fd_is_due
  m_is_due : mg "is_due" = some (.ref A.is_due)
  F_due_in_range : Fun c.K "due_in_range" "due_in_range" s_due_in_range A.due_in_range A.fd_due_in_range
  m_due_in_range : mg "due_in_range" = some (.ref A.due_in_range)
  F_due_too_great : Fun c.K "due_too_great" "due_too_great" s_due_too_great A.due_too_great A.fd_due_too_great
  m_due_too_great : mg "due_too_great" = some (.ref A.due_too_great)
  F_check_due : Fun c.K "check_due" "check_due" s_check_due A.check_due A.fd_check_due
  m_check_due : mg "check_due" = some (.ref A.check_due)
  F_due_at : Fun c.K "due_at" "due_at" s_due_at A.due_at A.fd_due_at
  m_due_at : mg "due_at" = some (.ref A.due_at)
  F_check_kinds : Fun c.K "check_kinds" "check_kinds" s_check_kinds A.check_kinds A.fd_check_kinds
  m_check_kinds : mg "check_kinds" = some (.ref A.check_kinds)
  F_check_steps : Fun c.K "check_steps" "check_steps" s_check_steps A.check_steps A.fd_check_steps
  m_check_steps : mg "check_steps" = some (.ref A.check_steps)
  F_check_parts : Fun c.K "check_parts" "check_parts" s_check_parts A.check_parts A.fd_check_parts
  m_check_parts : mg "check_parts" = some (.ref A.check_parts)
  F_check_plain : Fun c.K "check_plain" "check_plain" s_check_plain A.check_plain A.fd_check_plain
  m_check_plain : mg "check_plain" = some (.ref A.check_plain)
  F_Web_init : Fun c.K "__init__" "Web.__init__" s_Web_init A.Web_init A.fd_Web_init
  F_Web_line : FunD c.K "line" "Web.line" (defArgs s_Web_line) (defBody s_Web_line) (defScope s_Web_line) [(V.int 1)] [] A.Web_line A.fd_Web_line
  cm_Web_line : ClX.CMet c.K A.ca.Web (.type "type") "line" A.pm_Web_line A.Web_line
  F_Web_ring : FunD c.K "ring" "Web.ring" (defArgs s_Web_ring) (defBody s_Web_ring) (defScope s_Web_ring) [(V.int 1)] [] A.Web_ring A.fd_Web_ring
  cm_Web_ring : ClX.CMet c.K A.ca.Web (.type "type") "ring" A.pm_Web_ring A.Web_ring
  F_check_web : Fun c.K "check_web" "check_web" s_check_web A.check_web A.fd_check_web
  m_check_web : mg "check_web" = some (.ref A.check_web)
  F_check_stand : Fun c.K "check_stand" "check_stand" s_check_stand A.check_stand A.fd_check_stand
  m_check_stand : mg "check_stand" = some (.ref A.check_stand)
  F_check_state_range : Fun c.K "check_state_range" "check_state_range" s_check_state_range A.check_state_range A.fd_check_state_range
  m_check_state_range : mg "check_state_range" = some (.ref A.check_state_range)
  F_check_state : Fun c.K "check_state" "check_state" s_check_state A.check_state A.fd_check_state
  m_check_state : mg "check_state" = some (.ref A.check_state)
  F_dues_at : Fun c.K "dues_at" "dues_at" s_dues_at A.dues_at A.fd_dues_at
  m_dues_at : mg "dues_at" = some (.ref A.dues_at)
  F_bought : Fun c.K "bought" "bought" s_bought A.bought A.fd_bought
  m_bought : mg "bought" = some (.ref A.bought)
  F_check_listing_size : Fun c.K "check_listing_size" "check_listing_size" s_check_listing_size A.check_listing_size A.fd_check_listing_size
  m_check_listing_size : mg "check_listing_size" = some (.ref A.check_listing_size)
  F_claimable : Fun c.K "claimable" "claimable" s_claimable A.claimable A.fd_claimable
  m_claimable : mg "claimable" = some (.ref A.claimable)
  F_is_good : Fun c.K "is_good" "is_good" s_is_good A.is_good A.fd_is_good
  m_is_good : mg "is_good" = some (.ref A.is_good)
  F_forced : Fun c.K "forced" "forced" s_forced A.forced A.fd_forced
  m_forced : mg "forced" = some (.ref A.forced)
  F_stand_behind : Fun c.K "stand_behind" "stand_behind" s_stand_behind A.stand_behind A.fd_stand_behind
  m_stand_behind : mg "stand_behind" = some (.ref A.stand_behind)
  F_level_behind : Fun c.K "level_behind" "level_behind" s_level_behind A.level_behind A.fd_level_behind
  m_level_behind : mg "level_behind" = some (.ref A.level_behind)
  F_won_states : FunD c.K "won_states" "won_states" (defArgs s_won_states) (defBody s_won_states) (defScope s_won_states) [V.non] [("order", (V.str "sealed"))] A.won_states A.fd_won_states
  m_won_states : mg "won_states" = some (.ref A.won_states)
  F_level_of : Fun c.K "level_of" "level_of" s_level_of A.level_of A.fd_level_of
  m_level_of : mg "level_of" = some (.ref A.level_of)
  F_law_draw : Fun c.K "_law_draw" "_law_draw" s_law_draw A.law_draw A.fd_law_draw
  m_law_draw : mg "_law_draw" = some (.ref A.law_draw)
  F_law_whole : Fun c.K "_law_whole" "_law_whole" s_law_whole A.law_whole A.fd_law_whole
  m_law_whole : mg "_law_whole" = some (.ref A.law_whole)
  F_law_lot : Fun c.K "_law_lot" "_law_lot" s_law_lot A.law_lot A.fd_law_lot
  m_law_lot : mg "_law_lot" = some (.ref A.law_lot)
  F_law_due : Fun c.K "_law_due" "_law_due" s_law_due A.law_due A.fd_law_due
  m_law_due : mg "_law_due" = some (.ref A.law_due)
  F_law_marks : Fun c.K "_law_marks" "_law_marks" s_law_marks A.law_marks A.fd_law_marks
  m_law_marks : mg "_law_marks" = some (.ref A.law_marks)
  F_law_path : Fun c.K "_law_path" "_law_path" s_law_path A.law_path A.fd_law_path
  m_law_path : mg "_law_path" = some (.ref A.law_path)
  F_law_web : Fun c.K "_law_web" "_law_web" s_law_web A.law_web A.fd_law_web
  m_law_web : mg "_law_web" = some (.ref A.law_web)
  F_law_due_at : Fun c.K "_law_due_at" "_law_due_at" s_law_due_at A.law_due_at A.fd_law_due_at
  m_law_due_at : mg "_law_due_at" = some (.ref A.law_due_at)
  F_law_half : Fun c.K "_law_half" "_law_half" s_law_half A.law_half A.fd_law_half
  m_law_half : mg "_law_half" = some (.ref A.law_half)
  F_law_low : Fun c.K "_law_low" "_law_low" s_law_low A.law_low A.fd_law_low
  m_law_low : mg "_law_low" = some (.ref A.law_low)
  F_law_high : Fun c.K "_law_high" "_law_high" s_law_high A.law_high A.fd_law_high
  m_law_high : mg "_law_high" = some (.ref A.law_high)
  F_law_price : Fun c.K "_law_price" "_law_price" s_law_price A.law_price A.fd_law_price
  m_law_price : mg "_law_price" = some (.ref A.law_price)
  F_law_next : Fun c.K "_law_next" "_law_next" s_law_next A.law_next A.fd_law_next
  m_law_next : mg "_law_next" = some (.ref A.law_next)
  F_law_built : Fun c.K "_law_built" "_law_built" s_law_built A.law_built A.fd_law_built
  m_law_built : mg "_law_built" = some (.ref A.law_built)
  F_law_rounds : Fun c.K "_law_rounds" "_law_rounds" s_law_rounds A.law_rounds A.fd_law_rounds
  m_law_rounds : mg "_law_rounds" = some (.ref A.law_rounds)
  F_law_states : Fun c.K "_law_states" "_law_states" s_law_states A.law_states A.fd_law_states
  m_law_states : mg "_law_states" = some (.ref A.law_states)
  F_law_level : Fun c.K "_law_level" "_law_level" s_law_level A.law_level A.fd_law_level
  m_law_level : mg "_law_level" = some (.ref A.law_level)
  F_law_code : Fun c.K "_law_code" "_law_code" s_law_code A.law_code A.fd_law_code
  m_law_code : mg "_law_code" = some (.ref A.law_code)
  F_law_level_code : Fun c.K "_law_level_code" "_law_level_code" s_law_level_code A.law_level_code A.fd_law_level_code
  m_law_level_code : mg "_law_level_code" = some (.ref A.law_level_code)
  F_law_refusals : Fun c.K "_law_refusals" "_law_refusals" s_law_refusals A.law_refusals A.fd_law_refusals
  m_law_refusals : mg "_law_refusals" = some (.ref A.law_refusals)
  F_Web_dues : Fun c.K "dues" "Web.dues" s_Web_dues A.Web_dues A.fd_Web_dues
  p_Web_dues : PropOf c.K A.ca.Web "dues" A.pr_Web_dues A.Web_dues
  F_Web_first : Fun c.K "first" "Web.first" s_Web_first A.Web_first A.fd_Web_first
  p_Web_first : PropOf c.K A.ca.Web "first" A.pr_Web_first A.Web_first
  F_Web_marks : Fun c.K "marks" "Web.marks" s_Web_marks A.Web_marks A.fd_Web_marks
  p_Web_marks : PropOf c.K A.ca.Web "marks" A.pr_Web_marks A.Web_marks
  F_Web_second : Fun c.K "second" "Web.second" s_Web_second A.Web_second A.fd_Web_second
  p_Web_second : PropOf c.K A.ca.Web "second" A.pr_Web_second A.Web_second
  F_Web_size : Fun c.K "size" "Web.size" s_Web_size A.Web_size A.fd_Web_size
  p_Web_size : PropOf c.K A.ca.Web "size" A.pr_Web_size A.Web_size
  m_Web : mg "Web" = some (.ref A.ca.Web)
  f_Web : ClsF c.K A.ca.Web
  mk_Web : Mk c.K A.ca.Web A.Web_init
  a_Web__dues : NoAttr c.K A.ca.Web "_dues"
  a_Web__ends : NoAttr c.K A.ca.Web "_ends"
  a_Web__even : NoAttr c.K A.ca.Web "_even"
  a_Web__first : NoAttr c.K A.ca.Web "_first"
  a_Web__greatest_due : NoAttr c.K A.ca.Web "_greatest_due"
  a_Web__marks : NoAttr c.K A.ca.Web "_marks"
  a_Web__moving : NoAttr c.K A.ca.Web "_moving"
  a_Web__second : NoAttr c.K A.ca.Web "_second"
  a_Web__size : NoAttr c.K A.ca.Web "_size"
  cr_Web : ClX.CRead c.K A.ca.Web (.type "type")
  m_ORDERS : mg "ORDERS" = some (.ref A.g_ORDERS)
  g_ORDERS : GTup c.K A.g_ORDERS [(V.str "sealed"), (V.str "first"), (V.str "second")]
  c_GREATEST : ∃ t, mg "GREATEST" = some (.int 10000000000000000000000000000000000000000 t)
  c_MOST_STANDS_webparts : ∃ t, mg "MOST_STANDS_webparts" = some (.int 60 t)
  c_MOST_STANDS_listing : ∃ t, mg "MOST_STANDS_listing" = some (.int 8 t)
  c_MOST_CHIPS : ∃ t, mg "MOST_CHIPS" = some (.int 12 t)
  n_all : mg "all" = none
  n_any : mg "any" = none
  n_bool : mg "bool" = none
  n_enumerate : mg "enumerate" = none
  n_int : mg "int" = none
  n_isinstance : mg "isinstance" = none
  n_len : mg "len" = none
  n_list : mg "list" = none
  n_max : mg "max" = none
  n_min : mg "min" = none
  n_range : mg "range" = none
  n_set : mg "set" = none
  n_sorted : mg "sorted" = none
  n_str : mg "str" = none
  n_tuple : mg "tuple" = none
  mE0 : mg "WrongKind" = some (.ref (c.ec 0))
  xE0 : PySem.W.excIn c.K (c.ec 0) [.type "Exception", .type "BaseException", .type "object"] "Exception.__new__" = true
  kE0 : PySem.W.keepIn c.K (.ref (c.ec 0)) = true
  bE0 : PySem.W.subIn c.K (.ref (c.ec 0)) (.type "BaseException") = some true
  tE0 : PySem.W.typeIn c.K (.ref (c.ec 0)) = some (.type "type")
  mE1 : mg "WrongNumber" = some (.ref (c.ec 1))
  xE1 : PySem.W.excIn c.K (c.ec 1) [.type "Exception", .type "BaseException", .type "object"] "Exception.__new__" = true
  kE1 : PySem.W.keepIn c.K (.ref (c.ec 1)) = true
  bE1 : PySem.W.subIn c.K (.ref (c.ec 1)) (.type "BaseException") = some true
  tE1 : PySem.W.typeIn c.K (.ref (c.ec 1)) = some (.type "type")
  mE2 : mg "WrongWeb" = some (.ref (c.ec 2))
  xE2 : PySem.W.excIn c.K (c.ec 2) [.type "Exception", .type "BaseException", .type "object"] "Exception.__new__" = true
  kE2 : PySem.W.keepIn c.K (.ref (c.ec 2)) = true
  bE2 : PySem.W.subIn c.K (.ref (c.ec 2)) (.type "BaseException") = some true
  tE2 : PySem.W.typeIn c.K (.ref (c.ec 2)) = some (.type "type")
  mE3 : mg "TooMuch" = some (.ref (c.ec 3))
  xE3 : PySem.W.excIn c.K (c.ec 3) [.type "Exception", .type "BaseException", .type "object"] "Exception.__new__" = true
  kE3 : PySem.W.keepIn c.K (.ref (c.ec 3)) = true
  bE3 : PySem.W.subIn c.K (.ref (c.ec 3)) (.type "BaseException") = some true
  tE3 : PySem.W.typeIn c.K (.ref (c.ec 3)) = some (.type "type")
  apart : Apart c
theorem gsc_Web_dues : FnScope ["self"] ["self"] (defScope s_Web_dues) := ⟨rfl, rfl, rfl, by decide +kernel, rfl, by decide +kernel, by decide +kernel⟩
theorem gsc_Web_first : FnScope ["self"] ["self"] (defScope s_Web_first) := ⟨rfl, rfl, rfl, by decide +kernel, rfl, by decide +kernel, by decide +kernel⟩
theorem gsc_Web_marks : FnScope ["self"] ["self"] (defScope s_Web_marks) := ⟨rfl, rfl, rfl, by decide +kernel, rfl, by decide +kernel, by decide +kernel⟩
theorem gsc_Web_second : FnScope ["self"] ["self"] (defScope s_Web_second) := ⟨rfl, rfl, rfl, by decide +kernel, rfl, by decide +kernel, by decide +kernel⟩
theorem gsc_Web_size : FnScope ["self"] ["self"] (defScope s_Web_size) := ⟨rfl, rfl, rfl, by decide +kernel, rfl, by decide +kernel, by decide +kernel⟩
abbrev Nn_is_integer : List Str := ["thing"]
theorem sc_is_integer : FnScope Nn_is_integer ["thing"] (defScope s_is_integer) := ⟨rfl, rfl, rfl, by decide +kernel, rfl, by decide +kernel, by decide +kernel⟩
abbrev Nn_check_whole : List Str := ["things", "thing"]
theorem sc_check_whole : FnScope Nn_check_whole ["things"] (defScope s_check_whole) := ⟨rfl, rfl, rfl, by decide +kernel, rfl, by decide +kernel, by decide +kernel⟩
abbrev Nn_whole_list : List Str := ["thing"]
theorem sc_whole_list : FnScope Nn_whole_list ["thing"] (defScope s_whole_list) := ⟨rfl, rfl, rfl, by decide +kernel, rfl, by decide +kernel, by decide +kernel⟩
abbrev Nn_check_range : List Str := ["number", "least", "most"]
theorem sc_check_range : FnScope Nn_check_range ["number", "least", "most"] (defScope s_check_range) := ⟨rfl, rfl, rfl, by decide +kernel, rfl, by decide +kernel, by decide +kernel⟩
abbrev Nn_check_least : List Str := ["number", "least"]
theorem sc_check_least : FnScope Nn_check_least ["number", "least"] (defScope s_check_least) := ⟨rfl, rfl, rfl, by decide +kernel, rfl, by decide +kernel, by decide +kernel⟩
abbrev Nn_check_one_or_two : List Str := ["number"]
theorem sc_check_one_or_two : FnScope Nn_check_one_or_two ["number"] (defScope s_check_one_or_two) := ⟨rfl, rfl, rfl, by decide +kernel, rfl, by decide +kernel, by decide +kernel⟩
abbrev Nn_check_most : List Str := ["number", "most"]
theorem sc_check_most : FnScope Nn_check_most ["number", "most"] (defScope s_check_most) := ⟨rfl, rfl, rfl, by decide +kernel, rfl, by decide +kernel, by decide +kernel⟩
abbrev Nn_as_stands : List Str := ["thing", "size", "stands", "stand"]
theorem sc_as_stands : FnScope Nn_as_stands ["thing", "size"] (defScope s_as_stands) := ⟨rfl, rfl, rfl, by decide +kernel, rfl, by decide +kernel, by decide +kernel⟩
abbrev Nn_is_due : List Str := ["due"]
theorem sc_is_due : FnScope Nn_is_due ["due"] (defScope s_is_due) := ⟨rfl, rfl, rfl, by decide +kernel, rfl, by decide +kernel, by decide +kernel⟩
abbrev Nn_due_in_range : List Str := ["due"]
theorem sc_due_in_range : FnScope Nn_due_in_range ["due"] (defScope s_due_in_range) := ⟨rfl, rfl, rfl, by decide +kernel, rfl, by decide +kernel, by decide +kernel⟩
abbrev Nn_due_too_great : List Str := ["due"]
theorem sc_due_too_great : FnScope Nn_due_too_great ["due"] (defScope s_due_too_great) := ⟨rfl, rfl, rfl, by decide +kernel, rfl, by decide +kernel, by decide +kernel⟩
abbrev Nn_check_due : List Str := ["due"]
theorem sc_check_due : FnScope Nn_check_due ["due"] (defScope s_check_due) := ⟨rfl, rfl, rfl, by decide +kernel, rfl, by decide +kernel, by decide +kernel⟩
abbrev Nn_due_at : List Str := ["due", "k"]
theorem sc_due_at : FnScope Nn_due_at ["due", "k"] (defScope s_due_at) := ⟨rfl, rfl, rfl, by decide +kernel, rfl, by decide +kernel, by decide +kernel⟩
abbrev Nn_check_kinds : List Str := ["first", "second", "marks", "dues", "steps", "due"]
theorem sc_check_kinds : FnScope Nn_check_kinds ["first", "second", "marks", "dues"] (defScope s_check_kinds) := ⟨rfl, rfl, rfl, by decide +kernel, rfl, by decide +kernel, by decide +kernel⟩
abbrev Nn_check_steps : List Str := ["first", "second", "stand", "steps", "step"]
theorem sc_check_steps : FnScope Nn_check_steps ["first", "second"] (defScope s_check_steps) := ⟨rfl, rfl, rfl, by decide +kernel, rfl, by decide +kernel, by decide +kernel⟩
abbrev Nn_check_parts : List Str := ["first", "second", "marks", "dues", "size", "mark", "due"]
theorem sc_check_parts : FnScope Nn_check_parts ["first", "second", "marks", "dues"] (defScope s_check_parts) := ⟨rfl, rfl, rfl, by decide +kernel, rfl, by decide +kernel, by decide +kernel⟩
abbrev Nn_check_plain : List Str := ["number", "mark", "extra"]
theorem sc_check_plain : FnScope Nn_check_plain ["number", "mark", "extra"] (defScope s_check_plain) := ⟨rfl, rfl, rfl, by decide +kernel, rfl, by decide +kernel, by decide +kernel⟩
abbrev Nn_Web_init : List Str := ["self", "first", "second", "marks", "dues", "size", "steps", "due", "stand"]
theorem sc_Web_init : FnScope Nn_Web_init ["self", "first", "second", "marks", "dues"] (defScope s_Web_init) := ⟨rfl, rfl, rfl, by decide +kernel, rfl, by decide +kernel, by decide +kernel⟩
abbrev Nn_Web_line : List Str := ["cls", "n", "mark", "steps", "stand", "ways"]
theorem sc_Web_line : FnScope Nn_Web_line ["cls", "n", "mark"] (defScope s_Web_line) := ⟨rfl, rfl, rfl, by decide +kernel, rfl, by decide +kernel, by decide +kernel⟩
abbrev Nn_Web_ring : List Str := ["cls", "n", "mark", "ways", "stand"]
theorem sc_Web_ring : FnScope Nn_Web_ring ["cls", "n", "mark"] (defScope s_Web_ring) := ⟨rfl, rfl, rfl, by decide +kernel, rfl, by decide +kernel, by decide +kernel⟩
abbrev Nn_check_web : List Str := ["thing"]
theorem sc_check_web : FnScope Nn_check_web ["thing"] (defScope s_check_web) := ⟨rfl, rfl, rfl, by decide +kernel, rfl, by decide +kernel, by decide +kernel⟩
abbrev Nn_check_stand : List Str := ["web", "stand"]
theorem sc_check_stand : FnScope Nn_check_stand ["web", "stand"] (defScope s_check_stand) := ⟨rfl, rfl, rfl, by decide +kernel, rfl, by decide +kernel, by decide +kernel⟩
abbrev Nn_check_state_range : List Str := ["web", "k", "stand", "purse"]
theorem sc_check_state_range : FnScope Nn_check_state_range ["web", "k", "stand", "purse"] (defScope s_check_state_range) := ⟨rfl, rfl, rfl, by decide +kernel, rfl, by decide +kernel, by decide +kernel⟩
abbrev Nn_check_state : List Str := ["web", "k", "stand", "purse"]
theorem sc_check_state : FnScope Nn_check_state ["web", "k", "stand", "purse"] (defScope s_check_state) := ⟨rfl, rfl, rfl, by decide +kernel, rfl, by decide +kernel, by decide +kernel⟩
abbrev Nn_dues_at : List Str := ["web", "k", "due"]
theorem sc_dues_at : FnScope Nn_dues_at ["web", "k"] (defScope s_dues_at) := ⟨rfl, rfl, rfl, by decide +kernel, rfl, by decide +kernel, by decide +kernel⟩
abbrev Nn_bought : List Str := ["mark", "purse", "p", "q"]
theorem sc_bought : FnScope Nn_bought ["mark", "purse", "p", "q"] (defScope s_bought) := ⟨rfl, rfl, rfl, by decide +kernel, rfl, by decide +kernel, by decide +kernel⟩
abbrev Nn_check_listing_size : List Str := ["web", "k"]
theorem sc_check_listing_size : FnScope Nn_check_listing_size ["web", "k"] (defScope s_check_listing_size) := ⟨rfl, rfl, rfl, by decide +kernel, rfl, by decide +kernel, by decide +kernel⟩
abbrev Nn_claimable : List Str := ["web", "k", "purse", "due"]
theorem sc_claimable : FnScope Nn_claimable ["web", "k"] (defScope s_claimable) := ⟨rfl, rfl, rfl, by decide +kernel, rfl, by decide +kernel, by decide +kernel⟩
abbrev Nn_is_good : List Str := ["mark", "purse", "p", "q", "open_to", "hand", "after"]
theorem sc_is_good : FnScope Nn_is_good ["mark", "purse", "p", "q", "open_to"] (defScope s_is_good) := ⟨rfl, rfl, rfl, by decide +kernel, rfl, by decide +kernel, by decide +kernel⟩
abbrev Nn_forced : List Str := ["mark", "k", "purse", "open_to", "order", "q", "p"]
theorem sc_forced : FnScope Nn_forced ["mark", "k", "purse", "open_to", "order"] (defScope s_forced) := ⟨rfl, rfl, rfl, by decide +kernel, rfl, by decide +kernel, by decide +kernel⟩
abbrev Nn_stand_behind : List Str := ["web", "k", "level", "order", "stand", "claims", "gained", "step", "purse", "kept", "open_to", "row", "claim"]
theorem sc_stand_behind : FnScope Nn_stand_behind ["web", "k", "level", "order", "stand", "claims"] (defScope s_stand_behind) := ⟨rfl, rfl, rfl, by decide +kernel, rfl, by decide +kernel, by decide +kernel⟩
abbrev Nn_level_behind : List Str := ["web", "k", "level", "order", "claims", "stand"]
theorem sc_level_behind : FnScope Nn_level_behind ["web", "k", "level", "order"] (defScope s_level_behind) := ⟨rfl, rfl, rfl, by decide +kernel, rfl, by decide +kernel, by decide +kernel⟩
abbrev Nn_won_states : List Str := ["web", "k", "steps", "order", "level", "after", "done"]
theorem sc_won_states : FnScope Nn_won_states ["web", "k", "steps", "order"] (defScope s_won_states) := ⟨rfl, rfl, rfl, by decide +kernel, rfl, by decide +kernel, by decide +kernel⟩
abbrev Nn_level_of : List Str := ["web", "k", "stand", "purse", "level", "after", "done"]
theorem sc_level_of : FnScope Nn_level_of ["web", "k", "stand", "purse"] (defScope s_level_of) := ⟨rfl, rfl, rfl, by decide +kernel, rfl, by decide +kernel, by decide +kernel⟩
abbrev Nn_law_draw : List Str := ["_law_pot_here", "_law_many"]
theorem sc_law_draw : FnScope Nn_law_draw ["_law_pot_here", "_law_many"] (defScope s_law_draw) := ⟨rfl, rfl, rfl, by decide +kernel, rfl, by decide +kernel, by decide +kernel⟩
abbrev Nn_law_whole : List Str := ["_law_thing"]
theorem sc_law_whole : FnScope Nn_law_whole ["_law_thing"] (defScope s_law_whole) := ⟨rfl, rfl, rfl, by decide +kernel, rfl, by decide +kernel, by decide +kernel⟩
abbrev Nn_law_lot : List Str := ["_law_pot_here", "_law_size", "_law_lot_here", "_law_turn", "_law_step"]
theorem sc_law_lot : FnScope Nn_law_lot ["_law_pot_here", "_law_size"] (defScope s_law_lot) := ⟨rfl, rfl, rfl, by decide +kernel, rfl, by decide +kernel, by decide +kernel⟩
abbrev Nn_law_due : List Str := ["_law_pot_here", "_law_word"]
theorem sc_law_due : FnScope Nn_law_due ["_law_pot_here"] (defScope s_law_due) := ⟨rfl, rfl, rfl, by decide +kernel, rfl, by decide +kernel, by decide +kernel⟩
abbrev Nn_law_marks : List Str := ["_law_pot_here", "_law_size", "_law_style", "_law_stand"]
theorem sc_law_marks : FnScope Nn_law_marks ["_law_pot_here", "_law_size"] (defScope s_law_marks) := ⟨rfl, rfl, rfl, by decide +kernel, rfl, by decide +kernel, by decide +kernel⟩
abbrev Nn_law_path : List Str := ["_law_size", "_law_lots", "_law_stand", "_law_low_here", "_law_high_here"]
theorem sc_law_path : FnScope Nn_law_path ["_law_size"] (defScope s_law_path) := ⟨rfl, rfl, rfl, by decide +kernel, rfl, by decide +kernel, by decide +kernel⟩
abbrev Nn_law_web : List Str := ["_law_pot_here", "_law_most", "_law_even", "_law_size", "_law_shape", "_law_first", "_law_dues", "_law_stand", "_law_second", "_law_lot_here", "_law_is_end", "_law_due_here"]
theorem sc_law_web : FnScope Nn_law_web ["_law_pot_here", "_law_most", "_law_even"] (defScope s_law_web) := ⟨rfl, rfl, rfl, by decide +kernel, rfl, by decide +kernel, by decide +kernel⟩
abbrev Nn_law_due_at : List Str := ["_law_due_here", "_law_k"]
theorem sc_law_due_at : FnScope Nn_law_due_at ["_law_due_here", "_law_k"] (defScope s_law_due_at) := ⟨rfl, rfl, rfl, by decide +kernel, rfl, by decide +kernel, by decide +kernel⟩
abbrev Nn_law_half : List Str := ["_law_mark", "_law_x", "_law_y"]
theorem sc_law_half : FnScope Nn_law_half ["_law_mark", "_law_x", "_law_y"] (defScope s_law_half) := ⟨rfl, rfl, rfl, by decide +kernel, rfl, by decide +kernel, by decide +kernel⟩
abbrev Nn_law_low : List Str := ["_law_web_here", "_law_row", "_law_stand", "_law_step"]
theorem sc_law_low : FnScope Nn_law_low ["_law_web_here", "_law_row", "_law_stand"] (defScope s_law_low) := ⟨rfl, rfl, rfl, by decide +kernel, rfl, by decide +kernel, by decide +kernel⟩
abbrev Nn_law_high : List Str := ["_law_web_here", "_law_row", "_law_stand", "_law_step"]
theorem sc_law_high : FnScope Nn_law_high ["_law_web_here", "_law_row", "_law_stand"] (defScope s_law_high) := ⟨rfl, rfl, rfl, by decide +kernel, rfl, by decide +kernel, by decide +kernel⟩
abbrev Nn_law_price : List Str := ["_law_web_here", "_law_k", "_law_row", "_law_stand"]
theorem sc_law_price : FnScope Nn_law_price ["_law_web_here", "_law_k", "_law_row", "_law_stand"] (defScope s_law_price) := ⟨rfl, rfl, rfl, by decide +kernel, rfl, by decide +kernel, by decide +kernel⟩
abbrev Nn_law_next : List Str := ["_law_web_here", "_law_k", "_law_row", "_law_stand"]
theorem sc_law_next : FnScope Nn_law_next ["_law_web_here", "_law_k", "_law_row"] (defScope s_law_next) := ⟨rfl, rfl, rfl, by decide +kernel, rfl, by decide +kernel, by decide +kernel⟩
abbrev Nn_law_built : List Str := ["_law_web_here", "_law_lot_here"]
theorem sc_law_built : FnScope Nn_law_built ["_law_web_here"] (defScope s_law_built) := ⟨rfl, rfl, rfl, by decide +kernel, rfl, by decide +kernel, by decide +kernel⟩
abbrev Nn_law_rounds : List Str := ["_law_web_here", "_law_k", "_law_rows", "_law_due_here", "_law_turn", "_law_after"]
theorem sc_law_rounds : FnScope Nn_law_rounds ["_law_web_here", "_law_k"] (defScope s_law_rounds) := ⟨rfl, rfl, rfl, by decide +kernel, rfl, by decide +kernel, by decide +kernel⟩
abbrev Nn_law_states : List Str := ["_law_told", "_law_k", "_law_row", "_law_stand", "_law_purse"]
theorem sc_law_states : FnScope Nn_law_states ["_law_told", "_law_k", "_law_row"] (defScope s_law_states) := ⟨rfl, rfl, rfl, by decide +kernel, rfl, by decide +kernel, by decide +kernel⟩
abbrev Nn_law_level : List Str := ["_law_rows", "_law_stand", "_law_purse", "_law_level_here"]
theorem sc_law_level : FnScope Nn_law_level ["_law_rows", "_law_stand", "_law_purse"] (defScope s_law_level) := ⟨rfl, rfl, rfl, by decide +kernel, rfl, by decide +kernel, by decide +kernel⟩
abbrev Nn_law_code : List Str := ["_law_built_here", "_law_k", "_law_level_here", "_law_way", "_law_code_here"]
theorem sc_law_code : FnScope Nn_law_code ["_law_built_here", "_law_k", "_law_level_here", "_law_way"] (defScope s_law_code) := ⟨rfl, rfl, rfl, by decide +kernel, rfl, by decide +kernel, by decide +kernel⟩
abbrev Nn_law_level_code : List Str := ["_law_built_here", "_law_k", "_law_stand", "_law_purse", "_law_code_here"]
theorem sc_law_level_code : FnScope Nn_law_level_code ["_law_built_here", "_law_k", "_law_stand", "_law_purse"] (defScope s_law_level_code) := ⟨rfl, rfl, rfl, by decide +kernel, rfl, by decide +kernel, by decide +kernel⟩
abbrev Nn_law_refusals : List Str := ["_law_built_here", "_law_k", "_law_size", "_law_way"]
theorem sc_law_refusals : FnScope Nn_law_refusals ["_law_built_here", "_law_k", "_law_size", "_law_way"] (defScope s_law_refusals) := ⟨rfl, rfl, rfl, by decide +kernel, rfl, by decide +kernel, by decide +kernel⟩
abbrev Nn_law : List Str := ["_law_script", "_law_pot_here", "_law_web_here", "_law_size", "_law_k", "_law_rows", "_law_last", "_law_built_here", "_law_ways", "_law_way", "_law_level_here", "_law_due_here", "_law_turn", "_law_stand", "_law_purse", "_law_told", "_law_wanted", "_law_ring"]
theorem sc_law : FnScope Nn_law ["_law_script"] (defScope s_law) := ⟨rfl, rfl, rfl, by decide +kernel, rfl, by decide +kernel, by decide +kernel⟩
abbrev Nn_law_pot : List Str := ["_law_script", "_law_pot_here", "_law_place", "_law_number", "_law_shift", "_law_turn", "_law_mixed"]
theorem sc_law_pot : FnScope Nn_law_pot ["_law_script"] (defScope s_law_pot) := ⟨rfl, rfl, rfl, by decide +kernel, rfl, by decide +kernel, by decide +kernel⟩
end K10
namespace PL
open PySem L2 Den
@[simp] theorem fLen_dI (ns : List Int) : fLen [dI ns] = some (.int ns.length) := by show some (D.int ((ns.map D.int).length : Int)) = _; rw [List.length_map]
@[simp] theorem lstOf_dI (ns : List Int) : lstOf (dI ns) = some (ns.map .int) := rfl
@[simp] theorem seqOf_dI (ns : List Int) : seqOf (dI ns) = some (ns.map .int) := rfl
@[simp] theorem fSeq1_dI (ns : List Int) : fSeq1 [dI ns] = some (ns.map .int) := rfl
@[simp] theorem fTuple_dI (ns : List Int) : fTuple [dI ns] = some (.tup (ns.map .int)) := rfl
@[simp] theorem truOf_dI (ns : List Int) : truOf (dI ns) = some (!ns.isEmpty) := by show some (!(ns.map D.int).isEmpty) = _; cases ns <;> rfl
@[simp] theorem truOf_dS (ns : List Int) : truOf (dS ns) = some (!(sortSet ns).isEmpty) := by show some (!((sortSet ns).map D.int).isEmpty) = _; cases sortSet ns <;> rfl
@[simp] theorem tupOf_dS (ns : List Int) : tupOf (dS ns) = some ((sortSet ns).map .int) := rfl
@[simp] theorem fIx_dI (ns : List Int) (i : Int) : fIx (dI ns) (.int i) = atI (ns.map .int) i := rfl
theorem is_integer_int (i : Int) (p : List Int) : D_is_integer [.int i] p = .ok (.bl true) p := by
  simp [D_is_integer, denF, dn_is_integer, locOf, mvar, fIs1, tyN, isTy]
theorem is_integer_ev {d : D} {t : Ty} (h : tyN d = some t) (p : List Int) : D_is_integer [d] p = .ok (.bl (isTy t .int && !isTy t .bl)) p := by
  simp [D_is_integer, denF, dn_is_integer, locOf, mvar, fIs1, h]
  cases isTy t .int <;> simp
theorem draw_ev (n : Int) (hn : 0 < n) (ps : List Int) : ∃ v q, D_law_draw [.pot, .int n] ps = .ok (.int v) q ∧ 0 ≤ v ∧ v < n := by
  have hd : ps = [] ∨ ∃ v, ps[ps.length - 1]? = some v ∧ ps ≠ [] := by
    cases ps with
    | nil => exact .inl rfl
    | cons a r => exact .inr ⟨_, List.getElem?_eq_getElem (by simp), by simp⟩
  unfold D_law_draw denF dn_law_draw
  rcases hd with rfl | ⟨v, hv, hl⟩
  · exact ⟨0, [], by simp [locOf, mlenp, mvar], by omega, hn⟩
  · exact ⟨v % n, ps.dropLast, by simp [locOf, mlenp, mvar, mpop, hl, hv, fMod_int hn], Int.emod_nonneg _ (by omega), Int.emod_lt_of_pos _ hn⟩
/-- all of these are whole numbers -/
theorem check_whole_ok (ds : List D) (h : ∀ d ∈ ds, ∃ i, d = .int i) (hl : ds.length ≤ 1000) (p : List Int) : D_check_whole ds p = .ok .non p := by
  have key : ∃ l' p', loop (gset 1) (sif (mnot (mtru (mcall D_is_integer (acons (mvar 1) anil)))) (sraise 0) sskip) ds [some (.dat (.tup ds)), none] p = .nx l' p' ∧ l'.length = 2 ∧ p' = p := by
    refine loop_run (fun _ l q => l.length = 2 ∧ q = p) (k := 0) ⟨rfl, rfl⟩ fun i d l q hd hI => ?_
    obtain ⟨i, rfl⟩ := h d (List.mem_of_getElem? hd)
    obtain ⟨hl, rfl⟩ := hI
    refine ⟨_, lset_lt 1 _ _ (by omega), l.set 1 (some (.dat (.int i))), q, .inl ?_, by simp [hl]⟩
    simp [mvar, hl, is_integer_int]
  obtain ⟨l', p', e, _, rfl⟩ := key
  unfold D_check_whole
  rw [if_pos hl]
  simp [denStar, denF, dn_check_whole, locOf, mvar, e]
/-- one of them is none: the first such is told -/
theorem check_whole_no (ds : List D) (hl : ds.length ≤ 1000) (p : List Int) (m : Nat) (d : D) (t : Ty) (hm : ds[m]? = some d) (ht : tyN d = some t) (hn : (isTy t .int && !isTy t .bl) = false) (h : ∀ i < m, ∀ d, ds[i]? = some d → ∃ i, d = .int i) : D_check_whole ds p = .err 0 p := by
  have key : ∀ (ds : List D) (m : Nat) (l : Den.Loc), l.length = 2 → ds[m]? = some d → (∀ i < m, ∀ d, ds[i]? = some d → ∃ i, d = .int i) → ∃ l', loop (gset 1) (sif (mnot (mtru (mcall D_is_integer (acons (mvar 1) anil)))) (sraise 0) sskip) ds l p = .err 0 l' p := by
    intro ds
    induction ds with
    | nil => intro m l _ hm _; simp at hm
    | cons a ds ih =>
      intro m l hl2 hm h
      unfold loop
      rw [lset_lt 1 a l (by omega)]
      cases m with
      | zero =>
        simp at hm
        subst hm
        refine ⟨l.set 1 (some (.dat a)), ?_⟩
        simp [mvar, hl2, is_integer_ev ht, hn]
      | succ m =>
        obtain ⟨i, rfl⟩ := h 0 (Nat.succ_pos m) a rfl
        obtain ⟨l', e⟩ := ih m (l.set 1 (some (.dat (.int i)))) (by simp [hl2]) (by simpa using hm) fun i hi d hd => h (i + 1) (by omega) d (by simpa using hd)
        refine ⟨l', ?_⟩
        simp [mvar, hl2, is_integer_int]
        exact e
  obtain ⟨l', e⟩ := key ds m [some (.dat (.tup ds)), none] rfl hm h
  unfold D_check_whole
  rw [if_pos hl]
  simp [denStar, denF, dn_check_whole, locOf, mvar, e]
theorem whole_list_ok {d : D} {ds : List D} (hd : seqOf d = some ds) (h : ∀ d ∈ ds, ∃ i, d = .int i) (hl : ds.length ≤ 1000) (p : List Int) : D_whole_list [d] p = .ok (.tup ds) p := by
  cases d with
  | lst ds' => cases hd; simp [D_whole_list, denF, dn_whole_list, locOf, mvar, fIs2, tyN, isTy, mstar, check_whole_ok _ h hl]
  | tup ds' => cases hd; simp [D_whole_list, denF, dn_whole_list, locOf, mvar, fIs2, tyN, isTy, mstar, check_whole_ok _ h hl]
  | _ => cases hd
theorem check_range_ev (a b e : Int) (p : List Int) : D_check_range [.int a, .int b, .int e] p = if b ≤ a ∧ a ≤ e then .ok .non p else .err 1 p := by
  unfold D_check_range denF dn_check_range
  by_cases h1 : a < b
  · have : ¬ (b ≤ a ∧ a ≤ e) := by omega
    simp [locOf, mvar, h1, this]
  · by_cases h2 : e < a
    · have : ¬ (b ≤ a ∧ a ≤ e) := by omega
      simp [locOf, mvar, h1, h2, this]
    · have : b ≤ a ∧ a ≤ e := by omega
      simp [locOf, mvar, h1, h2, this]
theorem check_least_ev (a b : Int) (p : List Int) : D_check_least [.int a, .int b] p = if b ≤ a then .ok .non p else .err 1 p := by
  by_cases h : a < b
  · have : ¬ b ≤ a := by omega
    simp [D_check_least, denF, dn_check_least, locOf, mvar, h, this]
  · have : b ≤ a := by omega
    simp [D_check_least, denF, dn_check_least, locOf, mvar, h, this]
theorem check_most_ev (a b : Int) (p : List Int) : D_check_most [.int a, .int b] p = if a ≤ b then .ok .non p else .err 3 p := by
  by_cases h : b < a
  · have : ¬ a ≤ b := by omega
    simp [D_check_most, denF, dn_check_most, locOf, mvar, h, this]
  · have : a ≤ b := by omega
    simp [D_check_most, denF, dn_check_most, locOf, mvar, h, this]
theorem intsOf_map : ∀ (ns : List Int), intsOf (ns.map D.int) = some ns
  | [] => rfl
  | n :: ns => by simp [intsOf, intsOf_map ns]
end PL
namespace PL
open PySem L2 Den
def wrd (b : Bool) : Str := if b then "chips" else "less"
theorem dDue_some (b : Bool) (x : Int) : dDue (some (b, x)) = .tup [.str (wrd b), .int x] := by cases b <;> rfl
theorem inV_wrd (b : Bool) : inV (V.str (wrd b)) [V.str "chips", V.str "less"] = true := by cases b <;> decide +kernel
theorem inB_wrd (b : Bool) : fInB false (.str (wrd b)) (.tup [.str "chips", .str "less"]) = some (.bl true) := by
  show some (D.bl (inV (V.str (wrd b)) [V.str "chips", V.str "less"])) = _
  rw [inV_wrd]
theorem eqv_3 (n : Int) : PyData.eqv (.list [.int n, .int n, .int n]) (.list [.int n, .int n, .int n]) = true := by
  simp [PyData.eqv, PyData.eqvAll]
theorem fEqD_3 (neg : Bool) (n : Int) : fEqD neg (.lst [.int n, .int n, .int n]) (.lst [.int n, .int n, .int n]) = some (.bl (if neg then false else true)) := by
  have e : pd (.lst [.int n, .int n, .int n]) = some (.list [.int n, .int n, .int n]) := by simp [pd, pdL]
  unfold fEqD
  rw [e]
  simp [PyData.depth, PyData.depthAll, eqv_3]
theorem mark_in (m : Int) (h : m = 1 ∨ m = 2) : fInB true (.int m) (.tup [.int 1, .int 2]) = some (.bl false) := by
  show some (D.bl (!inV (V.int m) [V.int 1, V.int 2])) = _
  rcases h with rfl | rfl <;> rfl
end PL
namespace PL
open PySem L2 Den
theorem seq_nx {a b : MS} {l l' : Den.Loc} {p p' : List Int} (h : a l p = .nx l' p') : sseq a b l p = b l' p' := sseq_nx a b l l' p p' h
theorem pd_dS (ss : List Int) : pd (dS ss) = some (.tuple ((sortSet ss).map .int)) := by
  have : ∀ ns : List Int, pdL (ns.map D.int) = some (ns.map .int) := fun ns => by
    induction ns with
    | nil => rfl
    | cons n ns ih => simp [pdL, pd, ih]
  simp [dS, pd, this]
theorem pdL_dS (l : List (List Int)) : pdL (l.map dS) = some (l.map fun ss => .tuple ((sortSet ss).map .int)) := by
  induction l with
  | nil => rfl
  | cons s l ih => simp [pdL, pd_dS, ih]
theorem depth_ints (ns : List Int) : PyData.depthAll (ns.map .int) = 0 := by
  induction ns with
  | nil => rfl
  | cons n ns ih => simp [PyData.depthAll, PyData.depth, ih]
theorem depth_ll (l : List (List Int)) : PyData.depthAll (l.map fun ss => .tuple ((sortSet ss).map .int)) ≤ 1 := by
  induction l with
  | nil => exact Nat.zero_le _
  | cons s l ih => simp [PyData.depthAll, PyData.depth, depth_ints]; omega
theorem even_ev (wb : Wb) : fEqD false (.tup (wb.first.map dS)) (.tup (wb.second.map dS)) = some (.bl (evB wb)) := by
  have e1 : pd (.tup (wb.first.map dS)) = some (.tuple (wb.first.map fun ss => .tuple ((sortSet ss).map .int))) := by simp [pd, pdL_dS]
  have e2 : pd (.tup (wb.second.map dS)) = some (.tuple (wb.second.map fun ss => .tuple ((sortSet ss).map .int))) := by simp [pd, pdL_dS]
  unfold fEqD evB
  rw [e1, e2]
  have h1 := depth_ll wb.first
  have h2 := depth_ll wb.second
  dsimp only
  rw [if_pos (by simp only [PyData.depth]; omega)]
  rfl
end PL
namespace PL
open PySem L2 Den
section
variable (b : Bool) (ds : List D)
@[simp] theorem seqOf_sq : seqOf (sqD b ds) = some ds := by cases b <;> rfl
@[simp] theorem fLen_sq : fLen [sqD b ds] = some (.int ds.length) := by cases b <;> rfl
@[simp] theorem fIx_sq (i : Int) : fIx (sqD b ds) (.int i) = atI ds i := by cases b <;> rfl
@[simp] theorem fTuple_sq : fTuple [sqD b ds] = some (.tup ds) := by cases b <;> rfl
@[simp] theorem truOf_sq : truOf (sqD b ds) = some (!ds.isEmpty) := by cases b <;> rfl
@[simp] theorem fSeq1_sq : fSeq1 [sqD b ds] = some ds := by cases b <;> rfl
@[simp] theorem isNon_sq : isNon (sqD b ds) = false := by cases b <;> rfl
@[simp] theorem enumS_sq : enumS [sqD b ds] = some (enumD 0 ds) := by cases b <;> rfl
@[simp] theorem fIs2_sq : fIs2 [sqD b ds, .tup [.ty .lst, .ty .tup]] = some (.bl true) := by cases b <;> simp [sqD, fIs2, tyN, isTy]
@[simp] theorem fBool_sq : fBoolS [sqD b ds] = some (.bl (!ds.isEmpty)) := by simp [fBoolS]
end
section
variable (s : Bool × List Int)
@[simp] theorem seqOf_sqI : seqOf (sqI s) = some (s.2.map .int) := seqOf_sq _ _
@[simp] theorem fLen_sqI : fLen [sqI s] = some (.int s.2.length) := by rw [sqI, fLen_sq, List.length_map]
@[simp] theorem fTuple_sqI : fTuple [sqI s] = some (.tup (s.2.map .int)) := fTuple_sq _ _
@[simp] theorem isEmpty_mapI : (s.2.map D.int).isEmpty = s.2.isEmpty := by cases s.2 <;> rfl
@[simp] theorem truOf_sqI : truOf (sqI s) = some (!s.2.isEmpty) := by rw [sqI, truOf_sq, isEmpty_mapI]
@[simp] theorem fBool_sqI : fBoolS [sqI s] = some (.bl (!s.2.isEmpty)) := by rw [sqI, fBool_sq, isEmpty_mapI]
@[simp] theorem fSeq1_sqI : fSeq1 [sqI s] = some (s.2.map .int) := fSeq1_sq _ _
end
theorem as_stands_sq (s : Bool × List Int) (n : Int) (hl : s.2.length < 64) (h : ∀ x ∈ s.2, 0 ≤ x ∧ x < n) (p : List Int) : D_as_stands [sqI s, .int n] p = .ok (dS s.2) p := by
  have hw : D_whole_list [sqI s] p = .ok (.tup (s.2.map .int)) p := whole_list_ok (seqOf_sqI s) (fun d hd => by
    obtain ⟨i, _, e⟩ := List.mem_map.mp hd
    exact ⟨i, e.symm⟩) (by rw [List.length_map]; omega) p
  obtain ⟨o', e⟩ := loop_env (i := 3) (fun o => [some (.dat (sqI s)), some (.dat (.int n)), some (.dat (.tup (s.2.map .int))), o]) (p := p) (body := sdrop (mcall D_check_range (acons (mvar 3) (acons (mret (D.int 0)) (acons (op2 fSub (mvar 1) (mret (D.int 1))) anil))))) (fun _ _ => rfl) (ds := s.2.map .int) (fun d hd => by
    obtain ⟨x, hx, rfl⟩ := List.mem_map.mp hd
    have hr : 0 ≤ x ∧ x ≤ n - 1 := by have := h x hx; omega
    simp [mvar, check_range_ev, hr]) none
  simp [D_as_stands, denF, dn_as_stands, locOf, mvar, hw] at e ⊢
  simp [mvar, e, fSortSet, intsOf_map, hl, dS]
theorem sqDue_cases (d : Bool × Due) : sqDue d = .non ∧ d.2 = none ∨ ∃ b x, sqDue d = sqD d.1 [.str (wrd b), .int x] ∧ d.2 = some (b, x) := by
  obtain ⟨a, d⟩ := d
  rcases d with _ | ⟨b, x⟩
  · exact .inl ⟨rfl, rfl⟩
  · exact .inr ⟨b, x, rfl, rfl⟩
theorem is_due_sq (d : Bool × Due) (p : List Int) : D_is_due [sqDue d] p = .ok (.bl true) p := by
  rcases sqDue_cases d with ⟨e, _⟩ | ⟨b, x, e, _⟩ <;> rw [e]
  · simp [D_is_due, denF, dn_is_due, locOf, mvar]
  · simp [D_is_due, denF, dn_is_due, locOf, mvar, fIs1, tyN, isTy, is_integer_int]
theorem check_due_sq (d : Bool × Due) (p : List Int) : D_check_due [sqDue d] p = .ok .non p := by
  simp [D_check_due, denF, dn_check_due, locOf, mvar, is_due_sq]
theorem due_in_range_sq (d : Bool × Due) (h : ∀ b x, d.2 = some (b, x) → 0 ≤ x) (p : List Int) : D_due_in_range [sqDue d] p = .ok (.bl true) p := by
  rcases sqDue_cases d with ⟨e, _⟩ | ⟨b, x, e, e2⟩ <;> rw [e]
  · simp [D_due_in_range, denF, dn_due_in_range, locOf, mvar]
  · have hx := h b x e2
    simp [D_due_in_range, denF, dn_due_in_range, locOf, mvar, inB_wrd, hx]
theorem due_too_great_sq (d : Bool × Due) (h : ∀ b x, d.2 = some (b, x) → x ≤ 10000000000000000000000000000000000000000) (p : List Int) : D_due_too_great [sqDue d] p = .ok (.bl false) p := by
  rcases sqDue_cases d with ⟨e, _⟩ | ⟨b, x, e, e2⟩ <;> rw [e]
  · simp [D_due_too_great, denF, dn_due_too_great, locOf, mvar]
  · have hx := h b x e2
    have : ¬ ((10000000000000000000000000000000000000000 : Int) < x) := by omega
    simp [D_due_too_great, denF, dn_due_too_great, locOf, mvar, this]
theorem whole_sq (s : Bool × List Int) (hl : s.2.length ≤ 1000) (p : List Int) : D_whole_list [sqI s] p = .ok (.tup (s.2.map .int)) p :=
  whole_list_ok (seqOf_sqI s) (fun d hd => by
    obtain ⟨i, _, e⟩ := List.mem_map.mp hd
    exact ⟨i, e.symm⟩) (by rw [List.length_map]; exact hl) p
section
variable {g : Wg}
theorem Wg.first_of (V : ValidG g.wb) : g.first.2.length = g.marks.2.length := by have := V.l1; simpa [Wg.wb] using this
theorem Wg.second_of (V : ValidG g.wb) : g.second.2.length = g.marks.2.length := by have := V.l2; simpa [Wg.wb] using this
theorem Wg.dues_of (V : ValidG g.wb) : g.dues.2.length = g.marks.2.length := by have := V.l3; simpa [Wg.wb] using this
theorem Wg.n1_of (V : ValidG g.wb) : 1 ≤ g.marks.2.length := V.n1
theorem Wg.n2_of (V : ValidG g.wb) : g.marks.2.length ≤ 60 := V.n2
theorem Wg.fst_of (V : ValidG g.wb) {s : Bool × List Int} (h : s ∈ g.first.2) : s.2.length < 64 ∧ ∀ x ∈ s.2, 0 ≤ x ∧ x < (g.marks.2.length : Int) := V.s1 _ (List.mem_map_of_mem h)
theorem Wg.snd_of (V : ValidG g.wb) {s : Bool × List Int} (h : s ∈ g.second.2) : s.2.length < 64 ∧ ∀ x ∈ s.2, 0 ≤ x ∧ x < (g.marks.2.length : Int) := V.s2 _ (List.mem_map_of_mem h)
theorem Wg.du_of (V : ValidG g.wb) {d : Bool × Due} (h : d ∈ g.dues.2) (b : Bool) (x : Int) (e : d.2 = some (b, x)) : 0 ≤ x ∧ x ≤ 10000000000000000000000000000000000000000 := V.du d.2 (List.mem_map_of_mem h) b x e
theorem check_kinds_sq (V : ValidG g.wb) (p : List Int) : D_check_kinds_k09 (encG g) p = .ok .non p := by
  obtain ⟨o1, e1⟩ := loop_env (i := 4) (fun o => [some (.dat (sqD g.first.1 (g.first.2.map sqI))), some (.dat (sqD g.second.1 (g.second.2.map sqI))), some (.dat (sqI g.marks)), some (.dat (sqD g.dues.1 (g.dues.2.map sqDue))), o, none]) (p := p)
    (body := L_check_kinds_k09_1) (fun _ _ => rfl) (ds := [sqD g.first.1 (g.first.2.map sqI), sqD g.second.1 (g.second.2.map sqI), sqD g.dues.1 (g.dues.2.map sqDue)]) (fun d hd => by
      simp only [List.mem_cons, List.not_mem_nil, or_false] at hd
      rcases hd with rfl | rfl | rfl <;> simp [L_check_kinds_k09_1, mvar]) none
  obtain ⟨o2, e2⟩ := loop_env (i := 4) (fun o => [some (.dat (sqD g.first.1 (g.first.2.map sqI))), some (.dat (sqD g.second.1 (g.second.2.map sqI))), some (.dat (sqI g.marks)), some (.dat (sqD g.dues.1 (g.dues.2.map sqDue))), o, none]) (p := p)
    (body := L_check_kinds_k09_2) (fun _ _ => rfl) (ds := g.first.2.map sqI ++ (g.second.2.map sqI ++ [sqI g.marks])) (fun d hd => by
      have : ∃ s : Bool × List Int, d = sqI s ∧ s.2.length ≤ 1000 := by
        simp only [List.mem_append, List.mem_cons, List.not_mem_nil, or_false] at hd
        rcases hd with h | h | h
        · obtain ⟨ss, hs, e⟩ := List.mem_map.mp h
          exact ⟨ss, e.symm, by have := (Wg.fst_of V hs).1; omega⟩
        · obtain ⟨ss, hs, e⟩ := List.mem_map.mp h
          exact ⟨ss, e.symm, by have := (Wg.snd_of V hs).1; omega⟩
        · exact ⟨_, h, by have := Wg.n2_of V; omega⟩
      obtain ⟨s, rfl, hl⟩ := this
      simp [L_check_kinds_k09_2, mvar, whole_sq s hl]) o1
  obtain ⟨o3, e3⟩ := loop_env (i := 5) (fun o => [some (.dat (sqD g.first.1 (g.first.2.map sqI))), some (.dat (sqD g.second.1 (g.second.2.map sqI))), some (.dat (sqI g.marks)), some (.dat (sqD g.dues.1 (g.dues.2.map sqDue))), o2, o]) (p := p)
    (body := L_check_kinds_k09_3) (fun _ _ => rfl) (ds := g.dues.2.map sqDue) (fun d hd => by
      obtain ⟨x, _, rfl⟩ := List.mem_map.mp hd
      simp [L_check_kinds_k09_3, mvar, check_due_sq]) none
  have h1 := Wg.first_of V
  have h2 := Wg.second_of V
  have h3 := Wg.n2_of V
  have hz : g.marks.2.length + (g.marks.2.length + 1) ≤ 1000 := by omega
  simp [D_check_kinds_k09, denF, dn_check_kinds_k09, b_check_kinds_k09_1, b_check_kinds_k09_2, b_check_kinds_k09_3, locOf, encG, mvar, astar, e1, h1, h2, hz, -List.map_map]
  simp [mvar, e2, e3, -List.map_map]
theorem check_steps_sq (V : ValidG g.wb) (p : List Int) : D_check_steps_k09 [sqD g.first.1 (g.first.2.map sqI), sqD g.second.1 (g.second.2.map sqI)] p = .ok .non p := by
  have key : ∃ l' p', loop (gset2 2 3) L_check_steps_k09_1 (enumD 0 (g.first.2.map sqI)) [some (.dat (sqD g.first.1 (g.first.2.map sqI))), some (.dat (sqD g.second.1 (g.second.2.map sqI))), none, none, none] p = .nx l' p' ∧ (p' = p ∧ ∃ a b e, l' = [some (.dat (sqD g.first.1 (g.first.2.map sqI))), some (.dat (sqD g.second.1 (g.second.2.map sqI))), a, b, e]) := by
    refine loop_run (fun (_ : Nat) (l : Den.Loc) (q : List Int) => q = p ∧ ∃ a b e, l = [some (.dat (sqD g.first.1 (g.first.2.map sqI))), some (.dat (sqD g.second.1 (g.second.2.map sqI))), a, b, e]) (k := 0) ⟨rfl, _, _, _, rfl⟩ fun i d l q hd hI => ?_
    obtain ⟨rfl, a, b, e, rfl⟩ := hI
    have hi : i < g.first.2.length := by
      have := (List.getElem?_eq_some_iff.mp hd).1
      rwa [enumD_len, List.length_map] at this
    have hi2 : i < g.second.2.length := by rw [Wg.second_of V, ← Wg.first_of V]; exact hi
    have g1 : (g.first.2.map sqI)[i]? = some (sqI g.first.2[i]) := by rw [List.getElem?_map, List.getElem?_eq_getElem hi]; rfl
    have g2 : (g.second.2.map sqI)[i]? = some (sqI g.second.2[i]) := by rw [List.getElem?_map, List.getElem?_eq_getElem hi2]; rfl
    have hde := enumD_get (g.first.2.map sqI) 0 i _ g1
    rw [Nat.zero_add, hd] at hde
    cases hde
    have g3 : atI (g.second.2.map sqI) (i : Int) = some (sqI g.second.2[i]) := atI_nat g2
    obtain ⟨z1, y1⟩ := Wg.fst_of V (List.getElem_mem hi)
    obtain ⟨z2, y2⟩ := Wg.snd_of V (List.getElem_mem hi2)
    obtain ⟨o', e1⟩ := loop_env (i := 4) (fun o => [some (.dat (sqD g.first.1 (g.first.2.map sqI))), some (.dat (sqD g.second.1 (g.second.2.map sqI))), some (.dat (.int i)), some (.dat (sqI g.first.2[i])), o]) (p := q)
      (body := L_check_steps_k09_1l1) (fun _ _ => rfl) (ds := (g.first.2[i].2.map D.int) ++ (g.second.2[i].2.map D.int)) (fun d hd => by
        have : ∃ x : Int, d = .int x ∧ 0 ≤ x ∧ x < g.marks.2.length := by
          rcases List.mem_append.mp hd with h | h
          · obtain ⟨x, hx, e⟩ := List.mem_map.mp h
            exact ⟨x, e.symm, y1 x hx⟩
          · obtain ⟨x, hx, e⟩ := List.mem_map.mp h
            exact ⟨x, e.symm, y2 x hx⟩
        obtain ⟨x, rfl, h0, h1⟩ := this
        have n1 : ¬ x < 0 := by omega
        have n2 : ¬ ((g.first.2.length : Int) ≤ x) := by rw [Wg.first_of V]; omega
        simp [L_check_steps_k09_1l1, mvar, n1, n2]) e
    have hb := V.both i _ _ (show (g.first.2.map Prod.snd)[i]? = some g.first.2[i].2 by rw [List.getElem?_map, List.getElem?_eq_getElem hi]; rfl) (show (g.second.2.map Prod.snd)[i]? = some g.second.2[i].2 by rw [List.getElem?_map, List.getElem?_eq_getElem hi2]; rfl)
    have hz : g.first.2[i].2.length + g.second.2[i].2.length ≤ 1000 := by omega
    refine ⟨[some (.dat (sqD g.first.1 (g.first.2.map sqI))), some (.dat (sqD g.second.1 (g.second.2.map sqI))), some (.dat (.int i)), some (.dat (sqI g.first.2[i])), e], by simp [gset2, gset], [some (.dat (sqD g.first.1 (g.first.2.map sqI))), some (.dat (sqD g.second.1 (g.second.2.map sqI))), some (.dat (.int i)), some (.dat (sqI g.first.2[i])), o'], q, .inl ?_, rfl, _, _, _, rfl⟩
    simp [L_check_steps_k09_1, b_check_steps_k09_1l1, b_check_steps_k09_1l2, astar, mvar, g3, hz, e1, hb, fNe, sc, scal]
  obtain ⟨l', p', e, rfl, _⟩ := key
  simp [D_check_steps_k09, denF, dn_check_steps_k09, locOf, mvar, -List.map_map]
  rw [e]
  rfl
theorem check_parts_sq (V : ValidG g.wb) (p : List Int) : D_check_parts_k09 (encG g) p = .ok .non p := by
  have n1 := Wg.n1_of V
  have n2 := Wg.n2_of V
  have l1 := Wg.first_of V
  have l2 := Wg.second_of V
  have l3 := Wg.dues_of V
  obtain ⟨o1, e1⟩ := loop_env (i := 5) (fun o => [some (.dat (sqD g.first.1 (g.first.2.map sqI))), some (.dat (sqD g.second.1 (g.second.2.map sqI))), some (.dat (sqI g.marks)), some (.dat (sqD g.dues.1 (g.dues.2.map sqDue))), some (.dat (.int g.marks.2.length)), o, none]) (p := p)
    (body := L_check_parts_k09_5) (fun _ _ => rfl) (ds := g.marks.2.map .int) (fun d hd => by
      obtain ⟨m, hm, rfl⟩ := List.mem_map.mp hd
      simp [L_check_parts_k09_5, mvar, mark_in m (V.mks m hm)]) none
  obtain ⟨o2, e2⟩ := loop_env (i := 6) (fun o => [some (.dat (sqD g.first.1 (g.first.2.map sqI))), some (.dat (sqD g.second.1 (g.second.2.map sqI))), some (.dat (sqI g.marks)), some (.dat (sqD g.dues.1 (g.dues.2.map sqDue))), some (.dat (.int g.marks.2.length)), o1, o]) (p := p)
    (body := L_check_parts_k09_6) (fun _ _ => rfl) (ds := g.dues.2.map sqDue) (fun d hd => by
      obtain ⟨x, hx, rfl⟩ := List.mem_map.mp hd
      simp [L_check_parts_k09_6, mvar, due_in_range_sq x (fun b y e => (Wg.du_of V hx b y e).1)]) none
  obtain ⟨o3, e3⟩ := loop_env (i := 6) (fun o => [some (.dat (sqD g.first.1 (g.first.2.map sqI))), some (.dat (sqD g.second.1 (g.second.2.map sqI))), some (.dat (sqI g.marks)), some (.dat (sqD g.dues.1 (g.dues.2.map sqDue))), some (.dat (.int g.marks.2.length)), o1, o]) (p := p)
    (body := L_check_parts_k09_8) (fun _ _ => rfl) (ds := g.dues.2.map sqDue) (fun d hd => by
      obtain ⟨x, hx, rfl⟩ := List.mem_map.mp hd
      simp [L_check_parts_k09_8, mvar, due_too_great_sq x (fun b y e => (Wg.du_of V hx b y e).2)]) o2
  have hk := check_kinds_sq V p
  have hs := check_steps_sq V p
  have hm := check_most_ev (g.marks.2.length : Int) 60 p
  rw [if_pos (by omega)] at hm
  have hne : ¬ g.marks.2 = [] := fun z => by rw [z] at n1; simp at n1
  have hrep : fRep (.lst [.int (g.marks.2.length : Int)]) (.int 3) = some (.lst [.int g.marks.2.length, .int g.marks.2.length, .int g.marks.2.length]) := rfl
  simp only [encG] at hk
  simp [D_check_parts_k09, denF, dn_check_parts_k09, b_check_parts_k09_1, b_check_parts_k09_2, b_check_parts_k09_3, b_check_parts_k09_4, b_check_parts_k09_5, b_check_parts_k09_6, b_check_parts_k09_7, b_check_parts_k09_8, locOf, encG, mvar, hk, l1, l2, l3, hne, hrep, fEqD_3, hs, e1, e2, hm, e3, -List.map_map]
end
end PL
namespace PL
open PySem L2 Den
section
variable {g : Wg}
def locW (g : Wg) (o : Option L) : Den.Loc := [o, some (.dat (sqD g.first.1 (g.first.2.map sqI))), some (.dat (sqD g.second.1 (g.second.2.map sqI))), some (.dat (sqI g.marks)), some (.dat (sqD g.dues.1 (g.dues.2.map sqDue))), some (.dat (.int g.marks.2.length)), none, none, none]
theorem wA (V : ValidG g.wb) (p : List Int) (o : Option L) : c_Web_init_k09_1 (locW g o) p = .ok (g.wb.first.map dS) p := by
  have l1 := Wg.first_of V
  have n2 := Wg.n2_of V
  unfold c_Web_init_k09_1
  rw [mcomp_ev (ds := g.first.2.map sqI) (p' := p) (by simp [locW, mvar, -List.map_map]) (by rw [List.length_map]; omega)]
  rw [comp_mapL (by simp [locW]) sqI (fun s => dS s.2) fun s hs => by
    have := Wg.fst_of V hs
    simp [locW, mvar, as_stands_sq s g.marks.2.length this.1 this.2]]
  simp [Wg.wb, List.map_map, Function.comp_def]
theorem wB (V : ValidG g.wb) (p : List Int) (o : Option L) : c_Web_init_k09_2 (locW g o) p = .ok (g.wb.second.map dS) p := by
  have l1 := Wg.second_of V
  have n2 := Wg.n2_of V
  unfold c_Web_init_k09_2
  rw [mcomp_ev (ds := g.second.2.map sqI) (p' := p) (by simp [locW, mvar, -List.map_map]) (by rw [List.length_map]; omega)]
  rw [comp_mapL (by simp [locW]) sqI (fun s => dS s.2) fun s hs => by
    have := Wg.snd_of V hs
    simp [locW, mvar, as_stands_sq s g.marks.2.length this.1 this.2]]
  simp [Wg.wb, List.map_map, Function.comp_def]
theorem wD (V : ValidG g.wb) (p : List Int) (o : Option L) : c_Web_init_k09_3 (locW g o) p = .ok (g.wb.dues.map dDue) p := by
  have l1 := Wg.dues_of V
  have n2 := Wg.n2_of V
  unfold c_Web_init_k09_3
  rw [mcomp_ev (ds := g.dues.2.map sqDue) (p' := p) (by simp [locW, mvar, -List.map_map]) (by rw [List.length_map]; omega)]
  rw [comp_mapL (by simp [locW]) sqDue (fun s => dDue s.2) fun s hs => by
    rcases sqDue_cases s with ⟨e, e2⟩ | ⟨b, x, e, e2⟩
    · simp [locW, mvar, e, e2, dDue]
    · simp [locW, mvar, e, e2, dDue_some]]
  simp [Wg.wb, List.map_map, Function.comp_def]
theorem wG (V : ValidG g.wb) (p : List Int) (o : Option L) : c_Web_init_k09_6 (locW g o) p = .ok (g.wb.dues.map fun d => .int (gdI d)) p := by
  have l1 := Wg.dues_of V
  have n2 := Wg.n2_of V
  unfold c_Web_init_k09_6
  rw [mcomp_ev (ds := g.dues.2.map sqDue) (p' := p) (by simp [locW, mvar, -List.map_map]) (by rw [List.length_map]; omega)]
  rw [comp_mapL (by simp [locW]) sqDue (fun s => .int (gdI s.2)) fun s hs => by
    rcases sqDue_cases s with ⟨e, e2⟩ | ⟨b, x, e, e2⟩
    · simp [locW, mvar, e, e2, gdI]
    · simp [locW, mvar, e, e2, gdI]]
  simp [Wg.wb, List.map_map, Function.comp_def]
theorem wmv (V : ValidG g.wb) : ∀ d ∈ rngD 0 g.marks.2.length, (fIx (sqD g.first.1 (g.first.2.map sqI)) d).bind truOf = some (moves g.wb d) := fun d hd => by
  have l1 := Wg.first_of V
  obtain ⟨i, hi, rfl⟩ := rngD_mem hd
  have hi' : i < g.first.2.length := by omega
  have e1 : atI (g.first.2.map sqI) ((0 : Int) + (i : Int)) = some (sqI g.first.2[i]) := by
    rw [Int.zero_add]
    exact atI_nat (by rw [List.getElem?_map, List.getElem?_eq_getElem hi']; rfl)
  have e2 : atI (g.wb.first.map dI) ((0 : Int) + (i : Int)) = some (dI g.first.2[i].2) := by
    rw [Int.zero_add]
    exact atI_nat (by simp [Wg.wb, List.getElem?_map, List.getElem?_eq_getElem hi'])
  unfold moves
  simp only [fIx_lst, fIx_sq, e1, e2, Option.bind_some, truOf_dI, truOf_sqI]
theorem wmv2 (V : ValidG g.wb) (p : List Int) (o : Option L) (d : D) (hd : d ∈ rngD 0 g.marks.2.length) : mtru (op2 fIx (mvar 1) (mvar 8)) ((locW g o).set 8 (some (.dat d))) p = .ok (moves g.wb d) p := by
  have := wmv V d hd
  have h1 : ((locW g o).set 8 (some (.dat d)))[1]? = some (some (.dat (sqD g.first.1 (g.first.2.map sqI)))) := by simp [locW]
  have h8 : ((locW g o).set 8 (some (.dat d)))[8]? = some (some (.dat d)) := by simp [locW]
  simp only [mtru_ev, op2_ev, mvar_ev h1, mvar_ev h8, bind_ok]
  cases e : fIx (sqD g.first.1 (g.first.2.map sqI)) d with
  | none => rw [e] at this; cases this
  | some y =>
    rw [e] at this
    simp only [Option.bind_some] at this
    simp [this]
theorem wrng (V : ValidG g.wb) (p : List Int) (o : Option L) : (mbind (acons (mvar 5) anil) fun x => mlift (rng1 x)) (locW g o) p = .ok (rngD 0 g.marks.2.length) p := by
  have n2 := Wg.n2_of V
  have hr : rng1 [D.int (g.marks.2.length : Int)] = some (rngD 0 g.marks.2.length) := by
    have h := rng1_int (n := (g.marks.2.length : Int)) (by omega)
    rw [Int.toNat_natCast] at h
    exact h
  have h5 : (locW g o)[5]? = some (some (.dat (.int g.marks.2.length))) := by simp [locW]
  simp only [mbind_ev, acons_ev, mvar_ev h5, bind_ok, anil_ev, hr, mlift_some]
theorem wE (V : ValidG g.wb) (p : List Int) (o : Option L) : c_Web_init_k09_4 (locW g o) p = .ok ((rngD 0 g.marks.2.length).filter fun d => !moves g.wb d) p := by
  have n2 := Wg.n2_of V
  refine (mcomp_ev (wrng V p o) (by rw [rngD_len]; omega)).trans ?_
  refine comp_filter (by simp [locW]) _ (fun d hd => ?_) fun d hd => mvar_ev (by simp [locW])
  rw [mnot_ev, wmv2 V p o d hd]
  rfl
theorem wM (V : ValidG g.wb) (p : List Int) (o : Option L) : c_Web_init_k09_5 (locW g o) p = .ok ((rngD 0 g.marks.2.length).filter fun d => moves g.wb d) p := by
  have n2 := Wg.n2_of V
  refine (mcomp_ev (wrng V p o) (by rw [rngD_len]; omega)).trans ?_
  refine comp_filter (by simp [locW]) _ (fun d hd => ?_) fun d hd => mvar_ev (by simp [locW])
  exact wmv2 V p o d hd
theorem wgd (V : ValidG g.wb) : fMaxL [.lst (g.wb.dues.map fun d => .int (gdI d))] = some (gdD g.wb) := by
  have n1 := V.n1
  have l3 := V.l3
  have e : intsOf (g.wb.dues.map fun d => D.int (gdI d)) = some (g.wb.dues.map gdI) := by
    have := intsOf_map (g.wb.dues.map gdI)
    rwa [List.map_map] at this
  show (intsOf (g.wb.dues.map fun d => D.int (gdI d))).bind mostOf = some (gdD g.wb)
  rw [e]
  unfold gdD
  cases e2 : g.wb.dues.map gdI with
  | nil =>
    have h0 : g.wb.dues.length = 0 := by rw [← List.length_map (f := gdI), e2]; rfl
    omega
  | cons n ns => rfl
theorem initG_eval (V : ValidG g.wb) (x : Addr) (A : CA) (p : List Int) : denI x A.Web 5 9 (dn_Web_init_k09 A) (encG g) p = .ok (wnames, wfields g.wb) p := by
  have hp := check_parts_sq V p
  simp only [encG] at hp
  unfold denI
  rw [if_pos (show (encG g).length + 1 = 5 from rfl)]
  show outI x A.Web (dn_Web_init_k09 A ((locW g (some (.obj x A.Web [] []))).set 5 none) p) = _
  unfold dn_Web_init_k09
  rw [seq_nx (l' := (locW g (some (.obj x A.Web [] []))).set 5 none) (p' := p) (by simp [b_Web_init_k09_01, locW, mvar, hp, -List.map_map])]
  rw [seq_nx (l' := locW g (some (.obj x A.Web [] []))) (p' := p) (by simp [b_Web_init_k09_02, locW, mvar, -List.map_map])]
  have s0 : ∀ (o q : Option L), (locW g o).set 0 q = locW g q := fun _ _ => rfl
  have h0 : ∀ o, (locW g (some o))[0]? = some (some o) := fun _ => rfl
  rw [seq_nx (sfldO_ev (x := .int g.marks.2.length) (p' := p) (by simp [locW, mvar]) (h0 _) ⟨rfl, by decide, by decide +kernel⟩)]
  simp only [s0, List.nil_append, List.cons_append]
  unfold b_Web_init_k09_04
  rw [seq_nx (sfldO_ev (x := .tup (g.wb.first.map dS)) (p' := p) (by simp [wA V p]) (h0 _) ⟨rfl, by decide, by decide +kernel⟩)]
  simp only [s0, List.nil_append, List.cons_append]
  unfold b_Web_init_k09_05
  rw [seq_nx (sfldO_ev (x := .tup (g.wb.second.map dS)) (p' := p) (by simp [wB V p]) (h0 _) ⟨rfl, by decide, by decide +kernel⟩)]
  simp only [s0, List.nil_append, List.cons_append]
  unfold b_Web_init_k09_06
  rw [seq_nx (sfldO_ev (x := .tup (g.wb.marks.map .int)) (p' := p) (by simp [locW, mvar, Wg.wb]) (h0 _) ⟨rfl, by decide, by decide +kernel⟩)]
  simp only [s0, List.nil_append, List.cons_append]
  unfold b_Web_init_k09_07
  rw [seq_nx (sfldO_ev (x := .tup (g.wb.dues.map dDue)) (p' := p) (by simp [wD V p]) (h0 _) ⟨rfl, by decide, by decide +kernel⟩)]
  simp only [s0, List.nil_append, List.cons_append]
  unfold b_Web_init_k09_08
  rw [seq_nx (sfldO_ev (x := .tup ((rngD 0 g.marks.2.length).filter fun d => !moves g.wb d)) (p' := p) (by simp [wE V p]) (h0 _) ⟨rfl, by decide, by decide +kernel⟩)]
  simp only [s0, List.nil_append, List.cons_append]
  unfold b_Web_init_k09_09
  rw [seq_nx (sfldO_ev (x := .tup ((rngD 0 g.marks.2.length).filter fun d => moves g.wb d)) (p' := p) (by simp [wM V p]) (h0 _) ⟨rfl, by decide, by decide +kernel⟩)]
  simp only [s0, List.nil_append, List.cons_append]
  unfold b_Web_init_k09_10
  rw [seq_nx (sfldO_ev (x := gdD g.wb) (p' := p) (by simp [wG V p, wgd V]) (h0 _) ⟨rfl, by decide, by decide +kernel⟩)]
  simp only [s0, List.nil_append, List.cons_append]
  unfold b_Web_init_k09_11
  rw [sfldO_ev (x := .bl (evB g.wb)) (p' := p) (by
    have b1 : (("_first" : Str) == "_size") = false := by decide +kernel
    have b2 : (("_second" : Str) == "_size") = false := by decide +kernel
    have b3 : (("_second" : Str) == "_first") = false := by decide +kernel
    simp [mfldO, h0, List.lookup, b1, b2, b3, even_ev]) (h0 _) ⟨rfl, by decide, by decide +kernel⟩]
  simp only [s0, List.nil_append, List.cons_append]
  unfold outI
  simp [wnames, wfields, Wg.wb, locW]
end
theorem D_Web_init_k09_len (A : CA) : ∀ ds pot, D_Web_init_k09 A ds pot ≠ .bad → ds.length + 1 = 5 := fun ds pot h => by
  unfold D_Web_init_k09 at h
  split at h
  · rename_i z
    obtain ⟨g, _, rfl⟩ := z
    rfl
  · exact absurd rfl h
theorem D_Web_init_k09_is (A : CA) : ∀ x ds pot, ds.length + 1 = 5 → D_Web_init_k09 A ds pot ≠ .bad → denI x A.Web 5 9 (dn_Web_init_k09 A) ds pot = D_Web_init_k09 A ds pot := fun x ds pot _ h => by
  unfold D_Web_init_k09 at h ⊢
  split
  · rename_i z
    obtain ⟨V, e⟩ := Classical.choose_spec z
    have q := initG_eval V x A pot
    rw [← e] at q
    exact q
  · rename_i z
    rw [dif_neg z] at h
    exact absurd rfl h
theorem Web_init_ev {g : Wg} (V : ValidG g.wb) (A : CA) (p : List Int) : D_Web_init_k09 A (encG g) p = .ok (wnames, wfields g.wb) p := by
  have hz : ∃ g', ValidG (Wg.wb g') ∧ encG g = encG g' := ⟨g, V, rfl⟩
  have h : D_Web_init_k09 A (encG g) p ≠ .bad := by
    unfold D_Web_init_k09
    rw [dif_pos hz]
    exact fun z => nomatch z
  rw [← D_Web_init_k09_is A 0 (encG g) p rfl h]
  exact initG_eval V 0 A p
theorem Valid.g {wb : Wb} (V : Valid wb) : ValidG wb := ⟨V.n1, V.n2, V.l1, V.l2, V.l3, fun ss h => ⟨by have := (V.s1 ss h).1; omega, (V.s1 ss h).2⟩, fun ss h => ⟨by have := (V.s2 ss h).1; omega, (V.s2 ss h).2⟩, V.both, V.mks, fun d h b x e => by have := V.du d h b x e; omega⟩
end PL
namespace K10
open PySem L2 Den PL
noncomputable section
variable {c : Cfg} {P : Program} {w : World} {mg : Str → Option Value} {base : Heap} {A : Adr}
theorem ok_is_integer (T : Txt c mg A) : FnR P w c.K mg base (L2.CX P w) 1 A.is_integer (spD c (D_is_integer)) :=
  fn_ss (N := Nn_is_integer) (ps := ["thing"]) (s := dn_is_integer) T.F_is_integer sc_is_integer (T.F_is_integer.binds (ps := ["thing"]) fun _ _ _ _ _ _ us hl => match us, hl with | [_], _ => rfl) fun cdv A_ outer sh H E' hr => ⟨(tRet (tAndV (tCB (rIsi c.K) (tCons (tVar 0) (tCons (tC (V.ty "int")) tNil))) (tNotV (tCB (rIsi c.K) (tCons (tVar 0) (tCons (tC (V.ty "bool")) tNil)))))),
    (pss_one (ps_ret (pe_and (pe_callB call_isi (by rfl) T.n_isinstance (by decide +kernel) (pa_cons (pv 0) (pa_cons (pe_bltn (v := V.ty "int") (by rfl) T.n_int (by decide +kernel) rfl) pa_nil))) (pe_one (pe_not (pe_callB call_isi (by rfl) T.n_isinstance (by decide +kernel) (pa_cons (pv 0) (pa_cons (pe_bltn (v := V.ty "bool") (by rfl) T.n_bool (by decide +kernel) rfl) pa_nil)))))))),
    (ss_ret (se_and (se_cb sn_is1 (sa_cons se_var (sa_cons (se_c fun _ _ => At.ty Ty.int) sa_nil))) (se_not (se_cb sn_is1 (sa_cons se_var (sa_cons (se_c fun _ _ => At.ty Ty.bl) sa_nil))))))⟩
theorem ok_check_whole (T : Txt c mg A) : FnR P w c.K mg base (L2.CX P w) 2 A.check_whole (spD c (D_check_whole)) :=
  fn_star_ss (N := Nn_check_whole) (pv := "things") (s := dn_check_whole) T.F_check_whole sc_check_whole (fun _ _ _ _ _ _ rest => by cases rest <;> rfl) fun cdv A_ outer sh H E' hr => ⟨(tFor (iTup c.K (tVar 0)) (gName 1) (tIfS (tNot (fun σ H Q => (tCallS (spD c D_is_integer) (fun _ => E') (tCons (tVar 1) tNil)) σ H fun x H' => ∃ k, TruV c.K x H' k ∧ Q k H')) (fun _ σ H => E' (Value.ref (c.ec 0)) none H) tNext)),
    (pss_one (ps_for (passes_of rfl) rfl (pi_tup (pv 0)) (pg_name (i := 1) sc_check_whole.nd rfl (by first | exact Or.inl rfl | exact Or.inr rfl)) (pss_one (ps_if (pt_not (pt_truth (pe_callRS (ok_is_integer T) (hr.mono (by decide)) (by rfl) T.m_is_integer T.F_is_integer.kp (passE (takes_of rfl rfl rfl rfl)) (pa_cons (pv 1) pa_nil)) (by intro _; rfl))) (pss_one (ps_raise rfl (takes_of rfl rfl rfl rfl) (pmk_own PySem.F.excBase_Exception T.xE0 T.mE0 T.kE0 (raises_own T.bE0 T.tE0) (by exact rfl)))) pss_nil)))),
    (ss_for (si_tup se_var) sg_name (ss_if (st_not (st_tru (se_call (sa_cons se_var sa_nil)))) (ss_raise (n := 0)) ss_next))⟩
theorem ok_whole_list (T : Txt c mg A) : FnR P w c.K mg base (L2.CX P w) 3 A.whole_list (spD c (D_whole_list)) :=
  fn_ss (N := Nn_whole_list) (ps := ["thing"]) (s := dn_whole_list) T.F_whole_list sc_whole_list (T.F_whole_list.binds (ps := ["thing"]) fun _ _ _ _ _ _ us hl => match us, hl with | [_], _ => rfl) fun cdv A_ outer sh H E' hr => ⟨(tSeq (tIfS (tNot (fun σ H Q => (tCB (rIsiT c.K) (tCons (tVar 0) (tCons (tTup (tCons (tC (V.ty "list")) (tCons (tC (V.ty "tuple")) tNil))) tNil))) σ H fun x H' => ∃ k, TruV c.K x H' k ∧ Q k H')) (fun _ σ H => E' (Value.ref (c.ec 0)) none H) tNext)
    (tSeq (tDrop (tCallStar c.K (spD c D_check_whole) (fun _ => E') (tVar 0)))
    (tRet (tCB (rTupleF c.K) (tCons (tVar 0) tNil))))),
    (pss_cons (ps_if (pt_not (pt_truth (pe_callB call_isiT (by rfl) T.n_isinstance (by decide +kernel) (pa_cons (pv 0) (pa_cons (pe_tup (pa_cons (pe_bltn (v := V.ty "list") (by rfl) T.n_list (by decide +kernel) rfl) (pa_cons (pe_bltn (v := V.ty "tuple") (by rfl) T.n_tuple (by decide +kernel) rfl) pa_nil))) pa_nil))) (by intro _; rfl))) (pss_one (ps_raise rfl (takes_of rfl rfl rfl rfl) (pmk_own PySem.F.excBase_Exception T.xE0 T.mE0 T.kE0 (raises_own T.bE0 T.tE0) (by exact rfl)))) pss_nil)
    (pss_cons (ps_expr (pe_callStar (ok_check_whole T) (hr.mono (by decide)) T.F_check_whole.kp (by rfl) T.m_check_whole (passE (takes_of rfl rfl rfl rfl)) (pv 0)))
    (pss_one (ps_ret (pe_callTy call_tuple_of (by rfl) T.n_tuple (by decide +kernel) (pa_cons (pv 0) pa_nil)))))),
    (ss_seq (ss_if (st_not (st_tru (se_cb sn_is2 (sa_cons se_var (sa_cons (se_tup (sa_cons (se_c fun _ _ => At.ty Ty.lst) (sa_cons (se_c fun _ _ => At.ty Ty.tup) sa_nil))) sa_nil))))) (ss_raise (n := 0)) ss_next)
    (ss_seq (ss_drop (se_star se_var))
    (ss_ret (se_cb sn_tuple (sa_cons se_var sa_nil)))))⟩
theorem ok_check_range (T : Txt c mg A) : FnR P w c.K mg base (L2.CX P w) 1 A.check_range (spD c (D_check_range)) :=
  fn_ss (N := Nn_check_range) (ps := ["number", "least", "most"]) (s := dn_check_range) T.F_check_range sc_check_range (T.F_check_range.binds (ps := ["number", "least", "most"]) fun _ _ _ _ _ _ us hl => match us, hl with | [_, _, _], _ => rfl) fun cdv A_ outer sh H E' hr => ⟨(tIfS (tOr (tTest (tOp (rI0 fun i j => V.bl (decide (i < j))) (tVar 0) (tVar 1))) (tTest (tOp (rI0 fun i j => V.bl (decide (j < i))) (tVar 0) (tVar 2)))) (fun _ σ H => E' (Value.ref (c.ec 1)) none H) tNext),
    (pss_one (ps_if (PW.pt (pw_or (pt_cmpR op_lt (pv 0) (pv 1) (nomark _)) (pw_or1 (pt_cmpR op_gt (pv 0) (pv 2) (nomark _))))) (pss_one (ps_raise rfl (takes_of rfl rfl rfl rfl) (pmk_own PySem.F.excBase_Exception T.xE1 T.mE1 T.kE1 (raises_own T.bE1 T.tE1) (by exact rfl)))) pss_nil)),
    (ss_if (st_or (st_test (se_op2 s2_lt se_var se_var)) (st_test (se_op2 s2_gt se_var se_var))) (ss_raise (n := 1)) ss_next)⟩
theorem ok_check_least (T : Txt c mg A) : FnR P w c.K mg base (L2.CX P w) 1 A.check_least (spD c (D_check_least)) :=
  fn_ss (N := Nn_check_least) (ps := ["number", "least"]) (s := dn_check_least) T.F_check_least sc_check_least (T.F_check_least.binds (ps := ["number", "least"]) fun _ _ _ _ _ _ us hl => match us, hl with | [_, _], _ => rfl) fun cdv A_ outer sh H E' hr => ⟨(tIfS (tTest (tOp (rI0 fun i j => V.bl (decide (i < j))) (tVar 0) (tVar 1))) (fun _ σ H => E' (Value.ref (c.ec 1)) none H) tNext),
    (pss_one (ps_if (pt_cmpR op_lt (pv 0) (pv 1) (nomark _)) (pss_one (ps_raise rfl (takes_of rfl rfl rfl rfl) (pmk_own PySem.F.excBase_Exception T.xE1 T.mE1 T.kE1 (raises_own T.bE1 T.tE1) (by exact rfl)))) pss_nil)),
    (ss_if (st_test (se_op2 s2_lt se_var se_var)) (ss_raise (n := 1)) ss_next)⟩
theorem ok_check_one_or_two (T : Txt c mg A) : FnR P w c.K mg base (L2.CX P w) 1 A.check_one_or_two (spD c (D_check_one_or_two)) :=
  fn_ss (N := Nn_check_one_or_two) (ps := ["number"]) (s := dn_check_one_or_two) T.F_check_one_or_two sc_check_one_or_two (T.F_check_one_or_two.binds (ps := ["number"]) fun _ _ _ _ _ _ us hl => match us, hl with | [_], _ => rfl) fun cdv A_ outer sh H E' hr => ⟨(tIfS (tTest (tOp (rIn c.K true) (tVar 0) (tTup (tCons (tC (V.int 1)) (tCons (tC (V.int 2)) tNil))))) (fun _ σ H => E' (Value.ref (c.ec 1)) none H) tNext),
    (pss_one (ps_if (pt_cmpR op_notIn_seq (pv 0) (pe_tup (pa_cons pe_int (pa_cons pe_int pa_nil))) rfl) (pss_one (ps_raise rfl (takes_of rfl rfl rfl rfl) (pmk_own PySem.F.excBase_Exception T.xE1 T.mE1 T.kE1 (raises_own T.bE1 T.tE1) (by exact rfl)))) pss_nil)),
    (ss_if (st_test (se_op2 s2_in se_var (se_tup (sa_cons se_int (sa_cons se_int sa_nil))))) (ss_raise (n := 1)) ss_next)⟩
theorem ok_check_most (T : Txt c mg A) : FnR P w c.K mg base (L2.CX P w) 1 A.check_most (spD c (D_check_most)) :=
  fn_ss (N := Nn_check_most) (ps := ["number", "most"]) (s := dn_check_most) T.F_check_most sc_check_most (T.F_check_most.binds (ps := ["number", "most"]) fun _ _ _ _ _ _ us hl => match us, hl with | [_, _], _ => rfl) fun cdv A_ outer sh H E' hr => ⟨(tIfS (tTest (tOp (rI0 fun i j => V.bl (decide (j < i))) (tVar 0) (tVar 1))) (fun _ σ H => E' (Value.ref (c.ec 3)) none H) tNext),
    (pss_one (ps_if (pt_cmpR op_gt (pv 0) (pv 1) (nomark _)) (pss_one (ps_raise rfl (takes_of rfl rfl rfl rfl) (pmk_own PySem.F.excBase_Exception T.xE3 T.mE3 T.kE3 (raises_own T.bE3 T.tE3) (by exact rfl)))) pss_nil)),
    (ss_if (st_test (se_op2 s2_gt se_var se_var)) (ss_raise (n := 3)) ss_next)⟩
theorem ok_as_stands (T : Txt c mg A) : FnR P w c.K mg base (L2.CX P w) 4 A.as_stands (spD c (D_as_stands)) :=
  fn_ss (N := Nn_as_stands) (ps := ["thing", "size"]) (s := dn_as_stands) T.F_as_stands sc_as_stands (T.F_as_stands.binds (ps := ["thing", "size"]) fun _ _ _ _ _ _ us hl => match us, hl with | [_, _], _ => rfl) fun cdv A_ outer sh H E' hr => ⟨(tSeq (tAsg (tCallS (spD c D_whole_list) (fun _ => E') (tCons (tVar 0) tNil)) (gName 2))
    (tSeq (tFor (iTup c.K (tVar 2)) (gName 3) (tDrop (tCallS (spD c D_check_range) (fun _ => E') (tCons (tVar 3) (tCons (tC (V.int 0)) (tCons (tOp (rI0 fun i j => V.int (i - j)) (tVar 1) (tC (V.int 1))) tNil))))))
    (tRet (tCB (rTupleF c.K) (tCons (tCB (rSortedSet w) (tCons (tCB (rSetI c.K w) (tCons (tVar 2) tNil)) tNil)) tNil))))),
    (pss_cons (ps_asg (pe_callRS (ok_whole_list T) (hr.mono (by decide)) (by rfl) T.m_whole_list T.F_whole_list.kp (passE (takes_of rfl rfl rfl rfl)) (pa_cons (pv 0) pa_nil)) (pg_name (i := 2) sc_as_stands.nd rfl (by first | exact Or.inl rfl | exact Or.inr rfl)))
    (pss_cons (ps_for (passes_of rfl) rfl (pi_tup (pv 2)) (pg_name (i := 3) sc_as_stands.nd rfl (by first | exact Or.inl rfl | exact Or.inr rfl)) (pss_one (ps_expr (pe_callRS (ok_check_range T) (hr.mono (by decide)) (by rfl) T.m_check_range T.F_check_range.kp (passE (takes_of rfl rfl rfl rfl)) (pa_cons (pv 3) (pa_cons pe_int (pa_cons (pe_op op_sub (pv 1) pe_int) pa_nil)))))))
    (pss_one (ps_ret (pe_callTy call_tuple_of (by rfl) T.n_tuple (by decide +kernel) (pa_cons (pe_callB (cr_sortedSet rfl) (by rfl) T.n_sorted (by decide +kernel) (pa_cons (pe_callTy (cr_setI rfl) (by rfl) T.n_set (by decide +kernel) (pa_cons (pv 2) pa_nil)) pa_nil)) pa_nil)))))),
    (ss_seq (ss_asg (se_call (sa_cons se_var sa_nil)) sg_name)
    (ss_seq (ss_for (si_tup se_var) sg_name (ss_drop (se_call (sa_cons se_var (sa_cons se_int (sa_cons (se_op2 s2_sub se_var se_int) sa_nil))))))
    (ss_ret (se_cb sn_tuple (sa_cons (se_sortSet se_var) sa_nil)))))⟩
theorem ok_is_due (T : Txt c mg A) : FnR P w c.K mg base (L2.CX P w) 2 A.is_due (spD c (D_is_due)) :=
  fn_ss (N := Nn_is_due) (ps := ["due"]) (s := dn_is_due) T.F_is_due sc_is_due (T.F_is_due.binds (ps := ["due"]) fun _ _ _ _ _ _ us hl => match us, hl with | [_], _ => rfl) fun cdv A_ outer sh H E' hr => ⟨(tSeq (tIfS (tTest (tOp rIsNF (tVar 0) (tC V.non))) (tRet (tC (V.bl true))) tNext)
    (tSeq (tIfS (tOr (tNot (fun σ H Q => (tCB (rIsiT c.K) (tCons (tVar 0) (tCons (tTup (tCons (tC (V.ty "list")) (tCons (tC (V.ty "tuple")) tNil))) tNil))) σ H fun x H' => ∃ k, TruV c.K x H' k ∧ Q k H')) (tTest (tOp rNe (tCB (rLenS c.K) (tCons (tVar 0) tNil)) (tC (V.int 2))))) (tRet (tC (V.bl false))) tNext)
    (tRet (tAndV (tCB (rIsi c.K) (tCons (tOp (rIx c.K) (tVar 0) (tC (V.int 0))) (tCons (tC (V.ty "str")) tNil))) (tCallS (spD c D_is_integer) (fun _ => E') (tCons (tOp (rIx c.K) (tVar 0) (tC (V.int 1))) tNil)))))),
    (pss_cons (ps_if (pt_cmpR op_isN (pv 0) pe_non (nomark _)) (pss_one (ps_ret pe_bl)) pss_nil)
    (pss_cons (ps_if (PW.pt (pw_or (pt_not (pt_truth (pe_callB call_isiT (by rfl) T.n_isinstance (by decide +kernel) (pa_cons (pv 0) (pa_cons (pe_tup (pa_cons (pe_bltn (v := V.ty "list") (by rfl) T.n_list (by decide +kernel) rfl) (pa_cons (pe_bltn (v := V.ty "tuple") (by rfl) T.n_tuple (by decide +kernel) rfl) pa_nil))) pa_nil))) (by intro _; rfl))) (pw_or1 (pt_cmpR op_ne (pe_callB call_len_seq (by rfl) T.n_len (by decide +kernel) (pa_cons (pv 0) pa_nil)) pe_int (nomark _))))) (pss_one (ps_ret pe_bl)) pss_nil)
    (pss_one (ps_ret (pe_and (pe_callB call_isi (by rfl) T.n_isinstance (by decide +kernel) (pa_cons (pe_ix ix_seq (pv 0) pe_int (fun _ _ => rfl)) (pa_cons (pe_bltn (v := V.ty "str") (by rfl) T.n_str (by decide +kernel) rfl) pa_nil))) (pe_one (pe_callRS (ok_is_integer T) (hr.mono (by decide)) (by rfl) T.m_is_integer T.F_is_integer.kp (passE (takes_of rfl rfl rfl rfl)) (pa_cons (pe_ix ix_seq (pv 0) pe_int (fun _ _ => rfl)) pa_nil)))))))),
    (ss_seq (ss_if (st_test (se_op2 s2_isN se_var se_non)) (ss_ret se_bl) ss_next)
    (ss_seq (ss_if (st_or (st_not (st_tru (se_cb sn_is2 (sa_cons se_var (sa_cons (se_tup (sa_cons (se_c fun _ _ => At.ty Ty.lst) (sa_cons (se_c fun _ _ => At.ty Ty.tup) sa_nil))) sa_nil))))) (st_test (se_op2 s2_ne (se_cb sn_len (sa_cons se_var sa_nil)) se_int))) (ss_ret se_bl) ss_next)
    (ss_ret (se_and (se_cb sn_is1 (sa_cons (se_op2 s2_ix se_var se_int) (sa_cons (se_c fun _ _ => At.ty Ty.str) sa_nil))) (se_call (sa_cons (se_op2 s2_ix se_var se_int) sa_nil))))))⟩
theorem ok_due_in_range (T : Txt c mg A) : FnR P w c.K mg base (L2.CX P w) 1 A.due_in_range (spD c (D_due_in_range)) :=
  fn_ss (N := Nn_due_in_range) (ps := ["due"]) (s := dn_due_in_range) T.F_due_in_range sc_due_in_range (T.F_due_in_range.binds (ps := ["due"]) fun _ _ _ _ _ _ us hl => match us, hl with | [_], _ => rfl) fun cdv A_ outer sh H E' hr => ⟨(tRet (tOrV (tOp rIsNF (tVar 0) (tC V.non)) (tAndV (tOp (rIn c.K false) (tOp (rIx c.K) (tVar 0) (tC (V.int 0))) (tTup (tCons (tC (V.str "chips")) (tCons (tC (V.str "less")) tNil)))) (tOp (rI0 fun i j => V.bl (decide (j ≤ i))) (tOp (rIx c.K) (tVar 0) (tC (V.int 1))) (tC (V.int 0)))))),
    (pss_one (ps_ret (pe_or (pe_cmpR op_isN (pv 0) pe_non (nomark _)) (pe_one (pe_and (pe_cmpR op_in_seq (pe_ix ix_seq (pv 0) pe_int (fun _ _ => rfl)) (pe_tup (pa_cons pe_str (pa_cons pe_str pa_nil))) rfl) (pe_one (pe_cmpR op_ge (pe_ix ix_seq (pv 0) pe_int (fun _ _ => rfl)) pe_int (nomark _)))))))),
    (ss_ret (se_or (se_op2 s2_isN se_var se_non) (se_and (se_op2 s2_in (se_op2 s2_ix se_var se_int) (se_tup (sa_cons se_str (sa_cons se_str sa_nil)))) (se_op2 s2_ge (se_op2 s2_ix se_var se_int) se_int))))⟩
theorem ok_due_too_great (T : Txt c mg A) : FnR P w c.K mg base (L2.CX P w) 1 A.due_too_great (spD c (D_due_too_great)) :=
  fn_ss (N := Nn_due_too_great) (ps := ["due"]) (s := dn_due_too_great) T.F_due_too_great sc_due_too_great (T.F_due_too_great.binds (ps := ["due"]) fun _ _ _ _ _ _ us hl => match us, hl with | [_], _ => rfl) fun cdv A_ outer sh H E' hr => ⟨(tRet (tAndV (tOp rNotNF (tVar 0) (tC V.non)) (tOp (rI0 fun i j => V.bl (decide (j < i))) (tOp (rIx c.K) (tVar 0) (tC (V.int 1))) (tC (V.int 10000000000000000000000000000000000000000))))),
    (pss_one (ps_ret (pe_and (pe_cmpR op_notN (pv 0) pe_non (nomark _)) (pe_one (pe_cmpR op_gt (pe_ix ix_seq (pv 0) pe_int (fun _ _ => rfl)) (pe_gint (by rfl) T.c_GREATEST) (nomark _)))))),
    (ss_ret (se_and (se_op2 s2_notN se_var se_non) (se_op2 s2_gt (se_op2 s2_ix se_var se_int) se_int)))⟩
theorem ok_check_due (T : Txt c mg A) : FnR P w c.K mg base (L2.CX P w) 3 A.check_due (spD c (D_check_due)) :=
  fn_ss (N := Nn_check_due) (ps := ["due"]) (s := dn_check_due) T.F_check_due sc_check_due (T.F_check_due.binds (ps := ["due"]) fun _ _ _ _ _ _ us hl => match us, hl with | [_], _ => rfl) fun cdv A_ outer sh H E' hr => ⟨(tIfS (tNot (fun σ H Q => (tCallS (spD c D_is_due) (fun _ => E') (tCons (tVar 0) tNil)) σ H fun x H' => ∃ k, TruV c.K x H' k ∧ Q k H')) (fun _ σ H => E' (Value.ref (c.ec 0)) none H) tNext),
    (pss_one (ps_if (pt_not (pt_truth (pe_callRS (ok_is_due T) (hr.mono (by decide)) (by rfl) T.m_is_due T.F_is_due.kp (passE (takes_of rfl rfl rfl rfl)) (pa_cons (pv 0) pa_nil)) (by intro _; rfl))) (pss_one (ps_raise rfl (takes_of rfl rfl rfl rfl) (pmk_own PySem.F.excBase_Exception T.xE0 T.mE0 T.kE0 (raises_own T.bE0 T.tE0) (by exact rfl)))) pss_nil)),
    (ss_if (st_not (st_tru (se_call (sa_cons se_var sa_nil)))) (ss_raise (n := 0)) ss_next)⟩
theorem ok_due_at (T : Txt c mg A) : FnR P w c.K mg base (L2.CX P w) 1 A.due_at (spD c (D_due_at)) :=
  fn_ss (N := Nn_due_at) (ps := ["due", "k"]) (s := dn_due_at) T.F_due_at sc_due_at (T.F_due_at.binds (ps := ["due", "k"]) fun _ _ _ _ _ _ us hl => match us, hl with | [_, _], _ => rfl) fun cdv A_ outer sh H E' hr => ⟨(tSeq (tIfS (tTest (tOp rIsNF (tVar 0) (tC V.non))) (tRet (tOp (rI0 fun i j => V.int (i + j)) (tVar 1) (tC (V.int 1)))) tNext)
    (tSeq (tIfS (tTest (tOp rEq (tOp (rIx c.K) (tVar 0) (tC (V.int 0))) (tC (V.str "chips")))) (tRet (tCB rMin2F (tCons (tOp (rIx c.K) (tVar 0) (tC (V.int 1))) (tCons (tOp (rI0 fun i j => V.int (i + j)) (tVar 1) (tC (V.int 1))) tNil)))) tNext)
    (tRet (tCB rMax2F (tCons (tC (V.int 0)) (tCons (tOp (rI0 fun i j => V.int (i - j)) (tOp (rI0 fun i j => V.int (i + j)) (tVar 1) (tC (V.int 1))) (tOp (rIx c.K) (tVar 0) (tC (V.int 1)))) tNil)))))),
    (pss_cons (ps_if (pt_cmpR op_isN (pv 0) pe_non (nomark _)) (pss_one (ps_ret (pe_op op_add (pv 1) pe_int))) pss_nil)
    (pss_cons (ps_if (pt_cmpR op_eq (pe_ix ix_seq (pv 0) pe_int (fun _ _ => rfl)) pe_str (nomark _)) (pss_one (ps_ret (pe_callB (call_min2 rfl) (by rfl) T.n_min (by decide +kernel) (pa_cons (pe_ix ix_seq (pv 0) pe_int (fun _ _ => rfl)) (pa_cons (pe_op op_add (pv 1) pe_int) pa_nil))))) pss_nil)
    (pss_one (ps_ret (pe_callB (call_max2 rfl) (by rfl) T.n_max (by decide +kernel) (pa_cons pe_int (pa_cons (pe_op op_sub (pe_op op_add (pv 1) pe_int) (pe_ix ix_seq (pv 0) pe_int (fun _ _ => rfl))) pa_nil))))))),
    (ss_seq (ss_if (st_test (se_op2 s2_isN se_var se_non)) (ss_ret (se_op2 s2_add se_var se_int)) ss_next)
    (ss_seq (ss_if (st_test (se_op2 s2_eq (se_op2 s2_ix se_var se_int) se_str)) (ss_ret (se_cb sn_min2 (sa_cons (se_op2 s2_ix se_var se_int) (sa_cons (se_op2 s2_add se_var se_int) sa_nil)))) ss_next)
    (ss_ret (se_cb sn_max2 (sa_cons se_int (sa_cons (se_op2 s2_sub (se_op2 s2_add se_var se_int) (se_op2 s2_ix se_var se_int)) sa_nil))))))⟩
theorem ok_check_kinds (T : Txt c mg A) : FnR P w c.K mg base (L2.CX P w) 4 A.check_kinds (spD c (D_check_kinds_k09)) :=
  fn_ss (N := Nn_check_kinds) (ps := ["first", "second", "marks", "dues"]) (s := dn_check_kinds_k09) T.F_check_kinds sc_check_kinds (T.F_check_kinds.binds (ps := ["first", "second", "marks", "dues"]) fun _ _ _ _ _ _ us hl => match us, hl with | [_, _, _, _], _ => rfl) fun cdv A_ outer sh H E' hr => ⟨(tSeq (tFor (iTup c.K (tTup (tCons (tVar 0) (tCons (tVar 1) (tCons (tVar 3) tNil))))) (gName 4) (tIfS (tNot (fun σ H Q => (tCB (rIsiT c.K) (tCons (tVar 4) (tCons (tTup (tCons (tC (V.ty "list")) (tCons (tC (V.ty "tuple")) tNil))) tNil))) σ H fun x H' => ∃ k, TruV c.K x H' k ∧ Q k H')) (fun _ σ H => E' (Value.ref (c.ec 0)) none H) tNext))
    (tSeq (tFor (iTup c.K (tTup (StX.tStar c.K (tVar 0) (StX.tStar c.K (tVar 1) (tCons (tVar 2) tNil))))) (gName 4) (tDrop (tCallS (spD c D_whole_list) (fun _ => E') (tCons (tVar 4) tNil))))
    (tFor (iSeq c.K (tVar 3)) (gName 5) (tDrop (tCallS (spD c D_check_due) (fun _ => E') (tCons (tVar 5) tNil)))))),
    (pss_cons (ps_for (passes_of rfl) rfl (pi_tup (pe_tup (pa_cons (pv 0) (pa_cons (pv 1) (pa_cons (pv 3) pa_nil))))) (pg_name (i := 4) sc_check_kinds.nd rfl (by first | exact Or.inl rfl | exact Or.inr rfl)) (pss_one (ps_if (pt_not (pt_truth (pe_callB call_isiT (by rfl) T.n_isinstance (by decide +kernel) (pa_cons (pv 4) (pa_cons (pe_tup (pa_cons (pe_bltn (v := V.ty "list") (by rfl) T.n_list (by decide +kernel) rfl) (pa_cons (pe_bltn (v := V.ty "tuple") (by rfl) T.n_tuple (by decide +kernel) rfl) pa_nil))) pa_nil))) (by intro _; rfl))) (pss_one (ps_raise rfl (takes_of rfl rfl rfl rfl) (pmk_own PySem.F.excBase_Exception T.xE0 T.mE0 T.kE0 (raises_own T.bE0 T.tE0) (by exact rfl)))) pss_nil)))
    (pss_cons (ps_for (passes_of rfl) rfl (pi_tup (pe_tup (StX.pa_star (pv 0) (StX.pa_star (pv 1) (pa_cons (pv 2) pa_nil))))) (pg_name (i := 4) sc_check_kinds.nd rfl (by first | exact Or.inl rfl | exact Or.inr rfl)) (pss_one (ps_expr (pe_callRS (ok_whole_list T) (hr.mono (by decide)) (by rfl) T.m_whole_list T.F_whole_list.kp (passE (takes_of rfl rfl rfl rfl)) (pa_cons (pv 4) pa_nil)))))
    (pss_one (ps_for (passes_of rfl) rfl (pi_seq (pv 3)) (pg_name (i := 5) sc_check_kinds.nd rfl (by first | exact Or.inl rfl | exact Or.inr rfl)) (pss_one (ps_expr (pe_callRS (ok_check_due T) (hr.mono (by decide)) (by rfl) T.m_check_due T.F_check_due.kp (passE (takes_of rfl rfl rfl rfl)) (pa_cons (pv 5) pa_nil)))))))),
    (ss_seq (ss_for (si_tup (se_tup (sa_cons se_var (sa_cons se_var (sa_cons se_var sa_nil))))) sg_name (ss_if (st_not (st_tru (se_cb sn_is2 (sa_cons se_var (sa_cons (se_tup (sa_cons (se_c fun _ _ => At.ty Ty.lst) (sa_cons (se_c fun _ _ => At.ty Ty.tup) sa_nil))) sa_nil))))) (ss_raise (n := 0)) ss_next))
    (ss_seq (ss_for (si_tup (se_tup (sa_star se_var (sa_star se_var (sa_cons se_var sa_nil))))) sg_name (ss_drop (se_call (sa_cons se_var sa_nil))))
    (ss_for (si_seq se_var) sg_name (ss_drop (se_call (sa_cons se_var sa_nil))))))⟩
theorem ok_check_steps (T : Txt c mg A) : FnR P w c.K mg base (L2.CX P w) 1 A.check_steps (spD c (D_check_steps_k09)) :=
  fn_ss (N := Nn_check_steps) (ps := ["first", "second"]) (s := dn_check_steps_k09) T.F_check_steps sc_check_steps (T.F_check_steps.binds (ps := ["first", "second"]) fun _ _ _ _ _ _ us hl => match us, hl with | [_, _], _ => rfl) fun cdv A_ outer sh H E' hr => ⟨(tFor (iEnumS c.K (tCons (tVar 0) tNil)) (gTup c.K 2 (gCons (gName 2) (gCons (gName 3) gNil))) (tSeq (tFor (iTup c.K (tTup (StX.tStar c.K (tVar 3) (StX.tStar c.K (tOp (rIx c.K) (tVar 1) (tVar 2)) tNil)))) (gName 4) (tIfS (tOr (tTest (tOp (rI0 fun i j => V.bl (decide (i < j))) (tVar 4) (tC (V.int 0)))) (tTest (tOp (rI0 fun i j => V.bl (decide (j ≤ i))) (tVar 4) (tCB (rLenS c.K) (tCons (tVar 0) tNil))))) (fun _ σ H => E' (Value.ref (c.ec 2)) none H) tNext))
    (tIfS (tTest (tOp rNe (tCB (rBoolS c.K) (tCons (tVar 3) tNil)) (tCB (rBoolS c.K) (tCons (tOp (rIx c.K) (tVar 1) (tVar 2)) tNil)))) (fun _ σ H => E' (Value.ref (c.ec 2)) none H) tNext))),
    (pss_one (ps_for (passes_of rfl) rfl (pi_enumS (by rfl) T.n_enumerate (pa_cons (pv 0) pa_nil)) (pg_tup rfl (pgs_cons (pg_name (i := 2) sc_check_steps.nd rfl (by first | exact Or.inl rfl | exact Or.inr rfl)) (pgs_cons (pg_name (i := 3) sc_check_steps.nd rfl (by first | exact Or.inl rfl | exact Or.inr rfl)) pgs_nil))) (pss_cons (ps_for (passes_of rfl) rfl (pi_tup (pe_tup (StX.pa_star (pv 3) (StX.pa_star (pe_ix ix_seq (pv 1) (pv 2) (fun _ _ => rfl)) pa_nil)))) (pg_name (i := 4) sc_check_steps.nd rfl (by first | exact Or.inl rfl | exact Or.inr rfl)) (pss_one (ps_if (PW.pt (pw_or (pt_cmpR op_lt (pv 4) pe_int (nomark _)) (pw_or1 (pt_cmpR op_ge (pv 4) (pe_callB call_len_seq (by rfl) T.n_len (by decide +kernel) (pa_cons (pv 0) pa_nil)) (nomark _))))) (pss_one (ps_raise rfl (takes_of rfl rfl rfl rfl) (pmk_own PySem.F.excBase_Exception T.xE2 T.mE2 T.kE2 (raises_own T.bE2 T.tE2) (by exact rfl)))) pss_nil)))
    (pss_one (ps_if (pt_cmpR op_ne (pe_callTy call_boolS (by rfl) T.n_bool (by decide +kernel) (pa_cons (pv 3) pa_nil)) (pe_callTy call_boolS (by rfl) T.n_bool (by decide +kernel) (pa_cons (pe_ix ix_seq (pv 1) (pv 2) (fun _ _ => rfl)) pa_nil)) (nomark _)) (pss_one (ps_raise rfl (takes_of rfl rfl rfl rfl) (pmk_own PySem.F.excBase_Exception T.xE2 T.mE2 T.kE2 (raises_own T.bE2 T.tE2) (by exact rfl)))) pss_nil))))),
    (ss_for (si_enumS (sa_cons se_var sa_nil)) sg_pair (ss_seq (ss_for (si_tup (se_tup (sa_star se_var (sa_star (se_op2 s2_ix se_var se_var) sa_nil)))) sg_name (ss_if (st_or (st_test (se_op2 s2_lt se_var se_int)) (st_test (se_op2 s2_ge se_var (se_cb sn_len (sa_cons se_var sa_nil))))) (ss_raise (n := 2)) ss_next))
    (ss_if (st_test (se_op2 s2_ne (se_cb sn_boolS (sa_cons se_var sa_nil)) (se_cb sn_boolS (sa_cons (se_op2 s2_ix se_var se_var) sa_nil)))) (ss_raise (n := 2)) ss_next)))⟩
theorem ok_check_parts (T : Txt c mg A) : FnR P w c.K mg base (L2.CX P w) 5 A.check_parts (spD c (D_check_parts_k09)) :=
  fn_ss (N := Nn_check_parts) (ps := ["first", "second", "marks", "dues"]) (s := dn_check_parts_k09) T.F_check_parts sc_check_parts (T.F_check_parts.binds (ps := ["first", "second", "marks", "dues"]) fun _ _ _ _ _ _ us hl => match us, hl with | [_, _, _, _], _ => rfl) fun cdv A_ outer sh H E' hr => ⟨(tSeq (tDrop (tCallS (spD c D_check_kinds_k09) (fun _ => E') (tCons (tVar 0) (tCons (tVar 1) (tCons (tVar 2) (tCons (tVar 3) tNil))))))
    (tSeq (tAsg (tCB (rLenS c.K) (tCons (tVar 2) tNil)) (gName 4))
    (tSeq (tIfS (tOr (tTest (tOp rEq (tVar 4) (tC (V.int 0)))) (tTest (tOp (rNeD c.K) (tLst (tCons (tCB (rLenS c.K) (tCons (tVar 0) tNil)) (tCons (tCB (rLenS c.K) (tCons (tVar 1) tNil)) (tCons (tCB (rLenS c.K) (tCons (tVar 3) tNil)) tNil)))) (tOp rRep (tLst (tCons (tVar 4) tNil)) (tC (V.int 3)))))) (fun _ σ H => E' (Value.ref (c.ec 2)) none H) tNext)
    (tSeq (tDrop (tCallS (spD c D_check_steps_k09) (fun _ => E') (tCons (tVar 0) (tCons (tVar 1) tNil))))
    (tSeq (tFor (iSeq c.K (tVar 2)) (gName 5) (tIfS (tTest (tOp (rIn c.K true) (tVar 5) (tTup (tCons (tC (V.int 1)) (tCons (tC (V.int 2)) tNil))))) (fun _ σ H => E' (Value.ref (c.ec 2)) none H) tNext))
    (tSeq (tFor (iSeq c.K (tVar 3)) (gName 6) (tIfS (tNot (fun σ H Q => (tCallS (spD c D_due_in_range) (fun _ => E') (tCons (tVar 6) tNil)) σ H fun x H' => ∃ k, TruV c.K x H' k ∧ Q k H')) (fun _ σ H => E' (Value.ref (c.ec 2)) none H) tNext))
    (tSeq (tDrop (tCallS (spD c D_check_most) (fun _ => E') (tCons (tVar 4) (tCons (tC (V.int 60)) tNil))))
    (tFor (iSeq c.K (tVar 3)) (gName 6) (tIfS (fun σ H Q => (tCallS (spD c D_due_too_great) (fun _ => E') (tCons (tVar 6) tNil)) σ H fun x H' => ∃ k, TruV c.K x H' k ∧ Q k H') (fun _ σ H => E' (Value.ref (c.ec 3)) none H) tNext))))))))),
    (pss_cons (ps_expr (pe_callRS (ok_check_kinds T) (hr.mono (by decide)) (by rfl) T.m_check_kinds T.F_check_kinds.kp (passE (takes_of rfl rfl rfl rfl)) (pa_cons (pv 0) (pa_cons (pv 1) (pa_cons (pv 2) (pa_cons (pv 3) pa_nil))))))
    (pss_cons (ps_asg (pe_callB call_len_seq (by rfl) T.n_len (by decide +kernel) (pa_cons (pv 2) pa_nil)) (pg_name (i := 4) sc_check_parts.nd rfl (by first | exact Or.inl rfl | exact Or.inr rfl)))
    (pss_cons (ps_if (PW.pt (pw_or (pt_cmpR op_eq (pv 4) pe_int (nomark _)) (pw_or1 (pt_cmpR (op_neD (hr.units)) (pe_lst (pa_cons (pe_callB call_len_seq (by rfl) T.n_len (by decide +kernel) (pa_cons (pv 0) pa_nil)) (pa_cons (pe_callB call_len_seq (by rfl) T.n_len (by decide +kernel) (pa_cons (pv 1) pa_nil)) (pa_cons (pe_callB call_len_seq (by rfl) T.n_len (by decide +kernel) (pa_cons (pv 3) pa_nil)) pa_nil)))) (pe_op op_rep (pe_lst (pa_cons (pv 4) pa_nil)) pe_int) (nomark _))))) (pss_one (ps_raise rfl (takes_of rfl rfl rfl rfl) (pmk_own PySem.F.excBase_Exception T.xE2 T.mE2 T.kE2 (raises_own T.bE2 T.tE2) (by exact rfl)))) pss_nil)
    (pss_cons (ps_expr (pe_callRS (ok_check_steps T) (hr.mono (by decide)) (by rfl) T.m_check_steps T.F_check_steps.kp (passE (takes_of rfl rfl rfl rfl)) (pa_cons (pv 0) (pa_cons (pv 1) pa_nil))))
    (pss_cons (ps_for (passes_of rfl) rfl (pi_seq (pv 2)) (pg_name (i := 5) sc_check_parts.nd rfl (by first | exact Or.inl rfl | exact Or.inr rfl)) (pss_one (ps_if (pt_cmpR op_notIn_seq (pv 5) (pe_tup (pa_cons pe_int (pa_cons pe_int pa_nil))) rfl) (pss_one (ps_raise rfl (takes_of rfl rfl rfl rfl) (pmk_own PySem.F.excBase_Exception T.xE2 T.mE2 T.kE2 (raises_own T.bE2 T.tE2) (by exact rfl)))) pss_nil)))
    (pss_cons (ps_for (passes_of rfl) rfl (pi_seq (pv 3)) (pg_name (i := 6) sc_check_parts.nd rfl (by first | exact Or.inl rfl | exact Or.inr rfl)) (pss_one (ps_if (pt_not (pt_truth (pe_callRS (ok_due_in_range T) (hr.mono (by decide)) (by rfl) T.m_due_in_range T.F_due_in_range.kp (passE (takes_of rfl rfl rfl rfl)) (pa_cons (pv 6) pa_nil)) (by intro _; rfl))) (pss_one (ps_raise rfl (takes_of rfl rfl rfl rfl) (pmk_own PySem.F.excBase_Exception T.xE2 T.mE2 T.kE2 (raises_own T.bE2 T.tE2) (by exact rfl)))) pss_nil)))
    (pss_cons (ps_expr (pe_callRS (ok_check_most T) (hr.mono (by decide)) (by rfl) T.m_check_most T.F_check_most.kp (passE (takes_of rfl rfl rfl rfl)) (pa_cons (pv 4) (pa_cons (pe_gint (by rfl) T.c_MOST_STANDS_webparts) pa_nil))))
    (pss_one (ps_for (passes_of rfl) rfl (pi_seq (pv 3)) (pg_name (i := 6) sc_check_parts.nd rfl (by first | exact Or.inl rfl | exact Or.inr rfl)) (pss_one (ps_if (pt_truth (pe_callRS (ok_due_too_great T) (hr.mono (by decide)) (by rfl) T.m_due_too_great T.F_due_too_great.kp (passE (takes_of rfl rfl rfl rfl)) (pa_cons (pv 6) pa_nil)) (by intro _; rfl)) (pss_one (ps_raise rfl (takes_of rfl rfl rfl rfl) (pmk_own PySem.F.excBase_Exception T.xE3 T.mE3 T.kE3 (raises_own T.bE3 T.tE3) (by exact rfl)))) pss_nil))))))))))),
    (ss_seq (ss_drop (se_call (sa_cons se_var (sa_cons se_var (sa_cons se_var (sa_cons se_var sa_nil))))))
    (ss_seq (ss_asg (se_cb sn_len (sa_cons se_var sa_nil)) sg_name)
    (ss_seq (ss_if (st_or (st_test (se_op2 s2_eq se_var se_int)) (st_test (se_op2 s2_neD (se_new (sen_lst (sa_cons (se_cb sn_len (sa_cons se_var sa_nil)) (sa_cons (se_cb sn_len (sa_cons se_var sa_nil)) (sa_cons (se_cb sn_len (sa_cons se_var sa_nil)) sa_nil))))) (se_op2 s2_rep (se_new (sen_lst (sa_cons se_var sa_nil))) se_int)))) (ss_raise (n := 2)) ss_next)
    (ss_seq (ss_drop (se_call (sa_cons se_var (sa_cons se_var sa_nil))))
    (ss_seq (ss_for (si_seq se_var) sg_name (ss_if (st_test (se_op2 s2_in se_var (se_tup (sa_cons se_int (sa_cons se_int sa_nil))))) (ss_raise (n := 2)) ss_next))
    (ss_seq (ss_for (si_seq se_var) sg_name (ss_if (st_not (st_tru (se_call (sa_cons se_var sa_nil)))) (ss_raise (n := 2)) ss_next))
    (ss_seq (ss_drop (se_call (sa_cons se_var (sa_cons se_int sa_nil))))
    (ss_for (si_seq se_var) sg_name (ss_if (st_tru (se_call (sa_cons se_var sa_nil))) (ss_raise (n := 3)) ss_next)))))))))⟩
theorem ok_check_plain (T : Txt c mg A) : FnR P w c.K mg base (L2.CX P w) 3 A.check_plain (spD c (D_check_plain)) :=
  fn_ss (N := Nn_check_plain) (ps := ["number", "mark", "extra"]) (s := dn_check_plain) T.F_check_plain sc_check_plain (T.F_check_plain.binds (ps := ["number", "mark", "extra"]) fun _ _ _ _ _ _ us hl => match us, hl with | [_, _, _], _ => rfl) fun cdv A_ outer sh H E' hr => ⟨(tSeq (tDrop (tCallS (spD c D_check_whole) (fun _ => E') (tCons (tVar 0) (tCons (tVar 1) tNil))))
    (tSeq (tDrop (tCallS (spD c D_check_least) (fun _ => E') (tCons (tVar 0) (tCons (tC (V.int 1)) tNil))))
    (tSeq (tDrop (tCallS (spD c D_check_one_or_two) (fun _ => E') (tCons (tVar 1) tNil)))
    (tDrop (tCallS (spD c D_check_most) (fun _ => E') (tCons (tOp (rI0 fun i j => V.int (i + j)) (tVar 0) (tVar 2)) (tCons (tC (V.int 60)) tNil))))))),
    (pss_cons (ps_expr (pe_callRS (ok_check_whole T) (hr.mono (by decide)) (by rfl) T.m_check_whole T.F_check_whole.kp (passE (takes_of rfl rfl rfl rfl)) (pa_cons (pv 0) (pa_cons (pv 1) pa_nil))))
    (pss_cons (ps_expr (pe_callRS (ok_check_least T) (hr.mono (by decide)) (by rfl) T.m_check_least T.F_check_least.kp (passE (takes_of rfl rfl rfl rfl)) (pa_cons (pv 0) (pa_cons pe_int pa_nil))))
    (pss_cons (ps_expr (pe_callRS (ok_check_one_or_two T) (hr.mono (by decide)) (by rfl) T.m_check_one_or_two T.F_check_one_or_two.kp (passE (takes_of rfl rfl rfl rfl)) (pa_cons (pv 1) pa_nil)))
    (pss_one (ps_expr (pe_callRS (ok_check_most T) (hr.mono (by decide)) (by rfl) T.m_check_most T.F_check_most.kp (passE (takes_of rfl rfl rfl rfl)) (pa_cons (pe_op op_add (pv 0) (pv 2)) (pa_cons (pe_gint (by rfl) T.c_MOST_STANDS_webparts) pa_nil)))))))),
    (ss_seq (ss_drop (se_call (sa_cons se_var (sa_cons se_var sa_nil))))
    (ss_seq (ss_drop (se_call (sa_cons se_var (sa_cons se_int sa_nil))))
    (ss_seq (ss_drop (se_call (sa_cons se_var sa_nil)))
    (ss_drop (se_call (sa_cons (se_op2 s2_add se_var se_var) (sa_cons se_int sa_nil)))))))⟩
theorem ok_Web_init (T : Txt c mg A) : FnR P w c.K mg base (L2.CX P w) 6 A.Web_init (spI c A.ca.Web (D_Web_init_k09 A.ca)) :=
  init_ss (N := Nn_Web_init) (s := dn_Web_init_k09 A.ca) T.F_Web_init sc_Web_init (T.F_Web_init.binds (ps := ["self", "first", "second", "marks", "dues"]) fun _ _ _ _ _ _ us hl => match us, hl with | [_, _, _, _, _], _ => rfl) (D_Web_init_k09_is A.ca) (D_Web_init_k09_len A.ca) fun cdv A_ outer sh H E' hr => ⟨(tSeq (tDrop (tCallS (spD c D_check_parts_k09) (fun _ => E') (tCons (tVar 1) (tCons (tVar 2) (tCons (tVar 3) (tCons (tVar 4) tNil))))))
    (tSeq (tAsg (tCB (rLenS c.K) (tCons (tVar 3) tNil)) (gName 5))
    (tSeq (sFld c.K (tVar 0) (tVar 5) "_size")
    (tSeq (sFld c.K (tVar 0) (tCB (rTupleF c.K) (tCons (tLc (iSeq c.K (tVar 1)) (gName 6) tYes (tCallS (spD c D_as_stands) (fun _ => L2.E0) (tCons (tVar 6) (tCons (tVar 5) tNil))) [6]) tNil)) "_first")
    (tSeq (sFld c.K (tVar 0) (tCB (rTupleF c.K) (tCons (tLc (iSeq c.K (tVar 2)) (gName 6) tYes (tCallS (spD c D_as_stands) (fun _ => L2.E0) (tCons (tVar 6) (tCons (tVar 5) tNil))) [6]) tNil)) "_second")
    (tSeq (sFld c.K (tVar 0) (tCB (rTupleF c.K) (tCons (tVar 3) tNil)) "_marks")
    (tSeq (sFld c.K (tVar 0) (tCB (rTupleF c.K) (tCons (tLc (iSeq c.K (tVar 4)) (gName 7) tYes (tIf (tTest (tOp rIsNF (tVar 7) (tC V.non))) (tC V.non) (tCB (rTupleF c.K) (tCons (tVar 7) tNil))) [7]) tNil)) "_dues")
    (tSeq (sFld c.K (tVar 0) (tCB (rTupleF c.K) (tCons (tLc (iRng1 (tCons (tVar 5) tNil)) (gName 8) (tNot (fun σ H Q => (tOp (rIx c.K) (tVar 1) (tVar 8)) σ H fun x H' => ∃ k, TruV c.K x H' k ∧ Q k H')) (tVar 8) [8]) tNil)) "_ends")
    (tSeq (sFld c.K (tVar 0) (tCB (rTupleF c.K) (tCons (tLc (iRng1 (tCons (tVar 5) tNil)) (gName 8) (fun σ H Q => (tOp (rIx c.K) (tVar 1) (tVar 8)) σ H fun x H' => ∃ k, TruV c.K x H' k ∧ Q k H') (tVar 8) [8]) tNil)) "_moving")
    (tSeq (sFld c.K (tVar 0) (tCB (rMax c.K) (tCons (tLc (iSeq c.K (tVar 4)) (gName 7) tYes (tIf (tTest (tOp rIsNF (tVar 7) (tC V.non))) (tC (V.int 0)) (tOp (rIx c.K) (tVar 7) (tC (V.int 1)))) [7]) tNil)) "_greatest_due")
    (sFld c.K (tVar 0) (tOp (rEqD c.K) (tFld c.K (tVar 0) "_first") (tFld c.K (tVar 0) "_second")) "_even"))))))))))),
    (pss_cons (ps_expr (pe_callRS (ok_check_parts T) (hr.mono (by decide)) (by rfl) T.m_check_parts T.F_check_parts.kp (passE (takes_of rfl rfl rfl rfl)) (pa_cons (pv 1) (pa_cons (pv 2) (pa_cons (pv 3) (pa_cons (pv 4) pa_nil))))))
    (pss_cons (ps_asg (pe_callB call_len_seq (by rfl) T.n_len (by decide +kernel) (pa_cons (pv 3) pa_nil)) (pg_name (i := 5) sc_Web_init.nd rfl (by first | exact Or.inl rfl | exact Or.inr rfl)))
    (pss_cons (ps_fld (pv 0) (pv 5) rfl)
    (pss_cons (ps_fld (pv 0) (pe_callTy call_tuple_of (by rfl) T.n_tuple (by decide +kernel) (pa_cons (pe_lc (own := [("steps", 6)]) (g := gName 6) (wi := (iSeq c.K (tVar 1))) (tt := tYes) (te := (tCallS (spD c D_as_stands) (fun _ => L2.E0) (tCons (tVar 6) (tCons (tVar 5) tNil)))) rfl sc_Web_init.nd (pi_seq (pv 1)) (blkOk_by (N := Nn_Web_init) (sc := defScope s_Web_init) (by decide +kernel)) (fun _ _ _ _ _ => pg_name (i := 6) sc_Web_init.nd rfl (by first | exact Or.inl rfl | exact Or.inr rfl)) (fun _ _ _ _ _ => pts_nil) (fun _ _ _ _ _ => (pe_callRS (ok_as_stands T) (hr.mono (by decide)) (by rfl) T.m_as_stands T.F_as_stands.kp passNo (pa_cons (pv 6) (pa_cons (pv 5) pa_nil))))) pa_nil)) rfl)
    (pss_cons (ps_fld (pv 0) (pe_callTy call_tuple_of (by rfl) T.n_tuple (by decide +kernel) (pa_cons (pe_lc (own := [("steps", 6)]) (g := gName 6) (wi := (iSeq c.K (tVar 2))) (tt := tYes) (te := (tCallS (spD c D_as_stands) (fun _ => L2.E0) (tCons (tVar 6) (tCons (tVar 5) tNil)))) rfl sc_Web_init.nd (pi_seq (pv 2)) (blkOk_by (N := Nn_Web_init) (sc := defScope s_Web_init) (by decide +kernel)) (fun _ _ _ _ _ => pg_name (i := 6) sc_Web_init.nd rfl (by first | exact Or.inl rfl | exact Or.inr rfl)) (fun _ _ _ _ _ => pts_nil) (fun _ _ _ _ _ => (pe_callRS (ok_as_stands T) (hr.mono (by decide)) (by rfl) T.m_as_stands T.F_as_stands.kp passNo (pa_cons (pv 6) (pa_cons (pv 5) pa_nil))))) pa_nil)) rfl)
    (pss_cons (ps_fld (pv 0) (pe_callTy call_tuple_of (by rfl) T.n_tuple (by decide +kernel) (pa_cons (pv 3) pa_nil)) rfl)
    (pss_cons (ps_fld (pv 0) (pe_callTy call_tuple_of (by rfl) T.n_tuple (by decide +kernel) (pa_cons (pe_lc (own := [("due", 7)]) (g := gName 7) (wi := (iSeq c.K (tVar 4))) (tt := tYes) (te := (tIf (tTest (tOp rIsNF (tVar 7) (tC V.non))) (tC V.non) (tCB (rTupleF c.K) (tCons (tVar 7) tNil)))) rfl sc_Web_init.nd (pi_seq (pv 4)) (blkOk_by (N := Nn_Web_init) (sc := defScope s_Web_init) (by decide +kernel)) (fun _ _ _ _ _ => pg_name (i := 7) sc_Web_init.nd rfl (by first | exact Or.inl rfl | exact Or.inr rfl)) (fun _ _ _ _ _ => pts_nil) (fun _ _ _ _ _ => (pe_ifExp (pt_cmpR op_isN (pv 7) pe_non (nomark _)) pe_non (pe_callTy call_tuple_of (by rfl) T.n_tuple (by decide +kernel) (pa_cons (pv 7) pa_nil))))) pa_nil)) rfl)
    (pss_cons (ps_fld (pv 0) (pe_callTy call_tuple_of (by rfl) T.n_tuple (by decide +kernel) (pa_cons (pe_lc (own := [("stand", 8)]) (g := gName 8) (wi := (iRng1 (tCons (tVar 5) tNil))) (tt := (tNot (fun σ H Q => (tOp (rIx c.K) (tVar 1) (tVar 8)) σ H fun x H' => ∃ k, TruV c.K x H' k ∧ Q k H'))) (te := (tVar 8)) rfl sc_Web_init.nd (pi_range1 (by rfl) T.n_range (pa_cons (pv 5) pa_nil)) (blkOk_by (N := Nn_Web_init) (sc := defScope s_Web_init) (by decide +kernel)) (fun _ _ _ _ _ => pg_name (i := 8) sc_Web_init.nd rfl (by first | exact Or.inl rfl | exact Or.inr rfl)) (fun _ _ _ _ _ => (pts_one (pt_not (pt_truth (pe_ix ix_seq (pv 1) (pv 8) (fun _ _ => rfl)) (by intro _; rfl))))) (fun _ _ _ _ _ => (pv 8))) pa_nil)) rfl)
    (pss_cons (ps_fld (pv 0) (pe_callTy call_tuple_of (by rfl) T.n_tuple (by decide +kernel) (pa_cons (pe_lc (own := [("stand", 8)]) (g := gName 8) (wi := (iRng1 (tCons (tVar 5) tNil))) (tt := (fun σ H Q => (tOp (rIx c.K) (tVar 1) (tVar 8)) σ H fun x H' => ∃ k, TruV c.K x H' k ∧ Q k H')) (te := (tVar 8)) rfl sc_Web_init.nd (pi_range1 (by rfl) T.n_range (pa_cons (pv 5) pa_nil)) (blkOk_by (N := Nn_Web_init) (sc := defScope s_Web_init) (by decide +kernel)) (fun _ _ _ _ _ => pg_name (i := 8) sc_Web_init.nd rfl (by first | exact Or.inl rfl | exact Or.inr rfl)) (fun _ _ _ _ _ => (pts_one (pt_truth (pe_ix ix_seq (pv 1) (pv 8) (fun _ _ => rfl)) (by intro _; rfl)))) (fun _ _ _ _ _ => (pv 8))) pa_nil)) rfl)
    (pss_cons (ps_fld (pv 0) (pe_callB (cr_max rfl) (by rfl) T.n_max (by decide +kernel) (pa_cons (pe_lc (own := [("due", 7)]) (g := gName 7) (wi := (iSeq c.K (tVar 4))) (tt := tYes) (te := (tIf (tTest (tOp rIsNF (tVar 7) (tC V.non))) (tC (V.int 0)) (tOp (rIx c.K) (tVar 7) (tC (V.int 1))))) rfl sc_Web_init.nd (pi_seq (pv 4)) (blkOk_by (N := Nn_Web_init) (sc := defScope s_Web_init) (by decide +kernel)) (fun _ _ _ _ _ => pg_name (i := 7) sc_Web_init.nd rfl (by first | exact Or.inl rfl | exact Or.inr rfl)) (fun _ _ _ _ _ => pts_nil) (fun _ _ _ _ _ => (pe_ifExp (pt_cmpR op_isN (pv 7) pe_non (nomark _)) pe_int (pe_ix ix_seq (pv 7) pe_int (fun _ _ => rfl))))) pa_nil)) rfl)
    (pss_one (ps_fld (pv 0) (pe_cmpR (op_eqD (hr.units)) (pe_fld (pv 0) rfl) (pe_fld (pv 0) rfl) (nomark _)) rfl)))))))))))),
    (ss_seq (ss_drop (se_call (sa_cons se_var (sa_cons se_var (sa_cons se_var (sa_cons se_var sa_nil))))))
    (ss_seq (ss_asg (se_cb sn_len (sa_cons se_var sa_nil)) sg_name)
    (ss_seq (ss_fldO T.f_Web.cl T.a_Web__size se_var)
    (ss_seq (ss_fldO T.f_Web.cl T.a_Web__first (se_cb sn_tuple (sa_cons (se_new (sen_comp (si_seq se_var) st_true (se_call (sa_cons se_var (sa_cons se_var sa_nil))))) sa_nil)))
    (ss_seq (ss_fldO T.f_Web.cl T.a_Web__second (se_cb sn_tuple (sa_cons (se_new (sen_comp (si_seq se_var) st_true (se_call (sa_cons se_var (sa_cons se_var sa_nil))))) sa_nil)))
    (ss_seq (ss_fldO T.f_Web.cl T.a_Web__marks (se_cb sn_tuple (sa_cons se_var sa_nil)))
    (ss_seq (ss_fldO T.f_Web.cl T.a_Web__dues (se_cb sn_tuple (sa_cons (se_new (sen_comp (si_seq se_var) st_true (se_if (st_test (se_op2 s2_isN se_var se_non)) se_non (se_cb sn_tuple (sa_cons se_var sa_nil))))) sa_nil)))
    (ss_seq (ss_fldO T.f_Web.cl T.a_Web__ends (se_cb sn_tuple (sa_cons (se_new (sen_comp (si_rng1 (sa_cons se_var sa_nil)) (st_not (st_tru (se_op2 s2_ix se_var se_var))) se_var)) sa_nil)))
    (ss_seq (ss_fldO T.f_Web.cl T.a_Web__moving (se_cb sn_tuple (sa_cons (se_new (sen_comp (si_rng1 (sa_cons se_var sa_nil)) (st_tru (se_op2 s2_ix se_var se_var)) se_var)) sa_nil)))
    (ss_seq (ss_fldO T.f_Web.cl T.a_Web__greatest_due (se_cb sn_maxL (sa_cons (se_new (sen_comp (si_seq se_var) st_true (se_if (st_test (se_op2 s2_isN se_var se_non)) se_int (se_op2 s2_ix se_var se_int)))) sa_nil)))
    (ss_fldO T.f_Web.cl T.a_Web__even (se_op2 s2_eqD (se_fldO T.f_Web.cl T.a_Web__first) (se_fldO T.f_Web.cl T.a_Web__second)))))))))))))⟩
theorem ok_Web_line (T : Txt c mg A) : FnR P w c.K mg base (L2.CX P w) 8 A.Web_line (spD c (D_Web_line A.ca)) :=
  fn_ssD (N := Nn_Web_line) (ps := ["cls", "n", "mark"]) (s := dn_Web_line A.ca) T.F_Web_line sc_Web_line (fun _ _ => .int 1) (fun _ _ _ _ _ _ _ us its hl ht => match us, its, hl, ht with | [_, _, _], [_], _, _ => ⟨_, rfl, rfl⟩) (fun _ _ _ _ _ _ _ us its hl ht => match us, its, hl, ht with | [_, _], [_], _, _ => ⟨_, rfl, rfl⟩) (by decide) fun cdv A_ outer sh H E' hr => ⟨(tSeq (tDrop (tCallS (spD c D_check_plain) (fun _ => E') (tCons (tVar 1) (tCons (tVar 2) (tCons (tC (V.int 1)) tNil)))))
    (tSeq (tAsg (tLc (iRng2 (tCons (tC (V.int 1)) (tCons (tVar 1) tNil))) (gName 4) tYes (tLst (tCons (tOp (rI0 fun i j => V.int (i - j)) (tVar 4) (tC (V.int 1))) (tCons (tOp (rI0 fun i j => V.int (i + j)) (tVar 4) (tC (V.int 1))) tNil))) [4]) (gName 3))
    (tSeq (tAsg (tLst (tCons (tLst tNil) (StX.tStar c.K (tVar 3) (tCons (tLst tNil) tNil)))) (gName 5))
    (tRet (tMakeV 0 A.ca.Web (spI c A.ca.Web (D_Web_init_k09 A.ca)) E' (tCons (tVar 5) (tCons (tVar 5) (tCons (tOp rRep (tLst (tCons (tVar 2) tNil)) (tOp (rI0 fun i j => V.int (i + j)) (tVar 1) (tC (V.int 1)))) (tCons (tOp rCat (tLst (tCons (tTup (tCons (tC (V.str "chips")) (tCons (tC (V.int 0)) tNil))) tNil)) (tOp rRep (tLst (tCons (tC V.non) tNil)) (tVar 1))) tNil))))))))),
    (pss_cons (ps_expr (pe_callRS (ok_check_plain T) (hr.mono (by decide)) (by rfl) T.m_check_plain T.F_check_plain.kp (passE (takes_of rfl rfl rfl rfl)) (pa_cons (pv 1) (pa_cons (pv 2) (pa_cons pe_int pa_nil)))))
    (pss_cons (ps_setLc (i := 3) (own := [("stand", 4)]) (g := gName 4) (wi := (iRng2 (tCons (tC (V.int 1)) (tCons (tVar 1) tNil)))) (tt := tYes) (te := (tLst (tCons (tOp (rI0 fun i j => V.int (i - j)) (tVar 4) (tC (V.int 1))) (tCons (tOp (rI0 fun i j => V.int (i + j)) (tVar 4) (tC (V.int 1))) tNil)))) rfl sc_Web_line.nd rfl rfl (sw_true rfl rfl rfl (by decide +kernel)) (pi_range2 (by rfl) T.n_range (pa_cons pe_int (pa_cons (pv 1) pa_nil))) (blkOk_by (N := Nn_Web_line) (sc := defScope s_Web_line) (by decide +kernel)) (fun _ _ _ _ _ => pg_name (i := 4) sc_Web_line.nd rfl (by first | exact Or.inl rfl | exact Or.inr rfl)) (fun _ _ _ _ _ => pts_nil) (fun _ _ _ _ _ => (pe_lst (pa_cons (pe_op op_sub (pv 4) pe_int) (pa_cons (pe_op op_add (pv 4) pe_int) pa_nil)))))
    (pss_cons (ps_asg (pe_lst (pa_cons (pe_lst pa_nil) (StX.pa_star (pv 3) (pa_cons (pe_lst pa_nil) pa_nil)))) (pg_name (i := 5) sc_Web_line.nd rfl (by first | exact Or.inl rfl | exact Or.inr rfl)))
    (pss_one (ps_ret (pe_makeV (i := 0) T.mk_Web (ok_Web_init T) (hr.mono (by decide)) (fun pins σ H s e s' I h => passE (takes_of rfl rfl rfl rfl) σ pins H s e s' I h) (by rfl) (by first | exact Or.inl rfl | exact Or.inr (Or.inl rfl) | exact Or.inr (Or.inr rfl)) (pa_cons (pv 5) (pa_cons (pv 5) (pa_cons (pe_op op_rep (pe_lst (pa_cons (pv 2) pa_nil)) (pe_op op_add (pv 1) pe_int)) (pa_cons (pe_op op_cat (pe_lst (pa_cons (pe_tup (pa_cons pe_str (pa_cons pe_int pa_nil))) pa_nil)) (pe_op op_rep (pe_lst (pa_cons pe_non pa_nil)) (pv 1))) pa_nil)))))))))),
    (ss_seq (ss_drop (se_call (sa_cons se_var (sa_cons se_var (sa_cons se_int sa_nil)))))
    (ss_seq (ss_asg (se_new (sen_comp (si_rng2 (sa_cons se_int (sa_cons se_var sa_nil))) st_true (se_new (sen_lst (sa_cons (se_op2 s2_sub se_var se_int) (sa_cons (se_op2 s2_add se_var se_int) sa_nil)))))) sg_name)
    (ss_seq (ss_asg (se_new (sen_lst (sa_cons (se_new (sen_lst sa_nil)) (sa_star se_var (sa_cons (se_new (sen_lst sa_nil)) sa_nil))))) sg_name)
    (ss_ret (se_makeV (sa_cons se_var (sa_cons se_var (sa_cons (se_op2 s2_rep (se_new (sen_lst (sa_cons se_var sa_nil))) (se_op2 s2_add se_var se_int)) (sa_cons (se_op2 s2_cat (se_new (sen_lst (sa_cons (se_tup (sa_cons se_str (sa_cons se_int sa_nil))) sa_nil))) (se_op2 s2_rep (se_new (sen_lst (sa_cons se_non sa_nil))) se_var)) sa_nil)))))))))⟩
theorem ok_Web_ring (T : Txt c mg A) : FnR P w c.K mg base (L2.CX P w) 8 A.Web_ring (spD c (D_Web_ring A.ca)) :=
  fn_ssD (N := Nn_Web_ring) (ps := ["cls", "n", "mark"]) (s := dn_Web_ring A.ca) T.F_Web_ring sc_Web_ring (fun _ _ => .int 1) (fun _ _ _ _ _ _ _ us its hl ht => match us, its, hl, ht with | [_, _, _], [_], _, _ => ⟨_, rfl, rfl⟩) (fun _ _ _ _ _ _ _ us its hl ht => match us, its, hl, ht with | [_, _], [_], _, _ => ⟨_, rfl, rfl⟩) (by decide) fun cdv A_ outer sh H E' hr => ⟨(tSeq (tDrop (tCallS (spD c D_check_plain) (fun _ => E') (tCons (tVar 1) (tCons (tVar 2) (tCons (tC (V.int 0)) tNil)))))
    (tSeq (tAsg (tLc (iRng1 (tCons (tVar 1) tNil)) (gName 4) tYes (tLst (tCons (tOp (rI (fun _ j => 0 < j) fun i j => V.int (i % j)) (tOp (rI0 fun i j => V.int (i + j)) (tVar 4) (tC (V.int 1))) (tVar 1)) tNil)) [4]) (gName 3))
    (tRet (tMakeV 0 A.ca.Web (spI c A.ca.Web (D_Web_init_k09 A.ca)) E' (tCons (tVar 3) (tCons (tVar 3) (tCons (tOp rRep (tLst (tCons (tVar 2) tNil)) (tVar 1)) (tCons (tOp rRep (tLst (tCons (tC V.non) tNil)) (tVar 1)) tNil)))))))),
    (pss_cons (ps_expr (pe_callRS (ok_check_plain T) (hr.mono (by decide)) (by rfl) T.m_check_plain T.F_check_plain.kp (passE (takes_of rfl rfl rfl rfl)) (pa_cons (pv 1) (pa_cons (pv 2) (pa_cons pe_int pa_nil)))))
    (pss_cons (ps_setLc (i := 3) (own := [("stand", 4)]) (g := gName 4) (wi := (iRng1 (tCons (tVar 1) tNil))) (tt := tYes) (te := (tLst (tCons (tOp (rI (fun _ j => 0 < j) fun i j => V.int (i % j)) (tOp (rI0 fun i j => V.int (i + j)) (tVar 4) (tC (V.int 1))) (tVar 1)) tNil))) rfl sc_Web_ring.nd rfl rfl (sw_true rfl rfl rfl (by decide +kernel)) (pi_range1 (by rfl) T.n_range (pa_cons (pv 1) pa_nil)) (blkOk_by (N := Nn_Web_ring) (sc := defScope s_Web_ring) (by decide +kernel)) (fun _ _ _ _ _ => pg_name (i := 4) sc_Web_ring.nd rfl (by first | exact Or.inl rfl | exact Or.inr rfl)) (fun _ _ _ _ _ => pts_nil) (fun _ _ _ _ _ => (pe_lst (pa_cons (pe_op op_mod (pe_op op_add (pv 4) pe_int) (pv 1)) pa_nil))))
    (pss_one (ps_ret (pe_makeV (i := 0) T.mk_Web (ok_Web_init T) (hr.mono (by decide)) (fun pins σ H s e s' I h => passE (takes_of rfl rfl rfl rfl) σ pins H s e s' I h) (by rfl) (by first | exact Or.inl rfl | exact Or.inr (Or.inl rfl) | exact Or.inr (Or.inr rfl)) (pa_cons (pv 3) (pa_cons (pv 3) (pa_cons (pe_op op_rep (pe_lst (pa_cons (pv 2) pa_nil)) (pv 1)) (pa_cons (pe_op op_rep (pe_lst (pa_cons pe_non pa_nil)) (pv 1)) pa_nil))))))))),
    (ss_seq (ss_drop (se_call (sa_cons se_var (sa_cons se_var (sa_cons se_int sa_nil)))))
    (ss_seq (ss_asg (se_new (sen_comp (si_rng1 (sa_cons se_var sa_nil)) st_true (se_new (sen_lst (sa_cons (se_op2 s2_mod (se_op2 s2_add se_var se_int) se_var) sa_nil))))) sg_name)
    (ss_ret (se_makeV (sa_cons se_var (sa_cons se_var (sa_cons (se_op2 s2_rep (se_new (sen_lst (sa_cons se_var sa_nil))) se_var) (sa_cons (se_op2 s2_rep (se_new (sen_lst (sa_cons se_non sa_nil))) se_var) sa_nil))))))))⟩
theorem ok_check_web (T : Txt c mg A) : FnR P w c.K mg base (L2.CX P w) 1 A.check_web (spD c (D_check_web A.ca)) :=
  fn_ss (N := Nn_check_web) (ps := ["thing"]) (s := dn_check_web A.ca) T.F_check_web sc_check_web (T.F_check_web.binds (ps := ["thing"]) fun _ _ _ _ _ _ us hl => match us, hl with | [_], _ => rfl) fun cdv A_ outer sh H E' hr => ⟨(tIfS (tNot (fun σ H Q => (tCB (rIsi c.K) (tCons (tVar 0) (tCons (tC (V.ref A.ca.Web)) tNil))) σ H fun x H' => ∃ k, TruV c.K x H' k ∧ Q k H')) (fun _ σ H => E' (Value.ref (c.ec 0)) none H) tNext),
    (pss_one (ps_if (pt_not (pt_truth (pe_callB call_isi (by rfl) T.n_isinstance (by decide +kernel) (pa_cons (pv 0) (pa_cons (pe_glob (by rfl) T.m_Web rfl) pa_nil))) (by intro _; rfl))) (pss_one (ps_raise rfl (takes_of rfl rfl rfl rfl) (pmk_own PySem.F.excBase_Exception T.xE0 T.mE0 T.kE0 (raises_own T.bE0 T.tE0) (by exact rfl)))) pss_nil)),
    (ss_if (st_not (st_tru (se_cb (sn_isC T.f_Web) (sa_cons se_var (sa_cons (se_c fun _ _ => At.cls A.ca.Web) sa_nil))))) (ss_raise (n := 0)) ss_next)⟩
theorem ok_check_stand (T : Txt c mg A) : FnR P w c.K mg base (L2.CX P w) 3 A.check_stand (spD c (D_check_stand A.ca)) :=
  fn_ss (N := Nn_check_stand) (ps := ["web", "stand"]) (s := dn_check_stand A.ca) T.F_check_stand sc_check_stand (T.F_check_stand.binds (ps := ["web", "stand"]) fun _ _ _ _ _ _ us hl => match us, hl with | [_, _], _ => rfl) fun cdv A_ outer sh H E' hr => ⟨(tDrop (tCallS (spD c D_check_range) (fun _ => E') (tCons (tVar 1) (tCons (tC (V.int 0)) (tCons (tOp (rI0 fun i j => V.int (i - j)) (tProp A.ca.Web (getSp A.ca.Web "_size") [] L2.E0 (tVar 0)) (tC (V.int 1))) tNil))))),
    (pss_one (ps_expr (pe_callRS (ok_check_range T) (hr.mono (by decide)) (by rfl) T.m_check_range T.F_check_range.kp (passE (takes_of rfl rfl rfl rfl)) (pa_cons (pv 1) (pa_cons pe_int (pa_cons (pe_op op_sub (pe_prop (pv 0) T.f_Web.cl T.p_Web_size (getter_of T.F_Web_size gsc_Web_size rfl rfl T.f_Web.cl T.a_Web__size) (hr.mono (by decide)) (T.F_Web_size.binds (ps := ["self"]) fun _ _ _ _ _ _ us hl => match us, hl with | [_], _ => rfl) .nil passL rfl) pe_int) pa_nil)))))),
    (ss_drop (se_call (sa_cons se_var (sa_cons se_int (sa_cons (se_op2 s2_sub (se_prop se_var) se_int) sa_nil)))))⟩
theorem ok_check_state_range (T : Txt c mg A) : FnR P w c.K mg base (L2.CX P w) 4 A.check_state_range (spD c (D_check_state_range A.ca)) :=
  fn_ss (N := Nn_check_state_range) (ps := ["web", "k", "stand", "purse"]) (s := dn_check_state_range A.ca) T.F_check_state_range sc_check_state_range (T.F_check_state_range.binds (ps := ["web", "k", "stand", "purse"]) fun _ _ _ _ _ _ us hl => match us, hl with | [_, _, _, _], _ => rfl) fun cdv A_ outer sh H E' hr => ⟨(tSeq (tDrop (tCallS (spD c D_check_least) (fun _ => E') (tCons (tVar 1) (tCons (tC (V.int 0)) tNil))))
    (tSeq (tDrop (tCallS (spD c (D_check_stand A.ca)) (fun _ => E') (tCons (tVar 0) (tCons (tVar 2) tNil))))
    (tDrop (tCallS (spD c D_check_range) (fun _ => E') (tCons (tVar 3) (tCons (tC (V.int 0)) (tCons (tVar 1) tNil))))))),
    (pss_cons (ps_expr (pe_callRS (ok_check_least T) (hr.mono (by decide)) (by rfl) T.m_check_least T.F_check_least.kp (passE (takes_of rfl rfl rfl rfl)) (pa_cons (pv 1) (pa_cons pe_int pa_nil))))
    (pss_cons (ps_expr (pe_callRS (ok_check_stand T) (hr.mono (by decide)) (by rfl) T.m_check_stand T.F_check_stand.kp (passE (takes_of rfl rfl rfl rfl)) (pa_cons (pv 0) (pa_cons (pv 2) pa_nil))))
    (pss_one (ps_expr (pe_callRS (ok_check_range T) (hr.mono (by decide)) (by rfl) T.m_check_range T.F_check_range.kp (passE (takes_of rfl rfl rfl rfl)) (pa_cons (pv 3) (pa_cons pe_int (pa_cons (pv 1) pa_nil)))))))),
    (ss_seq (ss_drop (se_call (sa_cons se_var (sa_cons se_int sa_nil))))
    (ss_seq (ss_drop (se_call (sa_cons se_var (sa_cons se_var sa_nil))))
    (ss_drop (se_call (sa_cons se_var (sa_cons se_int (sa_cons se_var sa_nil)))))))⟩
theorem ok_check_state (T : Txt c mg A) : FnR P w c.K mg base (L2.CX P w) 5 A.check_state (spD c (D_check_state A.ca)) :=
  fn_ss (N := Nn_check_state) (ps := ["web", "k", "stand", "purse"]) (s := dn_check_state A.ca) T.F_check_state sc_check_state (T.F_check_state.binds (ps := ["web", "k", "stand", "purse"]) fun _ _ _ _ _ _ us hl => match us, hl with | [_, _, _, _], _ => rfl) fun cdv A_ outer sh H E' hr => ⟨(tSeq (tDrop (tCallS (spD c (D_check_web A.ca)) (fun _ => E') (tCons (tVar 0) tNil)))
    (tSeq (tDrop (tCallS (spD c D_check_whole) (fun _ => E') (tCons (tVar 1) (tCons (tVar 2) (tCons (tVar 3) tNil)))))
    (tDrop (tCallS (spD c (D_check_state_range A.ca)) (fun _ => E') (tCons (tVar 0) (tCons (tVar 1) (tCons (tVar 2) (tCons (tVar 3) tNil)))))))),
    (pss_cons (ps_expr (pe_callRS (ok_check_web T) (hr.mono (by decide)) (by rfl) T.m_check_web T.F_check_web.kp (passE (takes_of rfl rfl rfl rfl)) (pa_cons (pv 0) pa_nil)))
    (pss_cons (ps_expr (pe_callRS (ok_check_whole T) (hr.mono (by decide)) (by rfl) T.m_check_whole T.F_check_whole.kp (passE (takes_of rfl rfl rfl rfl)) (pa_cons (pv 1) (pa_cons (pv 2) (pa_cons (pv 3) pa_nil)))))
    (pss_one (ps_expr (pe_callRS (ok_check_state_range T) (hr.mono (by decide)) (by rfl) T.m_check_state_range T.F_check_state_range.kp (passE (takes_of rfl rfl rfl rfl)) (pa_cons (pv 0) (pa_cons (pv 1) (pa_cons (pv 2) (pa_cons (pv 3) pa_nil))))))))),
    (ss_seq (ss_drop (se_call (sa_cons se_var sa_nil)))
    (ss_seq (ss_drop (se_call (sa_cons se_var (sa_cons se_var (sa_cons se_var sa_nil)))))
    (ss_drop (se_call (sa_cons se_var (sa_cons se_var (sa_cons se_var (sa_cons se_var sa_nil))))))))⟩
theorem ok_dues_at (T : Txt c mg A) : FnR P w c.K mg base (L2.CX P w) 3 A.dues_at (spD c (D_dues_at A.ca)) :=
  fn_ss (N := Nn_dues_at) (ps := ["web", "k"]) (s := dn_dues_at A.ca) T.F_dues_at sc_dues_at (T.F_dues_at.binds (ps := ["web", "k"]) fun _ _ _ _ _ _ us hl => match us, hl with | [_, _], _ => rfl) fun cdv A_ outer sh H E' hr => ⟨(tRet (tCB (rTupleF c.K) (tCons (tLc (iTup c.K (tProp A.ca.Web (getSp A.ca.Web "_dues") [] L2.E0 (tVar 0))) (gName 2) tYes (tCallS (spD c D_due_at) (fun _ => L2.E0) (tCons (tVar 2) (tCons (tVar 1) tNil))) [2]) tNil))),
    (pss_one (ps_ret (pe_callTy call_tuple_of (by rfl) T.n_tuple (by decide +kernel) (pa_cons (pe_lc (own := [("due", 2)]) (g := gName 2) (wi := (iTup c.K (tProp A.ca.Web (getSp A.ca.Web "_dues") [] L2.E0 (tVar 0)))) (tt := tYes) (te := (tCallS (spD c D_due_at) (fun _ => L2.E0) (tCons (tVar 2) (tCons (tVar 1) tNil)))) rfl sc_dues_at.nd (pi_tup (pe_prop (pv 0) T.f_Web.cl T.p_Web_dues (getter_of T.F_Web_dues gsc_Web_dues rfl rfl T.f_Web.cl T.a_Web__dues) (hr.mono (by decide)) (T.F_Web_dues.binds (ps := ["self"]) fun _ _ _ _ _ _ us hl => match us, hl with | [_], _ => rfl) .nil passL rfl)) (blkOk_by (N := Nn_dues_at) (sc := defScope s_dues_at) (by decide +kernel)) (fun _ _ _ _ _ => pg_name (i := 2) sc_dues_at.nd rfl (by first | exact Or.inl rfl | exact Or.inr rfl)) (fun _ _ _ _ _ => pts_nil) (fun _ _ _ _ _ => (pe_callRS (ok_due_at T) (hr.mono (by decide)) (by rfl) T.m_due_at T.F_due_at.kp passNo (pa_cons (pv 2) (pa_cons (pv 1) pa_nil))))) pa_nil)))),
    (ss_ret (se_cb sn_tuple (sa_cons (se_new (sen_comp (si_tup (se_prop se_var)) st_true (se_call (sa_cons se_var (sa_cons se_var sa_nil))))) sa_nil)))⟩
theorem ok_bought (T : Txt c mg A) : FnR P w c.K mg base (L2.CX P w) 1 A.bought (spD c (D_bought)) :=
  fn_ss (N := Nn_bought) (ps := ["mark", "purse", "p", "q"]) (s := dn_bought) T.F_bought sc_bought (T.F_bought.binds (ps := ["mark", "purse", "p", "q"]) fun _ _ _ _ _ _ us hl => match us, hl with | [_, _, _, _], _ => rfl) fun cdv A_ outer sh H E' hr => ⟨(tSeq (tIfS (tOr (tTest (tOp (rI0 fun i j => V.bl (decide (j < i))) (tVar 2) (tVar 3))) (tAnd (tTest (tOp rEq (tVar 2) (tVar 3))) (tTest (tOp rEq (tVar 0) (tC (V.int 1)))))) (tRet (tTup (tCons (tC (V.int 1)) (tCons (tOp (rI0 fun i j => V.int (i - j)) (tVar 1) (tVar 2)) tNil)))) tNext)
    (tRet (tTup (tCons (tC (V.int 2)) (tCons (tOp (rI0 fun i j => V.int (i + j)) (tVar 1) (tVar 3)) tNil))))),
    (pss_cons (ps_if (PW.pt (pw_or (pt_cmpR op_gt (pv 2) (pv 3) (nomark _)) (pw_or1 (PW.pt (pw_and (pt_cmpR op_eq (pv 2) (pv 3) (nomark _)) (pw_and1 (pt_cmpR op_eq (pv 0) pe_int (nomark _)))))))) (pss_one (ps_ret (pe_tup (pa_cons pe_int (pa_cons (pe_op op_sub (pv 1) (pv 2)) pa_nil))))) pss_nil)
    (pss_one (ps_ret (pe_tup (pa_cons pe_int (pa_cons (pe_op op_add (pv 1) (pv 3)) pa_nil)))))),
    (ss_seq (ss_if (st_or (st_test (se_op2 s2_gt se_var se_var)) (st_and (st_test (se_op2 s2_eq se_var se_var)) (st_test (se_op2 s2_eq se_var se_int)))) (ss_ret (se_tup (sa_cons se_int (sa_cons (se_op2 s2_sub se_var se_var) sa_nil)))) ss_next)
    (ss_ret (se_tup (sa_cons se_int (sa_cons (se_op2 s2_add se_var se_var) sa_nil)))))⟩
theorem ok_check_listing_size (T : Txt c mg A) : FnR P w c.K mg base (L2.CX P w) 3 A.check_listing_size (spD c (D_check_listing_size A.ca)) :=
  fn_ss (N := Nn_check_listing_size) (ps := ["web", "k"]) (s := dn_check_listing_size A.ca) T.F_check_listing_size sc_check_listing_size (T.F_check_listing_size.binds (ps := ["web", "k"]) fun _ _ _ _ _ _ us hl => match us, hl with | [_, _], _ => rfl) fun cdv A_ outer sh H E' hr => ⟨(tSeq (tDrop (tCallS (spD c D_check_most) (fun _ => E') (tCons (tProp A.ca.Web (getSp A.ca.Web "_size") [] L2.E0 (tVar 0)) (tCons (tC (V.int 8)) tNil))))
    (tDrop (tCallS (spD c D_check_most) (fun _ => E') (tCons (tVar 1) (tCons (tC (V.int 12)) tNil))))),
    (pss_cons (ps_expr (pe_callRS (ok_check_most T) (hr.mono (by decide)) (by rfl) T.m_check_most T.F_check_most.kp (passE (takes_of rfl rfl rfl rfl)) (pa_cons (pe_prop (pv 0) T.f_Web.cl T.p_Web_size (getter_of T.F_Web_size gsc_Web_size rfl rfl T.f_Web.cl T.a_Web__size) (hr.mono (by decide)) (T.F_Web_size.binds (ps := ["self"]) fun _ _ _ _ _ _ us hl => match us, hl with | [_], _ => rfl) .nil passL rfl) (pa_cons (pe_gint (by rfl) T.c_MOST_STANDS_listing) pa_nil))))
    (pss_one (ps_expr (pe_callRS (ok_check_most T) (hr.mono (by decide)) (by rfl) T.m_check_most T.F_check_most.kp (passE (takes_of rfl rfl rfl rfl)) (pa_cons (pv 1) (pa_cons (pe_gint (by rfl) T.c_MOST_CHIPS) pa_nil)))))),
    (ss_seq (ss_drop (se_call (sa_cons (se_prop se_var) (sa_cons se_int sa_nil))))
    (ss_drop (se_call (sa_cons se_var (sa_cons se_int sa_nil)))))⟩
theorem ok_claimable (T : Txt c mg A) : FnR P w c.K mg base (L2.CX P w) 4 A.claimable (spD c (D_claimable A.ca)) :=
  fn_ss (N := Nn_claimable) (ps := ["web", "k"]) (s := dn_claimable A.ca) T.F_claimable sc_claimable (T.F_claimable.binds (ps := ["web", "k"]) fun _ _ _ _ _ _ us hl => match us, hl with | [_, _], _ => rfl) fun cdv A_ outer sh H E' hr => ⟨(tRet (tCB (rTupleF c.K) (tCons (tLc (iTup c.K (tCallS (spD c (D_dues_at A.ca)) (fun _ => E') (tCons (tVar 0) (tCons (tVar 1) tNil)))) (gName 3) tYes (tCB (rTupleF c.K) (tCons (tLc (iRng1 (tCons (tOp (rI0 fun i j => V.int (i + j)) (tVar 1) (tC (V.int 1))) tNil)) (gName 2) tYes (tOp (rI0 fun i j => V.bl (decide (j ≤ i))) (tVar 2) (tVar 3)) [2]) tNil)) [3]) tNil))),
    (pss_one (ps_ret (pe_callTy call_tuple_of (by rfl) T.n_tuple (by decide +kernel) (pa_cons (pe_lc (own := [("due", 3)]) (g := gName 3) (wi := (iTup c.K (tCallS (spD c (D_dues_at A.ca)) (fun _ => E') (tCons (tVar 0) (tCons (tVar 1) tNil))))) (tt := tYes) (te := (tCB (rTupleF c.K) (tCons (tLc (iRng1 (tCons (tOp (rI0 fun i j => V.int (i + j)) (tVar 1) (tC (V.int 1))) tNil)) (gName 2) tYes (tOp (rI0 fun i j => V.bl (decide (j ≤ i))) (tVar 2) (tVar 3)) [2]) tNil))) rfl sc_claimable.nd (pi_tup (pe_callRS (ok_dues_at T) (hr.mono (by decide)) (by rfl) T.m_dues_at T.F_dues_at.kp (passE (takes_of rfl rfl rfl rfl)) (pa_cons (pv 0) (pa_cons (pv 1) pa_nil)))) (blkOk_by (N := Nn_claimable) (sc := defScope s_claimable) (by decide +kernel)) (fun _ _ _ _ _ => pg_name (i := 3) sc_claimable.nd rfl (by first | exact Or.inl rfl | exact Or.inr rfl)) (fun _ _ _ _ _ => pts_nil) (fun _ _ _ _ _ => (pe_callTy call_tuple_of (by rfl) T.n_tuple (by decide +kernel) (pa_cons (pe_lc (own := [("purse", 2)]) (g := gName 2) (wi := (iRng1 (tCons (tOp (rI0 fun i j => V.int (i + j)) (tVar 1) (tC (V.int 1))) tNil))) (tt := tYes) (te := (tOp (rI0 fun i j => V.bl (decide (j ≤ i))) (tVar 2) (tVar 3))) rfl sc_claimable.nd (pi_range1 (by rfl) T.n_range (pa_cons (pe_op op_add (pv 1) pe_int) pa_nil)) (blkOk_by (by kernel_rfl)) (fun _ _ _ _ _ => pg_name (i := 2) sc_claimable.nd rfl (by first | exact Or.inl rfl | exact Or.inr rfl)) (fun _ _ _ _ _ => pts_nil) (fun _ _ _ _ _ => (pe_cmpR op_ge (pv 2) (pv 3) (nomark _)))) pa_nil)))) pa_nil)))),
    (ss_ret (se_cb sn_tuple (sa_cons (se_new (sen_comp (si_tup (se_call (sa_cons se_var (sa_cons se_var sa_nil)))) st_true (se_cb sn_tuple (sa_cons (se_new (sen_comp (si_rng1 (sa_cons (se_op2 s2_add se_var se_int) sa_nil)) st_true (se_op2 s2_ge se_var se_var))) sa_nil)))) sa_nil)))⟩
theorem ok_is_good (T : Txt c mg A) : FnR P w c.K mg base (L2.CX P w) 2 A.is_good (spD c (D_is_good)) :=
  fn_ss (N := Nn_is_good) (ps := ["mark", "purse", "p", "q", "open_to"]) (s := dn_is_good) T.F_is_good sc_is_good (T.F_is_good.binds (ps := ["mark", "purse", "p", "q", "open_to"]) fun _ _ _ _ _ _ us hl => match us, hl with | [_, _, _, _, _], _ => rfl) fun cdv A_ outer sh H E' hr => ⟨(tSeq (tAsg (tCallS (spD c D_bought) (fun _ => E') (tCons (tVar 0) (tCons (tVar 1) (tCons (tVar 2) (tCons (tVar 3) tNil))))) (gTup c.K 2 (gCons (gName 5) (gCons (gName 6) gNil))))
    (tRet (tOp (rIx c.K) (tOp (rIx c.K) (tVar 4) (tOp (rI0 fun i j => V.int (i - j)) (tVar 5) (tC (V.int 1)))) (tVar 6)))),
    (pss_cons (ps_asg (pe_callRS (ok_bought T) (hr.mono (by decide)) (by rfl) T.m_bought T.F_bought.kp (passE (takes_of rfl rfl rfl rfl)) (pa_cons (pv 0) (pa_cons (pv 1) (pa_cons (pv 2) (pa_cons (pv 3) pa_nil))))) (pg_tup rfl (pgs_cons (pg_name (i := 5) sc_is_good.nd rfl (by first | exact Or.inl rfl | exact Or.inr rfl)) (pgs_cons (pg_name (i := 6) sc_is_good.nd rfl (by first | exact Or.inl rfl | exact Or.inr rfl)) pgs_nil))))
    (pss_one (ps_ret (pe_ix ix_seq (pe_ix ix_seq (pv 4) (pe_op op_sub (pv 5) pe_int) (fun _ _ => rfl)) (pv 6) (fun _ _ => rfl))))),
    (ss_seq (ss_asg (se_call (sa_cons se_var (sa_cons se_var (sa_cons se_var (sa_cons se_var sa_nil))))) sg_pair)
    (ss_ret (se_op2 s2_ix (se_op2 s2_ix se_var (se_op2 s2_sub se_var se_int)) se_var)))⟩
theorem ok_forced (T : Txt c mg A) : FnR P w c.K mg base (L2.CX P w) 3 A.forced (spD c (D_forced)) :=
  fn_ss (N := Nn_forced) (ps := ["mark", "k", "purse", "open_to", "order"]) (s := dn_forced) T.F_forced sc_forced (T.F_forced.binds (ps := ["mark", "k", "purse", "open_to", "order"]) fun _ _ _ _ _ _ us hl => match us, hl with | [_, _, _, _, _], _ => rfl) fun cdv A_ outer sh H E' hr => ⟨(tSeq (tIfS (tTest (tOp rEq (tVar 4) (tC (V.str "second")))) (tSeq (tFor (iRng1 (tCons (tOp (rI0 fun i j => V.int (i + j)) (tOp (rI0 fun i j => V.int (i - j)) (tVar 1) (tVar 2)) (tC (V.int 1))) tNil)) (gName 5) (tIfS (tNot (fun σ H Q => (tCB (rAny c.K) (tCons (tLc (iRng1 (tCons (tOp (rI0 fun i j => V.int (i + j)) (tVar 2) (tC (V.int 1))) tNil)) (gName 6) tYes (tCallS (spD c D_is_good) (fun _ => L2.E0) (tCons (tVar 0) (tCons (tVar 2) (tCons (tVar 6) (tCons (tVar 5) (tCons (tVar 3) tNil)))))) [6]) tNil)) σ H fun x H' => ∃ k, TruV c.K x H' k ∧ Q k H')) (tRet (tC (V.bl false))) tNext))
    (tRet (tC (V.bl true)))) tNext)
    (tSeq (tFor (iRng1 (tCons (tOp (rI0 fun i j => V.int (i + j)) (tVar 2) (tC (V.int 1))) tNil)) (gName 6) (tIfS (fun σ H Q => (tCB (rAll c.K) (tCons (tLc (iRng1 (tCons (tOp (rI0 fun i j => V.int (i + j)) (tOp (rI0 fun i j => V.int (i - j)) (tVar 1) (tVar 2)) (tC (V.int 1))) tNil)) (gName 5) tYes (tCallS (spD c D_is_good) (fun _ => L2.E0) (tCons (tVar 0) (tCons (tVar 2) (tCons (tVar 6) (tCons (tVar 5) (tCons (tVar 3) tNil)))))) [5]) tNil)) σ H fun x H' => ∃ k, TruV c.K x H' k ∧ Q k H') (tRet (tC (V.bl true))) tNext))
    (tRet (tC (V.bl false))))),
    (pss_cons (ps_if (pt_cmpR op_eq (pv 4) pe_str (nomark _)) (pss_cons (ps_for (passes_of rfl) rfl (pi_range1 (by rfl) T.n_range (pa_cons (pe_op op_add (pe_op op_sub (pv 1) (pv 2)) pe_int) pa_nil)) (pg_name (i := 5) sc_forced.nd rfl (by first | exact Or.inl rfl | exact Or.inr rfl)) (pss_one (ps_if (pt_not (pt_truth (pe_callB (cr_any rfl) (by rfl) T.n_any (by decide +kernel) (pa_cons (pe_lc (own := [("p", 6)]) (g := gName 6) (wi := (iRng1 (tCons (tOp (rI0 fun i j => V.int (i + j)) (tVar 2) (tC (V.int 1))) tNil))) (tt := tYes) (te := (tCallS (spD c D_is_good) (fun _ => L2.E0) (tCons (tVar 0) (tCons (tVar 2) (tCons (tVar 6) (tCons (tVar 5) (tCons (tVar 3) tNil))))))) rfl sc_forced.nd (pi_range1 (by rfl) T.n_range (pa_cons (pe_op op_add (pv 2) pe_int) pa_nil)) (blkOk_by (N := Nn_forced) (sc := defScope s_forced) (by decide +kernel)) (fun _ _ _ _ _ => pg_name (i := 6) sc_forced.nd rfl (by first | exact Or.inl rfl | exact Or.inr rfl)) (fun _ _ _ _ _ => pts_nil) (fun _ _ _ _ _ => (pe_callRS (ok_is_good T) (hr.mono (by decide)) (by rfl) T.m_is_good T.F_is_good.kp passNo (pa_cons (pv 0) (pa_cons (pv 2) (pa_cons (pv 6) (pa_cons (pv 5) (pa_cons (pv 3) pa_nil)))))))) pa_nil)) (by intro _; rfl))) (pss_one (ps_ret pe_bl)) pss_nil)))
    (pss_one (ps_ret pe_bl))) pss_nil)
    (pss_cons (ps_for (passes_of rfl) rfl (pi_range1 (by rfl) T.n_range (pa_cons (pe_op op_add (pv 2) pe_int) pa_nil)) (pg_name (i := 6) sc_forced.nd rfl (by first | exact Or.inl rfl | exact Or.inr rfl)) (pss_one (ps_if (pt_truth (pe_callB (cr_all rfl) (by rfl) T.n_all (by decide +kernel) (pa_cons (pe_lc (own := [("q", 5)]) (g := gName 5) (wi := (iRng1 (tCons (tOp (rI0 fun i j => V.int (i + j)) (tOp (rI0 fun i j => V.int (i - j)) (tVar 1) (tVar 2)) (tC (V.int 1))) tNil))) (tt := tYes) (te := (tCallS (spD c D_is_good) (fun _ => L2.E0) (tCons (tVar 0) (tCons (tVar 2) (tCons (tVar 6) (tCons (tVar 5) (tCons (tVar 3) tNil))))))) rfl sc_forced.nd (pi_range1 (by rfl) T.n_range (pa_cons (pe_op op_add (pe_op op_sub (pv 1) (pv 2)) pe_int) pa_nil)) (blkOk_by (N := Nn_forced) (sc := defScope s_forced) (by decide +kernel)) (fun _ _ _ _ _ => pg_name (i := 5) sc_forced.nd rfl (by first | exact Or.inl rfl | exact Or.inr rfl)) (fun _ _ _ _ _ => pts_nil) (fun _ _ _ _ _ => (pe_callRS (ok_is_good T) (hr.mono (by decide)) (by rfl) T.m_is_good T.F_is_good.kp passNo (pa_cons (pv 0) (pa_cons (pv 2) (pa_cons (pv 6) (pa_cons (pv 5) (pa_cons (pv 3) pa_nil)))))))) pa_nil)) (by intro _; rfl)) (pss_one (ps_ret pe_bl)) pss_nil)))
    (pss_one (ps_ret pe_bl)))),
    (ss_seq (ss_if (st_test (se_op2 s2_eq se_var se_str)) (ss_seq (ss_for (si_rng1 (sa_cons (se_op2 s2_add (se_op2 s2_sub se_var se_var) se_int) sa_nil)) sg_name (ss_if (st_not (st_tru (se_cb sn_any (sa_cons (se_new (sen_comp (si_rng1 (sa_cons (se_op2 s2_add se_var se_int) sa_nil)) st_true (se_call (sa_cons se_var (sa_cons se_var (sa_cons se_var (sa_cons se_var (sa_cons se_var sa_nil)))))))) sa_nil)))) (ss_ret se_bl) ss_next))
    (ss_ret se_bl)) ss_next)
    (ss_seq (ss_for (si_rng1 (sa_cons (se_op2 s2_add se_var se_int) sa_nil)) sg_name (ss_if (st_tru (se_cb sn_all (sa_cons (se_new (sen_comp (si_rng1 (sa_cons (se_op2 s2_add (se_op2 s2_sub se_var se_var) se_int) sa_nil)) st_true (se_call (sa_cons se_var (sa_cons se_var (sa_cons se_var (sa_cons se_var (sa_cons se_var sa_nil)))))))) sa_nil))) (ss_ret se_bl) ss_next))
    (ss_ret se_bl)))⟩
theorem ok_stand_behind (T : Txt c mg A) : FnR P w c.K mg base (L2.CX P w) 4 A.stand_behind (spD c (D_stand_behind A.ca)) :=
  fn_ss (N := Nn_stand_behind) (ps := ["web", "k", "level", "order", "stand", "claims"]) (s := dn_stand_behind A.ca) T.F_stand_behind sc_stand_behind (T.F_stand_behind.binds (ps := ["web", "k", "level", "order", "stand", "claims"]) fun _ _ _ _ _ _ us hl => match us, hl with | [_, _, _, _, _, _], _ => rfl) fun cdv A_ outer sh H E' hr => ⟨(tSeq (tIfS (tNot (fun σ H Q => (tOp (rIx c.K) (tProp A.ca.Web (getSp A.ca.Web "_first") [] L2.E0 (tVar 0)) (tVar 4)) σ H fun x H' => ∃ k, TruV c.K x H' k ∧ Q k H')) (tRet (tVar 5)) tNext)
    (tSeq (tAsg (tLc (iRng1 (tCons (tOp (rI0 fun i j => V.int (i + j)) (tVar 1) (tC (V.int 1))) tNil)) (gName 8) tYes (tLc (iTup c.K (tOp (rIx c.K) (tProp A.ca.Web (getSp A.ca.Web "_first") [] L2.E0 (tVar 0)) (tVar 4))) (gName 7) tYes (tOp (rIx c.K) (tOp (rIx c.K) (tVar 2) (tVar 7)) (tVar 8)) [7]) [8]) (gName 6))
    (tSeq (tAsg (tLc (iRng1 (tCons (tOp (rI0 fun i j => V.int (i + j)) (tVar 1) (tC (V.int 1))) tNil)) (gName 8) tYes (tLc (iTup c.K (tOp (rIx c.K) (tProp A.ca.Web (getSp A.ca.Web "_second") [] L2.E0 (tVar 0)) (tVar 4))) (gName 7) tYes (tOp (rIx c.K) (tOp (rIx c.K) (tVar 2) (tVar 7)) (tVar 8)) [7]) [8]) (gName 9))
    (tSeq (tAsg (tTup (tCons (tLc (iList c.K (tVar 6)) (gName 11) tYes (tCB (rAny c.K) (tCons (tVar 11) tNil)) [11]) (tCons (tLc (iList c.K (tVar 9)) (gName 11) tYes (tCB (rAll c.K) (tCons (tVar 11) tNil)) [11]) tNil))) (gName 10))
    (tRet (tCB (rTupleF c.K) (tCons (tLc (iEnumS c.K (tCons (tVar 5) tNil)) (gTup c.K 2 (gCons (gName 8) (gCons (gName 12) gNil))) tYes (tOrV (tVar 12) (tCallS (spD c D_forced) (fun _ => L2.E0) (tCons (tOp (rIx c.K) (tProp A.ca.Web (getSp A.ca.Web "_marks") [] L2.E0 (tVar 0)) (tVar 4)) (tCons (tVar 1) (tCons (tVar 8) (tCons (tVar 10) (tCons (tVar 3) tNil))))))) [8, 12]) tNil))))))),
    (pss_cons (ps_if (pt_not (pt_truth (pe_ix ix_seq (pe_prop (pv 0) T.f_Web.cl T.p_Web_first (getter_of T.F_Web_first gsc_Web_first rfl rfl T.f_Web.cl T.a_Web__first) (hr.mono (by decide)) (T.F_Web_first.binds (ps := ["self"]) fun _ _ _ _ _ _ us hl => match us, hl with | [_], _ => rfl) .nil passL rfl) (pv 4) (fun _ _ => rfl)) (by intro _; rfl))) (pss_one (ps_ret (pv 5))) pss_nil)
    (pss_cons (ps_setLc (i := 6) (own := [("purse", 8)]) (g := gName 8) (wi := (iRng1 (tCons (tOp (rI0 fun i j => V.int (i + j)) (tVar 1) (tC (V.int 1))) tNil))) (tt := tYes) (te := (tLc (iTup c.K (tOp (rIx c.K) (tProp A.ca.Web (getSp A.ca.Web "_first") [] L2.E0 (tVar 0)) (tVar 4))) (gName 7) tYes (tOp (rIx c.K) (tOp (rIx c.K) (tVar 2) (tVar 7)) (tVar 8)) [7])) rfl sc_stand_behind.nd rfl rfl (sw_true rfl rfl rfl (by decide +kernel)) (pi_range1 (by rfl) T.n_range (pa_cons (pe_op op_add (pv 1) pe_int) pa_nil)) (blkOk_by (N := Nn_stand_behind) (sc := defScope s_stand_behind) (by decide +kernel)) (fun _ _ _ _ _ => pg_name (i := 8) sc_stand_behind.nd rfl (by first | exact Or.inl rfl | exact Or.inr rfl)) (fun _ _ _ _ _ => pts_nil) (fun _ _ _ _ _ => (pe_lc (own := [("step", 7)]) (g := gName 7) (wi := (iTup c.K (tOp (rIx c.K) (tProp A.ca.Web (getSp A.ca.Web "_first") [] L2.E0 (tVar 0)) (tVar 4)))) (tt := tYes) (te := (tOp (rIx c.K) (tOp (rIx c.K) (tVar 2) (tVar 7)) (tVar 8))) rfl sc_stand_behind.nd (pi_tup (pe_ix ix_seq (pe_prop (pv 0) T.f_Web.cl T.p_Web_first (getter_of T.F_Web_first gsc_Web_first rfl rfl T.f_Web.cl T.a_Web__first) (hr.mono (by decide)) (T.F_Web_first.binds (ps := ["self"]) fun _ _ _ _ _ _ us hl => match us, hl with | [_], _ => rfl) .nil passL rfl) (pv 4) (fun _ _ => rfl))) (blkOk_by (by kernel_rfl)) (fun _ _ _ _ _ => pg_name (i := 7) sc_stand_behind.nd rfl (by first | exact Or.inl rfl | exact Or.inr rfl)) (fun _ _ _ _ _ => pts_nil) (fun _ _ _ _ _ => (pe_ix ix_seq (pe_ix ix_seq (pv 2) (pv 7) (fun _ _ => rfl)) (pv 8) (fun _ _ => rfl))))))
    (pss_cons (ps_setLc (i := 9) (own := [("purse", 8)]) (g := gName 8) (wi := (iRng1 (tCons (tOp (rI0 fun i j => V.int (i + j)) (tVar 1) (tC (V.int 1))) tNil))) (tt := tYes) (te := (tLc (iTup c.K (tOp (rIx c.K) (tProp A.ca.Web (getSp A.ca.Web "_second") [] L2.E0 (tVar 0)) (tVar 4))) (gName 7) tYes (tOp (rIx c.K) (tOp (rIx c.K) (tVar 2) (tVar 7)) (tVar 8)) [7])) rfl sc_stand_behind.nd rfl rfl (sw_true rfl rfl rfl (by decide +kernel)) (pi_range1 (by rfl) T.n_range (pa_cons (pe_op op_add (pv 1) pe_int) pa_nil)) (blkOk_by (N := Nn_stand_behind) (sc := defScope s_stand_behind) (by decide +kernel)) (fun _ _ _ _ _ => pg_name (i := 8) sc_stand_behind.nd rfl (by first | exact Or.inl rfl | exact Or.inr rfl)) (fun _ _ _ _ _ => pts_nil) (fun _ _ _ _ _ => (pe_lc (own := [("step", 7)]) (g := gName 7) (wi := (iTup c.K (tOp (rIx c.K) (tProp A.ca.Web (getSp A.ca.Web "_second") [] L2.E0 (tVar 0)) (tVar 4)))) (tt := tYes) (te := (tOp (rIx c.K) (tOp (rIx c.K) (tVar 2) (tVar 7)) (tVar 8))) rfl sc_stand_behind.nd (pi_tup (pe_ix ix_seq (pe_prop (pv 0) T.f_Web.cl T.p_Web_second (getter_of T.F_Web_second gsc_Web_second rfl rfl T.f_Web.cl T.a_Web__second) (hr.mono (by decide)) (T.F_Web_second.binds (ps := ["self"]) fun _ _ _ _ _ _ us hl => match us, hl with | [_], _ => rfl) .nil passL rfl) (pv 4) (fun _ _ => rfl))) (blkOk_by (by kernel_rfl)) (fun _ _ _ _ _ => pg_name (i := 7) sc_stand_behind.nd rfl (by first | exact Or.inl rfl | exact Or.inr rfl)) (fun _ _ _ _ _ => pts_nil) (fun _ _ _ _ _ => (pe_ix ix_seq (pe_ix ix_seq (pv 2) (pv 7) (fun _ _ => rfl)) (pv 8) (fun _ _ => rfl))))))
    (pss_cons (ps_asg (pe_tup (pa_cons (pe_lc (own := [("row", 11)]) (g := gName 11) (wi := (iList c.K (tVar 6))) (tt := tYes) (te := (tCB (rAny c.K) (tCons (tVar 11) tNil))) rfl sc_stand_behind.nd (pi_list (pv 6)) (blkOk_by (N := Nn_stand_behind) (sc := defScope s_stand_behind) (by decide +kernel)) (fun _ _ _ _ _ => pg_name (i := 11) sc_stand_behind.nd rfl (by first | exact Or.inl rfl | exact Or.inr rfl)) (fun _ _ _ _ _ => pts_nil) (fun _ _ _ _ _ => (pe_callB (cr_any rfl) (by rfl) T.n_any (by decide +kernel) (pa_cons (pv 11) pa_nil)))) (pa_cons (pe_lc (own := [("row", 11)]) (g := gName 11) (wi := (iList c.K (tVar 9))) (tt := tYes) (te := (tCB (rAll c.K) (tCons (tVar 11) tNil))) rfl sc_stand_behind.nd (pi_list (pv 9)) (blkOk_by (N := Nn_stand_behind) (sc := defScope s_stand_behind) (by decide +kernel)) (fun _ _ _ _ _ => pg_name (i := 11) sc_stand_behind.nd rfl (by first | exact Or.inl rfl | exact Or.inr rfl)) (fun _ _ _ _ _ => pts_nil) (fun _ _ _ _ _ => (pe_callB (cr_all rfl) (by rfl) T.n_all (by decide +kernel) (pa_cons (pv 11) pa_nil)))) pa_nil))) (pg_name (i := 10) sc_stand_behind.nd rfl (by first | exact Or.inl rfl | exact Or.inr rfl)))
    (pss_one (ps_ret (pe_callTy call_tuple_of (by rfl) T.n_tuple (by decide +kernel) (pa_cons (pe_lc (own := [("purse", 8), ("claim", 12)]) (g := (gTup c.K 2 (gCons (gName 8) (gCons (gName 12) gNil)))) (wi := (iEnumS c.K (tCons (tVar 5) tNil))) (tt := tYes) (te := (tOrV (tVar 12) (tCallS (spD c D_forced) (fun _ => L2.E0) (tCons (tOp (rIx c.K) (tProp A.ca.Web (getSp A.ca.Web "_marks") [] L2.E0 (tVar 0)) (tVar 4)) (tCons (tVar 1) (tCons (tVar 8) (tCons (tVar 10) (tCons (tVar 3) tNil)))))))) rfl sc_stand_behind.nd (pi_enumS (by rfl) T.n_enumerate (pa_cons (pv 5) pa_nil)) (blkOk_by (N := Nn_stand_behind) (sc := defScope s_stand_behind) (by decide +kernel)) (fun _ _ _ _ _ => pg_tup rfl (pgs_cons (pg_name (i := 8) sc_stand_behind.nd rfl (by first | exact Or.inl rfl | exact Or.inr rfl)) (pgs_cons (pg_name (i := 12) sc_stand_behind.nd rfl (by first | exact Or.inl rfl | exact Or.inr rfl)) pgs_nil))) (fun _ _ _ _ _ => pts_nil) (fun _ _ _ _ _ => (pe_or (pv 12) (pe_one (pe_callRS (ok_forced T) (hr.mono (by decide)) (by rfl) T.m_forced T.F_forced.kp passNo (pa_cons (pe_ix ix_seq (pe_prop (pv 0) T.f_Web.cl T.p_Web_marks (getter_of T.F_Web_marks gsc_Web_marks rfl rfl T.f_Web.cl T.a_Web__marks) (hr.mono (by decide)) (T.F_Web_marks.binds (ps := ["self"]) fun _ _ _ _ _ _ us hl => match us, hl with | [_], _ => rfl) .nil passL rfl) (pv 4) (fun _ _ => rfl)) (pa_cons (pv 1) (pa_cons (pv 8) (pa_cons (pv 10) (pa_cons (pv 3) pa_nil)))))))))) pa_nil)))))))),
    (ss_seq (ss_if (st_not (st_tru (se_op2 s2_ix (se_prop se_var) se_var))) (ss_ret se_var) ss_next)
    (ss_seq (ss_asg (se_new (sen_comp (si_rng1 (sa_cons (se_op2 s2_add se_var se_int) sa_nil)) st_true (se_new (sen_comp (si_tup (se_op2 s2_ix (se_prop se_var) se_var)) st_true (se_op2 s2_ix (se_op2 s2_ix se_var se_var) se_var))))) sg_name)
    (ss_seq (ss_asg (se_new (sen_comp (si_rng1 (sa_cons (se_op2 s2_add se_var se_int) sa_nil)) st_true (se_new (sen_comp (si_tup (se_op2 s2_ix (se_prop se_var) se_var)) st_true (se_op2 s2_ix (se_op2 s2_ix se_var se_var) se_var))))) sg_name)
    (ss_seq (ss_asg (se_tup (sa_cons (se_new (sen_comp (si_list se_var) st_true (se_cb sn_any (sa_cons se_var sa_nil)))) (sa_cons (se_new (sen_comp (si_list se_var) st_true (se_cb sn_all (sa_cons se_var sa_nil)))) sa_nil))) sg_name)
    (ss_ret (se_cb sn_tuple (sa_cons (se_new (sen_comp2 (si_enumS (sa_cons se_var sa_nil)) st_true (se_or se_var (se_call (sa_cons (se_op2 s2_ix (se_prop se_var) se_var) (sa_cons se_var (sa_cons se_var (sa_cons se_var (sa_cons se_var sa_nil))))))))) sa_nil)))))))⟩
theorem ok_level_behind (T : Txt c mg A) : FnR P w c.K mg base (L2.CX P w) 5 A.level_behind (spD c (D_level_behind A.ca)) :=
  fn_ss (N := Nn_level_behind) (ps := ["web", "k", "level", "order"]) (s := dn_level_behind A.ca) T.F_level_behind sc_level_behind (T.F_level_behind.binds (ps := ["web", "k", "level", "order"]) fun _ _ _ _ _ _ us hl => match us, hl with | [_, _, _, _], _ => rfl) fun cdv A_ outer sh H E' hr => ⟨(tSeq (tAsg (tCallS (spD c (D_claimable A.ca)) (fun _ => E') (tCons (tVar 0) (tCons (tVar 1) tNil))) (gName 4))
    (tRet (tCB (rTupleF c.K) (tCons (tLc (iRng1 (tCons (tProp A.ca.Web (getSp A.ca.Web "_size") [] L2.E0 (tVar 0)) tNil)) (gName 5) tYes (tCallS (spD c (D_stand_behind A.ca)) (fun _ => L2.E0) (tCons (tVar 0) (tCons (tVar 1) (tCons (tVar 2) (tCons (tVar 3) (tCons (tVar 5) (tCons (tOp (rIx c.K) (tVar 4) (tVar 5)) tNil))))))) [5]) tNil)))),
    (pss_cons (ps_asg (pe_callRS (ok_claimable T) (hr.mono (by decide)) (by rfl) T.m_claimable T.F_claimable.kp (passE (takes_of rfl rfl rfl rfl)) (pa_cons (pv 0) (pa_cons (pv 1) pa_nil))) (pg_name (i := 4) sc_level_behind.nd rfl (by first | exact Or.inl rfl | exact Or.inr rfl)))
    (pss_one (ps_ret (pe_callTy call_tuple_of (by rfl) T.n_tuple (by decide +kernel) (pa_cons (pe_lc (own := [("stand", 5)]) (g := gName 5) (wi := (iRng1 (tCons (tProp A.ca.Web (getSp A.ca.Web "_size") [] L2.E0 (tVar 0)) tNil))) (tt := tYes) (te := (tCallS (spD c (D_stand_behind A.ca)) (fun _ => L2.E0) (tCons (tVar 0) (tCons (tVar 1) (tCons (tVar 2) (tCons (tVar 3) (tCons (tVar 5) (tCons (tOp (rIx c.K) (tVar 4) (tVar 5)) tNil)))))))) rfl sc_level_behind.nd (pi_range1 (by rfl) T.n_range (pa_cons (pe_prop (pv 0) T.f_Web.cl T.p_Web_size (getter_of T.F_Web_size gsc_Web_size rfl rfl T.f_Web.cl T.a_Web__size) (hr.mono (by decide)) (T.F_Web_size.binds (ps := ["self"]) fun _ _ _ _ _ _ us hl => match us, hl with | [_], _ => rfl) .nil passL rfl) pa_nil)) (blkOk_by (N := Nn_level_behind) (sc := defScope s_level_behind) (by decide +kernel)) (fun _ _ _ _ _ => pg_name (i := 5) sc_level_behind.nd rfl (by first | exact Or.inl rfl | exact Or.inr rfl)) (fun _ _ _ _ _ => pts_nil) (fun _ _ _ _ _ => (pe_callRS (ok_stand_behind T) (hr.mono (by decide)) (by rfl) T.m_stand_behind T.F_stand_behind.kp passNo (pa_cons (pv 0) (pa_cons (pv 1) (pa_cons (pv 2) (pa_cons (pv 3) (pa_cons (pv 5) (pa_cons (pe_ix ix_seq (pv 4) (pv 5) (fun _ _ => rfl)) pa_nil))))))))) pa_nil))))),
    (ss_seq (ss_asg (se_call (sa_cons se_var (sa_cons se_var sa_nil))) sg_name)
    (ss_ret (se_cb sn_tuple (sa_cons (se_new (sen_comp (si_rng1 (sa_cons (se_prop se_var) sa_nil)) st_true (se_call (sa_cons se_var (sa_cons se_var (sa_cons se_var (sa_cons se_var (sa_cons se_var (sa_cons (se_op2 s2_ix se_var se_var) sa_nil))))))))) sa_nil))))⟩
theorem ok4_won_states (T : Txt c mg A) : FnOk P w c.K mg base (L2.CX P w) 6 A.won_states A.fd_won_states ["web", "k", "steps", "order"] (spD c (D4_won_states A.ca)) :=
  fn_ssK (N := Nn_won_states) (ps := ["web", "k", "steps", "order"]) (s := dn_won_states A.ca) T.F_won_states sc_won_states fun cdv A_ outer sh H E' hr => ⟨(tSeq (tDrop (tCallS (spD c (D_check_web A.ca)) (fun _ => E') (tCons (tVar 0) tNil)))
    (tSeq (tDrop (tCallS (spD c D_check_whole) (fun _ => E') (tCons (tVar 1) tNil)))
    (tSeq (tIfS (tTest (tOp rNotNF (tVar 2) (tC V.non))) (tDrop (tCallS (spD c D_check_whole) (fun _ => E') (tCons (tVar 2) tNil))) tNext)
    (tSeq (tIfS (tNot (fun σ H Q => (tCB (rIsi c.K) (tCons (tVar 3) (tCons (tC (V.ty "str")) tNil))) σ H fun x H' => ∃ k, TruV c.K x H' k ∧ Q k H')) (fun _ σ H => E' (Value.ref (c.ec 0)) none H) tNext)
    (tSeq (tDrop (tCallS (spD c D_check_least) (fun _ => E') (tCons (tVar 1) (tCons (tC (V.int 0)) tNil))))
    (tSeq (tIfS (tTest (tOp rNotNF (tVar 2) (tC V.non))) (tDrop (tCallS (spD c D_check_least) (fun _ => E') (tCons (tVar 2) (tCons (tC (V.int 0)) tNil)))) tNext)
    (tSeq (tIfS (tTest (tOp (rIn c.K true) (tVar 3) (tC (V.ref A.g_ORDERS)))) (fun _ σ H => E' (Value.ref (c.ec 1)) none H) tNext)
    (tSeq (tDrop (tCallS (spD c (D_check_listing_size A.ca)) (fun _ => E') (tCons (tVar 0) (tCons (tVar 1) tNil))))
    (tSeq (tAsg (tCallS (spD c (D_claimable A.ca)) (fun _ => E') (tCons (tVar 0) (tCons (tVar 1) tNil))) (gName 4))
    (tSeq (tAsg (tCallS (spD c (D_level_behind A.ca)) (fun _ => E') (tCons (tVar 0) (tCons (tVar 1) (tCons (tVar 4) (tCons (tVar 3) tNil))))) (gName 5))
    (tSeq (tAsg (tC (V.int 0)) (gName 6))
    (tSeq (tWhile (tAnd (tTest (tOp (rNeD c.K) (tVar 5) (tVar 4))) (tOr (tTest (tOp rIsNF (tVar 2) (tC V.non))) (tTest (tOp (rI0 fun i j => V.bl (decide (i < j))) (tVar 6) (tVar 2))))) (tSeq (tAsg (tVar 5) (gName 4))
    (tSeq (tAsg (tCallS (spD c (D_level_behind A.ca)) (fun _ => E') (tCons (tVar 0) (tCons (tVar 1) (tCons (tVar 4) (tCons (tVar 3) tNil))))) (gName 5))
    (tAug 6 (tC (V.int 1)) (ipI fun i j => i + j)))))
    (tRet (tVar 4)))))))))))))),
    (pss_cons (ps_expr (pe_callRS (ok_check_web T) (hr.mono (by decide)) (by rfl) T.m_check_web T.F_check_web.kp (passE (takes_of rfl rfl rfl rfl)) (pa_cons (pv 0) pa_nil)))
    (pss_cons (ps_expr (pe_callRS (ok_check_whole T) (hr.mono (by decide)) (by rfl) T.m_check_whole T.F_check_whole.kp (passE (takes_of rfl rfl rfl rfl)) (pa_cons (pv 1) pa_nil)))
    (pss_cons (ps_if (pt_cmpR op_notN (pv 2) pe_non (nomark _)) (pss_one (ps_expr (pe_callRS (ok_check_whole T) (hr.mono (by decide)) (by rfl) T.m_check_whole T.F_check_whole.kp (passE (takes_of rfl rfl rfl rfl)) (pa_cons (pv 2) pa_nil)))) pss_nil)
    (pss_cons (ps_if (pt_not (pt_truth (pe_callB call_isi (by rfl) T.n_isinstance (by decide +kernel) (pa_cons (pv 3) (pa_cons (pe_bltn (v := V.ty "str") (by rfl) T.n_str (by decide +kernel) rfl) pa_nil))) (by intro _; rfl))) (pss_one (ps_raise rfl (takes_of rfl rfl rfl rfl) (pmk_own PySem.F.excBase_Exception T.xE0 T.mE0 T.kE0 (raises_own T.bE0 T.tE0) (by exact rfl)))) pss_nil)
    (pss_cons (ps_expr (pe_callRS (ok_check_least T) (hr.mono (by decide)) (by rfl) T.m_check_least T.F_check_least.kp (passE (takes_of rfl rfl rfl rfl)) (pa_cons (pv 1) (pa_cons pe_int pa_nil))))
    (pss_cons (ps_if (pt_cmpR op_notN (pv 2) pe_non (nomark _)) (pss_one (ps_expr (pe_callRS (ok_check_least T) (hr.mono (by decide)) (by rfl) T.m_check_least T.F_check_least.kp (passE (takes_of rfl rfl rfl rfl)) (pa_cons (pv 2) (pa_cons pe_int pa_nil))))) pss_nil)
    (pss_cons (ps_if (pt_cmpR op_notIn_seq (pv 3) (pe_glob (by rfl) T.m_ORDERS rfl) rfl) (pss_one (ps_raise rfl (takes_of rfl rfl rfl rfl) (pmk_own PySem.F.excBase_Exception T.xE1 T.mE1 T.kE1 (raises_own T.bE1 T.tE1) (by exact rfl)))) pss_nil)
    (pss_cons (ps_expr (pe_callRS (ok_check_listing_size T) (hr.mono (by decide)) (by rfl) T.m_check_listing_size T.F_check_listing_size.kp (passE (takes_of rfl rfl rfl rfl)) (pa_cons (pv 0) (pa_cons (pv 1) pa_nil))))
    (pss_cons (ps_asg (pe_callRS (ok_claimable T) (hr.mono (by decide)) (by rfl) T.m_claimable T.F_claimable.kp (passE (takes_of rfl rfl rfl rfl)) (pa_cons (pv 0) (pa_cons (pv 1) pa_nil))) (pg_name (i := 4) sc_won_states.nd rfl (by first | exact Or.inl rfl | exact Or.inr rfl)))
    (pss_cons (ps_asg (pe_callRS (ok_level_behind T) (hr.mono (by decide)) (by rfl) T.m_level_behind T.F_level_behind.kp (passE (takes_of rfl rfl rfl rfl)) (pa_cons (pv 0) (pa_cons (pv 1) (pa_cons (pv 4) (pa_cons (pv 3) pa_nil))))) (pg_name (i := 5) sc_won_states.nd rfl (by first | exact Or.inl rfl | exact Or.inr rfl)))
    (pss_cons (ps_asg pe_int (pg_name (i := 6) sc_won_states.nd rfl (by first | exact Or.inl rfl | exact Or.inr rfl)))
    (pss_cons (ps_while (passes_of rfl) (PW.pt (pw_and (pt_cmpR (op_neD (hr.units)) (pv 5) (pv 4) (nomark _)) (pw_and1 (PW.pt (pw_or (pt_cmpR op_isN (pv 2) pe_non (nomark _)) (pw_or1 (pt_cmpR op_lt (pv 6) (pv 2) (nomark _)))))))) (pss_cons (ps_asg (pv 5) (pg_name (i := 4) sc_won_states.nd rfl (by first | exact Or.inl rfl | exact Or.inr rfl)))
    (pss_cons (ps_asg (pe_callRS (ok_level_behind T) (hr.mono (by decide)) (by rfl) T.m_level_behind T.F_level_behind.kp (passE (takes_of rfl rfl rfl rfl)) (pa_cons (pv 0) (pa_cons (pv 1) (pa_cons (pv 4) (pa_cons (pv 3) pa_nil))))) (pg_name (i := 5) sc_won_states.nd rfl (by first | exact Or.inl rfl | exact Or.inr rfl)))
    (pss_one (ps_aug (i := 6) sc_won_states.nd rfl (by first | exact Or.inl rfl | exact Or.inr rfl) pe_int ip_add)))))
    (pss_one (ps_ret (pv 4))))))))))))))),
    (ss_seq (ss_drop (se_call (sa_cons se_var sa_nil)))
    (ss_seq (ss_drop (se_call (sa_cons se_var sa_nil)))
    (ss_seq (ss_if (st_test (se_op2 s2_notN se_var se_non)) (ss_drop (se_call (sa_cons se_var sa_nil))) ss_next)
    (ss_seq (ss_if (st_not (st_tru (se_cb sn_is1 (sa_cons se_var (sa_cons (se_c fun _ _ => At.ty Ty.str) sa_nil))))) (ss_raise (n := 0)) ss_next)
    (ss_seq (ss_drop (se_call (sa_cons se_var (sa_cons se_int sa_nil))))
    (ss_seq (ss_if (st_test (se_op2 s2_notN se_var se_non)) (ss_drop (se_call (sa_cons se_var (sa_cons se_int sa_nil)))) ss_next)
    (ss_seq (ss_if (st_test (se_inG T.g_ORDERS rfl se_var)) (ss_raise (n := 1)) ss_next)
    (ss_seq (ss_drop (se_call (sa_cons se_var (sa_cons se_var sa_nil))))
    (ss_seq (ss_asg (se_call (sa_cons se_var (sa_cons se_var sa_nil))) sg_name)
    (ss_seq (ss_asg (se_call (sa_cons se_var (sa_cons se_var (sa_cons se_var (sa_cons se_var sa_nil))))) sg_name)
    (ss_seq (ss_asg se_int sg_name)
    (ss_seq (ss_while (st_and (st_test (se_op2 s2_neD se_var se_var)) (st_or (st_test (se_op2 s2_isN se_var se_non)) (st_test (se_op2 s2_lt se_var se_var)))) (ss_seq (ss_asg se_var sg_name)
    (ss_seq (ss_asg (se_call (sa_cons se_var (sa_cons se_var (sa_cons se_var (sa_cons se_var sa_nil))))) sg_name)
    (ss_aug se_int))))
    (ss_ret se_var)))))))))))))⟩
theorem ok_won_states (T : Txt c mg A) : FnR P w c.K mg base (L2.CX P w) 6 A.won_states (spD c (D_won_states A.ca)) :=
  fn_plainK (ps := ["web", "k", "steps", "order"]) T.F_won_states (ok4_won_states T) (fun _ _ => .non) (fun _ _ => .str "sealed") (fun _ _ _ _ _ _ _ us its ks hl ht hk => match us, its, ks, hl, ht, hk with | [_, _], [_], [_], _, _, _ => ⟨_, rfl, ⟨_, _, _, _, _, _, rfl, rfl, rfl⟩⟩) (fun _ _ _ _ _ _ _ us its ks hl ht hk => match us, its, ks, hl, ht, hk with | [_, _, _], [_], [_], _, _, _ => ⟨_, rfl, ⟨_, _, _, _, _, _, rfl, rfl, rfl⟩⟩) (by decide)
theorem ok_level_of (T : Txt c mg A) : FnR P w c.K mg base (L2.CX P w) 6 A.level_of (spD c (D_level_of A.ca)) :=
  fn_ss (N := Nn_level_of) (ps := ["web", "k", "stand", "purse"]) (s := dn_level_of A.ca) T.F_level_of sc_level_of (T.F_level_of.binds (ps := ["web", "k", "stand", "purse"]) fun _ _ _ _ _ _ us hl => match us, hl with | [_, _, _, _], _ => rfl) fun cdv A_ outer sh H E' hr => ⟨(tSeq (tDrop (tCallS (spD c (D_check_state A.ca)) (fun _ => E') (tCons (tVar 0) (tCons (tVar 1) (tCons (tVar 2) (tCons (tVar 3) tNil))))))
    (tSeq (tDrop (tCallS (spD c (D_check_listing_size A.ca)) (fun _ => E') (tCons (tVar 0) (tCons (tVar 1) tNil))))
    (tSeq (tAsg (tCallS (spD c (D_claimable A.ca)) (fun _ => E') (tCons (tVar 0) (tCons (tVar 1) tNil))) (gName 4))
    (tSeq (tAsg (tCallS (spD c (D_level_behind A.ca)) (fun _ => E') (tCons (tVar 0) (tCons (tVar 1) (tCons (tVar 4) (tCons (tC (V.str "sealed")) tNil))))) (gName 5))
    (tSeq (tAsg (tC (V.int 0)) (gName 6))
    (tSeq (tWhile (tAnd (tTest (tOp (rNeD c.K) (tVar 5) (tVar 4))) (tNot (fun σ H Q => (tOp (rIx c.K) (tOp (rIx c.K) (tVar 4) (tVar 2)) (tVar 3)) σ H fun x H' => ∃ k, TruV c.K x H' k ∧ Q k H'))) (tSeq (tAsg (tVar 5) (gName 4))
    (tSeq (tAsg (tCallS (spD c (D_level_behind A.ca)) (fun _ => E') (tCons (tVar 0) (tCons (tVar 1) (tCons (tVar 4) (tCons (tC (V.str "sealed")) tNil))))) (gName 5))
    (tAug 6 (tC (V.int 1)) (ipI fun i j => i + j)))))
    (tRet (tIf (fun σ H Q => (tOp (rIx c.K) (tOp (rIx c.K) (tVar 4) (tVar 2)) (tVar 3)) σ H fun x H' => ∃ k, TruV c.K x H' k ∧ Q k H') (tVar 6) (tC V.non))))))))),
    (pss_cons (ps_expr (pe_callRS (ok_check_state T) (hr.mono (by decide)) (by rfl) T.m_check_state T.F_check_state.kp (passE (takes_of rfl rfl rfl rfl)) (pa_cons (pv 0) (pa_cons (pv 1) (pa_cons (pv 2) (pa_cons (pv 3) pa_nil))))))
    (pss_cons (ps_expr (pe_callRS (ok_check_listing_size T) (hr.mono (by decide)) (by rfl) T.m_check_listing_size T.F_check_listing_size.kp (passE (takes_of rfl rfl rfl rfl)) (pa_cons (pv 0) (pa_cons (pv 1) pa_nil))))
    (pss_cons (ps_asg (pe_callRS (ok_claimable T) (hr.mono (by decide)) (by rfl) T.m_claimable T.F_claimable.kp (passE (takes_of rfl rfl rfl rfl)) (pa_cons (pv 0) (pa_cons (pv 1) pa_nil))) (pg_name (i := 4) sc_level_of.nd rfl (by first | exact Or.inl rfl | exact Or.inr rfl)))
    (pss_cons (ps_asg (pe_callRS (ok_level_behind T) (hr.mono (by decide)) (by rfl) T.m_level_behind T.F_level_behind.kp (passE (takes_of rfl rfl rfl rfl)) (pa_cons (pv 0) (pa_cons (pv 1) (pa_cons (pv 4) (pa_cons pe_str pa_nil))))) (pg_name (i := 5) sc_level_of.nd rfl (by first | exact Or.inl rfl | exact Or.inr rfl)))
    (pss_cons (ps_asg pe_int (pg_name (i := 6) sc_level_of.nd rfl (by first | exact Or.inl rfl | exact Or.inr rfl)))
    (pss_cons (ps_while (passes_of rfl) (PW.pt (pw_and (pt_cmpR (op_neD (hr.units)) (pv 5) (pv 4) (nomark _)) (pw_and1 (pt_not (pt_truth (pe_ix ix_seq (pe_ix ix_seq (pv 4) (pv 2) (fun _ _ => rfl)) (pv 3) (fun _ _ => rfl)) (by intro _; rfl)))))) (pss_cons (ps_asg (pv 5) (pg_name (i := 4) sc_level_of.nd rfl (by first | exact Or.inl rfl | exact Or.inr rfl)))
    (pss_cons (ps_asg (pe_callRS (ok_level_behind T) (hr.mono (by decide)) (by rfl) T.m_level_behind T.F_level_behind.kp (passE (takes_of rfl rfl rfl rfl)) (pa_cons (pv 0) (pa_cons (pv 1) (pa_cons (pv 4) (pa_cons pe_str pa_nil))))) (pg_name (i := 5) sc_level_of.nd rfl (by first | exact Or.inl rfl | exact Or.inr rfl)))
    (pss_one (ps_aug (i := 6) sc_level_of.nd rfl (by first | exact Or.inl rfl | exact Or.inr rfl) pe_int ip_add)))))
    (pss_one (ps_ret (pe_ifExp (pt_truth (pe_ix ix_seq (pe_ix ix_seq (pv 4) (pv 2) (fun _ _ => rfl)) (pv 3) (fun _ _ => rfl)) (by intro _; rfl)) (pv 6) pe_non))))))))),
    (ss_seq (ss_drop (se_call (sa_cons se_var (sa_cons se_var (sa_cons se_var (sa_cons se_var sa_nil))))))
    (ss_seq (ss_drop (se_call (sa_cons se_var (sa_cons se_var sa_nil))))
    (ss_seq (ss_asg (se_call (sa_cons se_var (sa_cons se_var sa_nil))) sg_name)
    (ss_seq (ss_asg (se_call (sa_cons se_var (sa_cons se_var (sa_cons se_var (sa_cons se_str sa_nil))))) sg_name)
    (ss_seq (ss_asg se_int sg_name)
    (ss_seq (ss_while (st_and (st_test (se_op2 s2_neD se_var se_var)) (st_not (st_tru (se_op2 s2_ix (se_op2 s2_ix se_var se_var) se_var)))) (ss_seq (ss_asg se_var sg_name)
    (ss_seq (ss_asg (se_call (sa_cons se_var (sa_cons se_var (sa_cons se_var (sa_cons se_str sa_nil))))) sg_name)
    (ss_aug se_int))))
    (ss_ret (se_if (st_tru (se_op2 s2_ix (se_op2 s2_ix se_var se_var) se_var)) se_var se_non))))))))⟩
theorem ok_law_draw (T : Txt c mg A) : FnR P w c.K mg base (L2.CX P w) 6 A.law_draw (spD c (D_law_draw)) :=
  fn_ss (N := Nn_law_draw) (ps := ["_law_pot_here", "_law_many"]) (s := dn_law_draw) T.F_law_draw sc_law_draw (T.F_law_draw.binds (ps := ["_law_pot_here", "_law_many"]) fun _ _ _ _ _ _ us hl => match us, hl with | [_, _], _ => rfl) fun cdv A_ outer sh H E' hr => ⟨(tSeq (tIfS (tTest (tOp rEq (tCB (rLenS c.K) (tCons (tVar 0) tNil)) (tC (V.int 0)))) (tRet (tC (V.int 0))) tNext)
    (tRet (tOp (rI (fun _ j => 0 < j) fun i j => V.int (i % j)) (tCB rIntF (tCons (tBM0 c.K "list" rPop (tVar 0)) tNil)) (tVar 1)))),
    (pss_cons (ps_if (pt_cmpR op_eq (pe_callB call_len_seq (by rfl) T.n_len PySem.boot_len (pa_cons (pv 0) pa_nil)) pe_int (nomark _)) (pss_one (ps_ret pe_int)) pss_nil)
    (pss_one (ps_ret (pe_op op_mod (pe_callTy call_int1 (by rfl) T.n_int (by decide +kernel) (pa_cons (pe_bm0 PySem.F.plainAttrs_list PySem.F.slot_list_pop PySem.F.type_list_pop mt_pop (pv 0)) pa_nil)) (pv 1))))),
    (ss_seq (ss_if (st_test (se_op2 s2_eq (se_lenp T.pl se_var) se_int)) (ss_ret se_int) ss_next)
    (ss_ret (se_op2 s2_mod (se_cb sn_int (sa_cons (se_pop T.pl se_var) sa_nil)) se_var)))⟩
theorem ok_law_whole (T : Txt c mg A) : FnR P w c.K mg base (L2.CX P w) 6 A.law_whole (spD c (D_is_integer)) :=
  fn_ss (N := Nn_law_whole) (ps := ["_law_thing"]) (s := dn_is_integer) T.F_law_whole sc_law_whole (T.F_law_whole.binds (ps := ["_law_thing"]) fun _ _ _ _ _ _ us hl => match us, hl with | [_], _ => rfl) fun cdv A_ outer sh H E' hr => ⟨(tRet (tAndV (tCB (rIsi c.K) (tCons (tVar 0) (tCons (tC (V.ty "int")) tNil))) (tNotV (tCB (rIsi c.K) (tCons (tVar 0) (tCons (tC (V.ty "bool")) tNil)))))),
    (pss_one (ps_ret (pe_and (pe_callB call_isi (by rfl) T.n_isinstance (by decide +kernel) (pa_cons (pv 0) (pa_cons (pe_bltn (v := V.ty "int") (by rfl) T.n_int (by decide +kernel) rfl) pa_nil))) (pe_one (pe_not (pe_callB call_isi (by rfl) T.n_isinstance (by decide +kernel) (pa_cons (pv 0) (pa_cons (pe_bltn (v := V.ty "bool") (by rfl) T.n_bool (by decide +kernel) rfl) pa_nil)))))))),
    (ss_ret (se_and (se_cb sn_is1 (sa_cons se_var (sa_cons (se_c fun _ _ => At.ty Ty.int) sa_nil))) (se_not (se_cb sn_is1 (sa_cons se_var (sa_cons (se_c fun _ _ => At.ty Ty.bl) sa_nil))))))⟩
theorem ok_law_lot (T : Txt c mg A) : FnR P w c.K mg base (L2.CX P w) 7 A.law_lot (spD c (D_law_lot)) :=
  fn_ss (N := Nn_law_lot) (ps := ["_law_pot_here", "_law_size"]) (s := dn_law_lot) T.F_law_lot sc_law_lot (T.F_law_lot.binds (ps := ["_law_pot_here", "_law_size"]) fun _ _ _ _ _ _ us hl => match us, hl with | [_, _], _ => rfl) fun cdv A_ outer sh H E' hr => ⟨(tSeq (tAsg (tLst (tCons (tCallS (spD c D_law_draw) (fun _ => E') (tCons (tVar 0) (tCons (tVar 1) tNil))) tNil)) (gName 2))
    (tSeq (tFor (iRng1 (tCons (tCallS (spD c D_law_draw) (fun _ => E') (tCons (tVar 0) (tCons (tC (V.int 3)) tNil))) tNil)) (gName 3) (tSeq (tAsg (tCallS (spD c D_law_draw) (fun _ => E') (tCons (tVar 0) (tCons (tVar 1) tNil))) (gName 4))
    (tIfS (tTest (tOp (rIn c.K true) (tVar 4) (tVar 2))) (tDrop (tBM c.K "list" rAppend (tVar 2) (tCons (tVar 4) tNil))) tNext)))
    (tRet (tVar 2)))),
    (pss_cons (ps_asg (pe_lst (pa_cons (pe_callRS (ok_law_draw T) (hr.mono (by decide)) (by rfl) T.m_law_draw T.F_law_draw.kp (passE (takes_of rfl rfl rfl rfl)) (pa_cons (pv 0) (pa_cons (pv 1) pa_nil))) pa_nil)) (pg_name (i := 2) sc_law_lot.nd rfl (by first | exact Or.inl rfl | exact Or.inr rfl)))
    (pss_cons (ps_for (passes_of rfl) rfl (pi_range1 (by rfl) T.n_range (pa_cons (pe_callRS (ok_law_draw T) (hr.mono (by decide)) (by rfl) T.m_law_draw T.F_law_draw.kp (passE (takes_of rfl rfl rfl rfl)) (pa_cons (pv 0) (pa_cons pe_int pa_nil))) pa_nil)) (pg_name (i := 3) sc_law_lot.nd rfl (by first | exact Or.inl rfl | exact Or.inr rfl)) (pss_cons (ps_asg (pe_callRS (ok_law_draw T) (hr.mono (by decide)) (by rfl) T.m_law_draw T.F_law_draw.kp (passE (takes_of rfl rfl rfl rfl)) (pa_cons (pv 0) (pa_cons (pv 1) pa_nil))) (pg_name (i := 4) sc_law_lot.nd rfl (by first | exact Or.inl rfl | exact Or.inr rfl)))
    (pss_one (ps_if (pt_cmpR op_notIn_seq (pv 4) (pv 2) rfl) (pss_one (ps_expr (pe_bm PySem.F.plainAttrs_list PySem.F.slot_list_append PySem.F.type_list_append mt_append (pv 2) (pa_cons (pv 4) pa_nil)))) pss_nil))))
    (pss_one (ps_ret (pv 2))))),
    (ss_seq (ss_own (sen_lst (sa_cons (se_call (sa_cons se_var (sa_cons se_var sa_nil))) sa_nil)))
    (ss_seq (ss_for (si_rng1 (sa_cons (se_call (sa_cons se_var (sa_cons se_int sa_nil))) sa_nil)) sg_name (ss_seq (ss_asg (se_call (sa_cons se_var (sa_cons se_var sa_nil))) sg_name)
    (ss_if (st_test (se_inc se_var)) (ss_append se_var) ss_next)))
    (ss_give (i := 2) (ss_ret se_var))))⟩
theorem ok_law_due (T : Txt c mg A) : FnR P w c.K mg base (L2.CX P w) 7 A.law_due (spD c (D_law_due)) :=
  fn_ss (N := Nn_law_due) (ps := ["_law_pot_here"]) (s := dn_law_due) T.F_law_due sc_law_due (T.F_law_due.binds (ps := ["_law_pot_here"]) fun _ _ _ _ _ _ us hl => match us, hl with | [_], _ => rfl) fun cdv A_ outer sh H E' hr => ⟨(tSeq (tAsg (tCallS (spD c D_law_draw) (fun _ => E') (tCons (tVar 0) (tCons (tC (V.int 6)) tNil))) (gName 1))
    (tSeq (tIfS (tTest (tOp (rI0 fun i j => V.bl (decide (i ≤ j))) (tVar 1) (tC (V.int 2)))) (tRet (tTup (tCons (tC (V.str "chips")) (tCons (tC (V.int 0)) tNil)))) tNext)
    (tSeq (tIfS (tTest (tOp rEq (tVar 1) (tC (V.int 3)))) (tRet (tTup (tCons (tC (V.str "chips")) (tCons (tOp (rI0 fun i j => V.int (i + j)) (tC (V.int 1)) (tCallS (spD c D_law_draw) (fun _ => E') (tCons (tVar 0) (tCons (tC (V.int 4)) tNil)))) tNil)))) tNext)
    (tSeq (tIfS (tTest (tOp rEq (tVar 1) (tC (V.int 4)))) (tRet (tTup (tCons (tC (V.str "less")) (tCons (tOp (rI0 fun i j => V.int (i + j)) (tC (V.int 1)) (tCallS (spD c D_law_draw) (fun _ => E') (tCons (tVar 0) (tCons (tC (V.int 3)) tNil)))) tNil)))) tNext)
    (tRet (tC V.non)))))),
    (pss_cons (ps_asg (pe_callRS (ok_law_draw T) (hr.mono (by decide)) (by rfl) T.m_law_draw T.F_law_draw.kp (passE (takes_of rfl rfl rfl rfl)) (pa_cons (pv 0) (pa_cons pe_int pa_nil))) (pg_name (i := 1) sc_law_due.nd rfl (by first | exact Or.inl rfl | exact Or.inr rfl)))
    (pss_cons (ps_if (pt_cmpR op_le (pv 1) pe_int (nomark _)) (pss_one (ps_ret (pe_tup (pa_cons pe_str (pa_cons pe_int pa_nil))))) pss_nil)
    (pss_cons (ps_if (pt_cmpR op_eq (pv 1) pe_int (nomark _)) (pss_one (ps_ret (pe_tup (pa_cons pe_str (pa_cons (pe_op op_add pe_int (pe_callRS (ok_law_draw T) (hr.mono (by decide)) (by rfl) T.m_law_draw T.F_law_draw.kp (passE (takes_of rfl rfl rfl rfl)) (pa_cons (pv 0) (pa_cons pe_int pa_nil)))) pa_nil))))) pss_nil)
    (pss_cons (ps_if (pt_cmpR op_eq (pv 1) pe_int (nomark _)) (pss_one (ps_ret (pe_tup (pa_cons pe_str (pa_cons (pe_op op_add pe_int (pe_callRS (ok_law_draw T) (hr.mono (by decide)) (by rfl) T.m_law_draw T.F_law_draw.kp (passE (takes_of rfl rfl rfl rfl)) (pa_cons (pv 0) (pa_cons pe_int pa_nil)))) pa_nil))))) pss_nil)
    (pss_one (ps_ret pe_non)))))),
    (ss_seq (ss_asg (se_call (sa_cons se_var (sa_cons se_int sa_nil))) sg_name)
    (ss_seq (ss_if (st_test (se_op2 s2_le se_var se_int)) (ss_ret (se_tup (sa_cons se_str (sa_cons se_int sa_nil)))) ss_next)
    (ss_seq (ss_if (st_test (se_op2 s2_eq se_var se_int)) (ss_ret (se_tup (sa_cons se_str (sa_cons (se_op2 s2_add se_int (se_call (sa_cons se_var (sa_cons se_int sa_nil)))) sa_nil)))) ss_next)
    (ss_seq (ss_if (st_test (se_op2 s2_eq se_var se_int)) (ss_ret (se_tup (sa_cons se_str (sa_cons (se_op2 s2_add se_int (se_call (sa_cons se_var (sa_cons se_int sa_nil)))) sa_nil)))) ss_next)
    (ss_ret se_non)))))⟩
theorem ok_law_marks (T : Txt c mg A) : FnR P w c.K mg base (L2.CX P w) 7 A.law_marks (spD c (D_law_marks)) :=
  fn_ss (N := Nn_law_marks) (ps := ["_law_pot_here", "_law_size"]) (s := dn_law_marks) T.F_law_marks sc_law_marks (T.F_law_marks.binds (ps := ["_law_pot_here", "_law_size"]) fun _ _ _ _ _ _ us hl => match us, hl with | [_, _], _ => rfl) fun cdv A_ outer sh H E' hr => ⟨(tSeq (tAsg (tCallS (spD c D_law_draw) (fun _ => E') (tCons (tVar 0) (tCons (tC (V.int 4)) tNil))) (gName 2))
    (tSeq (tIfS (tTest (tOp (rI0 fun i j => V.bl (decide (i ≤ j))) (tVar 2) (tC (V.int 1)))) (tRet (tLc (iRng1 (tCons (tVar 1) tNil)) (gName 3) tYes (tOp (rI0 fun i j => V.int (i + j)) (tC (V.int 1)) (tVar 2)) [3])) tNext)
    (tRet (tLc (iRng1 (tCons (tVar 1) tNil)) (gName 3) tYes (tOp (rI0 fun i j => V.int (i + j)) (tC (V.int 1)) (tCallS (spD c D_law_draw) (fun _ => L2.E0) (tCons (tVar 0) (tCons (tC (V.int 2)) tNil)))) [3])))),
    (pss_cons (ps_asg (pe_callRS (ok_law_draw T) (hr.mono (by decide)) (by rfl) T.m_law_draw T.F_law_draw.kp (passE (takes_of rfl rfl rfl rfl)) (pa_cons (pv 0) (pa_cons pe_int pa_nil))) (pg_name (i := 2) sc_law_marks.nd rfl (by first | exact Or.inl rfl | exact Or.inr rfl)))
    (pss_cons (ps_if (pt_cmpR op_le (pv 2) pe_int (nomark _)) (pss_one (ps_ret (pe_lc (own := [("_law_stand", 3)]) (g := gName 3) (wi := (iRng1 (tCons (tVar 1) tNil))) (tt := tYes) (te := (tOp (rI0 fun i j => V.int (i + j)) (tC (V.int 1)) (tVar 2))) rfl sc_law_marks.nd (pi_range1 (by rfl) T.n_range (pa_cons (pv 1) pa_nil)) (blkOk_by (N := Nn_law_marks) (sc := defScope s_law_marks) (by decide +kernel)) (fun _ _ _ _ _ => pg_name (i := 3) sc_law_marks.nd rfl (by first | exact Or.inl rfl | exact Or.inr rfl)) (fun _ _ _ _ _ => pts_nil) (fun _ _ _ _ _ => (pe_op op_add pe_int (pv 2)))))) pss_nil)
    (pss_one (ps_ret (pe_lc (own := [("_law_stand", 3)]) (g := gName 3) (wi := (iRng1 (tCons (tVar 1) tNil))) (tt := tYes) (te := (tOp (rI0 fun i j => V.int (i + j)) (tC (V.int 1)) (tCallS (spD c D_law_draw) (fun _ => L2.E0) (tCons (tVar 0) (tCons (tC (V.int 2)) tNil))))) rfl sc_law_marks.nd (pi_range1 (by rfl) T.n_range (pa_cons (pv 1) pa_nil)) (blkOk_by (N := Nn_law_marks) (sc := defScope s_law_marks) (by decide +kernel)) (fun _ _ _ _ _ => pg_name (i := 3) sc_law_marks.nd rfl (by first | exact Or.inl rfl | exact Or.inr rfl)) (fun _ _ _ _ _ => pts_nil) (fun _ _ _ _ _ => (pe_op op_add pe_int (pe_callRS (ok_law_draw T) (hr.mono (by decide)) (by rfl) T.m_law_draw T.F_law_draw.kp passNo (pa_cons (pv 0) (pa_cons pe_int pa_nil)))))))))),
    (ss_seq (ss_asg (se_call (sa_cons se_var (sa_cons se_int sa_nil))) sg_name)
    (ss_seq (ss_if (st_test (se_op2 s2_le se_var se_int)) (ss_ret (se_new (sen_comp (si_rng1 (sa_cons se_var sa_nil)) st_true (se_op2 s2_add se_int se_var)))) ss_next)
    (ss_ret (se_new (sen_comp (si_rng1 (sa_cons se_var sa_nil)) st_true (se_op2 s2_add se_int (se_call (sa_cons se_var (sa_cons se_int sa_nil)))))))))⟩
theorem ok_law_path (T : Txt c mg A) : FnR P w c.K mg base (L2.CX P w) 6 A.law_path (spD c (D_law_path)) :=
  fn_ss (N := Nn_law_path) (ps := ["_law_size"]) (s := dn_law_path) T.F_law_path sc_law_path (T.F_law_path.binds (ps := ["_law_size"]) fun _ _ _ _ _ _ us hl => match us, hl with | [_], _ => rfl) fun cdv A_ outer sh H E' hr => ⟨(tSeq (tAsg (tLst (tCons (tLst tNil) (tCons (tLst tNil) tNil))) (gName 1))
    (tSeq (tFor (iRng2 (tCons (tC (V.int 2)) (tCons (tVar 0) tNil))) (gName 2) (tSeq (tAsg (tOp (rI0 fun i j => V.int (i - j)) (tVar 2) (tC (V.int 1))) (gName 3))
    (tSeq (tIfS (tTest (tOp rEq (tVar 2) (tC (V.int 2)))) (tAsg (tC (V.int 0)) (gName 3)) tNext)
    (tSeq (tAsg (tOp (rI0 fun i j => V.int (i + j)) (tVar 2) (tC (V.int 1))) (gName 4))
    (tSeq (tIfS (tTest (tOp rEq (tVar 2) (tOp (rI0 fun i j => V.int (i - j)) (tVar 0) (tC (V.int 1))))) (tAsg (tC (V.int 1)) (gName 4)) tNext)
    (tDrop (tBM c.K "list" rAppend (tVar 1) (tCons (tLst (tCons (tVar 3) (tCons (tVar 4) tNil))) tNil))))))))
    (tRet (tVar 1)))),
    (pss_cons (ps_asg (pe_lst (pa_cons (pe_lst pa_nil) (pa_cons (pe_lst pa_nil) pa_nil))) (pg_name (i := 1) sc_law_path.nd rfl (by first | exact Or.inl rfl | exact Or.inr rfl)))
    (pss_cons (ps_for (passes_of rfl) rfl (pi_range2 (by rfl) T.n_range (pa_cons pe_int (pa_cons (pv 0) pa_nil))) (pg_name (i := 2) sc_law_path.nd rfl (by first | exact Or.inl rfl | exact Or.inr rfl)) (pss_cons (ps_asg (pe_op op_sub (pv 2) pe_int) (pg_name (i := 3) sc_law_path.nd rfl (by first | exact Or.inl rfl | exact Or.inr rfl)))
    (pss_cons (ps_if (pt_cmpR op_eq (pv 2) pe_int (nomark _)) (pss_one (ps_asg pe_int (pg_name (i := 3) sc_law_path.nd rfl (by first | exact Or.inl rfl | exact Or.inr rfl)))) pss_nil)
    (pss_cons (ps_asg (pe_op op_add (pv 2) pe_int) (pg_name (i := 4) sc_law_path.nd rfl (by first | exact Or.inl rfl | exact Or.inr rfl)))
    (pss_cons (ps_if (pt_cmpR op_eq (pv 2) (pe_op op_sub (pv 0) pe_int) (nomark _)) (pss_one (ps_asg pe_int (pg_name (i := 4) sc_law_path.nd rfl (by first | exact Or.inl rfl | exact Or.inr rfl)))) pss_nil)
    (pss_one (ps_expr (pe_bm PySem.F.plainAttrs_list PySem.F.slot_list_append PySem.F.type_list_append mt_append (pv 1) (pa_cons (pe_lst (pa_cons (pv 3) (pa_cons (pv 4) pa_nil))) pa_nil)))))))))
    (pss_one (ps_ret (pv 1))))),
    (ss_seq (ss_own (sen_lst (sa_cons (se_new (sen_lst sa_nil)) (sa_cons (se_new (sen_lst sa_nil)) sa_nil))))
    (ss_seq (ss_for (si_rng2 (sa_cons se_int (sa_cons se_var sa_nil))) sg_name (ss_seq (ss_asg (se_op2 s2_sub se_var se_int) sg_name)
    (ss_seq (ss_if (st_test (se_op2 s2_eq se_var se_int)) (ss_asg se_int sg_name) ss_next)
    (ss_seq (ss_asg (se_op2 s2_add se_var se_int) sg_name)
    (ss_seq (ss_if (st_test (se_op2 s2_eq se_var (se_op2 s2_sub se_var se_int))) (ss_asg se_int sg_name) ss_next)
    (ss_append (se_new (sen_lst (sa_cons se_var (sa_cons se_var sa_nil))))))))))
    (ss_give (i := 1) (ss_ret se_var))))⟩
theorem ok_law_web (T : Txt c mg A) : FnR P w c.K mg base (L2.CX P w) 8 A.law_web (spD c (D_law_web)) :=
  fn_ss (N := Nn_law_web) (ps := ["_law_pot_here", "_law_most", "_law_even"]) (s := dn_law_web) T.F_law_web sc_law_web (T.F_law_web.binds (ps := ["_law_pot_here", "_law_most", "_law_even"]) fun _ _ _ _ _ _ us hl => match us, hl with | [_, _, _], _ => rfl) fun cdv A_ outer sh H E' hr => ⟨(tSeq (tAsg (tCB rMin2F (tCons (tVar 1) (tCons (tOp (rIx c.K) (tLst (tCons (tC (V.int 4)) (tCons (tC (V.int 3)) (tCons (tC (V.int 5)) (tCons (tC (V.int 4)) (tCons (tC (V.int 6)) (tCons (tC (V.int 2)) (tCons (tC (V.int 5)) (tCons (tC (V.int 3)) (tCons (tC (V.int 7)) (tCons (tC (V.int 1)) tNil))))))))))) (tCallS (spD c D_law_draw) (fun _ => E') (tCons (tVar 0) (tCons (tC (V.int 10)) tNil)))) tNil))) (gName 3))
    (tSeq (tAsg (tCallS (spD c D_law_draw) (fun _ => E') (tCons (tVar 0) (tCons (tC (V.int 5)) tNil))) (gName 4))
    (tSeq (tAsg (tLst tNil) (gName 5))
    (tSeq (tAsg (tLst tNil) (gName 6))
    (tSeq (tIfS (tAnd (tTest (tOp rEq (tVar 4) (tC (V.int 0)))) (tTest (tOp (rI0 fun i j => V.bl (decide (j ≤ i))) (tVar 3) (tC (V.int 2))))) (tSeq (tAsg (tCallS (spD c D_law_path) (fun _ => E') (tCons (tVar 3) tNil)) (gName 5))
    (tSeq (tAsg (tOp rCat (tLst (tCons (tTup (tCons (tC (V.str "chips")) (tCons (tC (V.int 0)) tNil))) tNil)) (tLc (iRng1 (tCons (tOp (rI0 fun i j => V.int (i - j)) (tVar 3) (tC (V.int 1))) tNil)) (gName 7) tYes (tC V.non) [7])) (gName 6))
    (tAsg (tLc (iList c.K (tVar 5)) (gName 9) tYes (tCB (rListF c.K) (tCons (tVar 9) tNil)) [9]) (gName 8)))) (tSeq (tAsg (tLst tNil) (gName 8))
    (tFor (iRng1 (tCons (tVar 3) tNil)) (gName 7) (tSeq (tAsg (tAndV (tOp rEq (tVar 7) (tC (V.int 0))) (tOp rNe (tVar 4) (tC (V.int 4)))) (gName 10))
    (tSeq (tIfS (tAnd (tTest (tOp rEq (tVar 7) (tC (V.int 1)))) (tTest (tOp rNe (tVar 4) (tC (V.int 3))))) (tAsg (tC (V.bl true)) (gName 10)) tNext)
    (tSeq (tIfS (tAnd (tTest (tOp (rI0 fun i j => V.bl (decide (j ≤ i))) (tVar 7) (tC (V.int 2)))) (tTest (tOp rEq (tCallS (spD c D_law_draw) (fun _ => E') (tCons (tVar 0) (tCons (tC (V.int 8)) tNil))) (tC (V.int 7))))) (tAsg (tC (V.bl true)) (gName 10)) tNext)
    (tSeq (tIfS (fun σ H Q => (tVar 10) σ H fun x H' => ∃ k, TruV c.K x H' k ∧ Q k H') (tSeq (tDrop (tBM c.K "list" rAppend (tVar 5) (tCons (tLst tNil) tNil)))
    (tDrop (tBM c.K "list" rAppend (tVar 8) (tCons (tLst tNil) tNil)))) (tSeq (tAsg (tCallS (spD c D_law_lot) (fun _ => E') (tCons (tVar 0) (tCons (tVar 3) tNil))) (gName 9))
    (tSeq (tDrop (tBM c.K "list" rAppend (tVar 5) (tCons (tVar 9) tNil)))
    (tIfS (tOr (fun σ H Q => (tVar 2) σ H fun x H' => ∃ k, TruV c.K x H' k ∧ Q k H') (tTest (tOp rEq (tCallS (spD c D_law_draw) (fun _ => E') (tCons (tVar 0) (tCons (tC (V.int 2)) tNil))) (tC (V.int 0))))) (tDrop (tBM c.K "list" rAppend (tVar 8) (tCons (tCB (rListF c.K) (tCons (tVar 9) tNil)) tNil))) (tDrop (tBM c.K "list" rAppend (tVar 8) (tCons (tCallS (spD c D_law_lot) (fun _ => E') (tCons (tVar 0) (tCons (tVar 3) tNil))) tNil)))))))
    (tSeq (tAsg (tC V.non) (gName 11))
    (tSeq (tIfS (tOr (tTest (tOp rEq (tVar 7) (tC (V.int 0)))) (tAnd (fun σ H Q => (tVar 10) σ H fun x H' => ∃ k, TruV c.K x H' k ∧ Q k H') (tTest (tOp (rI0 fun i j => V.bl (decide (j ≤ i))) (tVar 7) (tC (V.int 2)))))) (tAsg (tCallS (spD c D_law_due) (fun _ => E') (tCons (tVar 0) tNil)) (gName 11)) (tIfS (tAnd (tNot (fun σ H Q => (tVar 10) σ H fun x H' => ∃ k, TruV c.K x H' k ∧ Q k H')) (tTest (tOp rEq (tCallS (spD c D_law_draw) (fun _ => E') (tCons (tVar 0) (tCons (tC (V.int 8)) tNil))) (tC (V.int 7))))) (tAsg (tCallS (spD c D_law_due) (fun _ => E') (tCons (tVar 0) tNil)) (gName 11)) tNext))
    (tDrop (tBM c.K "list" rAppend (tVar 6) (tCons (tVar 11) tNil))))))))))))
    (tRet (tLst (tCons (tVar 5) (tCons (tVar 8) (tCons (tCallS (spD c D_law_marks) (fun _ => E') (tCons (tVar 0) (tCons (tVar 3) tNil))) (tCons (tVar 6) tNil))))))))))),
    (pss_cons (ps_asg (pe_callB (call_min2 rfl) (by rfl) T.n_min (by decide +kernel) (pa_cons (pv 1) (pa_cons (pe_ix ix_seq (pe_lst (pa_cons pe_int (pa_cons pe_int (pa_cons pe_int (pa_cons pe_int (pa_cons pe_int (pa_cons pe_int (pa_cons pe_int (pa_cons pe_int (pa_cons pe_int (pa_cons pe_int pa_nil))))))))))) (pe_callRS (ok_law_draw T) (hr.mono (by decide)) (by rfl) T.m_law_draw T.F_law_draw.kp (passE (takes_of rfl rfl rfl rfl)) (pa_cons (pv 0) (pa_cons pe_int pa_nil))) (fun _ _ => rfl)) pa_nil))) (pg_name (i := 3) sc_law_web.nd rfl (by first | exact Or.inl rfl | exact Or.inr rfl)))
    (pss_cons (ps_asg (pe_callRS (ok_law_draw T) (hr.mono (by decide)) (by rfl) T.m_law_draw T.F_law_draw.kp (passE (takes_of rfl rfl rfl rfl)) (pa_cons (pv 0) (pa_cons pe_int pa_nil))) (pg_name (i := 4) sc_law_web.nd rfl (by first | exact Or.inl rfl | exact Or.inr rfl)))
    (pss_cons (ps_asg (pe_lst pa_nil) (pg_name (i := 5) sc_law_web.nd rfl (by first | exact Or.inl rfl | exact Or.inr rfl)))
    (pss_cons (ps_asg (pe_lst pa_nil) (pg_name (i := 6) sc_law_web.nd rfl (by first | exact Or.inl rfl | exact Or.inr rfl)))
    (pss_cons (ps_if (PW.pt (pw_and (pt_cmpR op_eq (pv 4) pe_int (nomark _)) (pw_and1 (pt_cmpR op_ge (pv 3) pe_int (nomark _))))) (pss_cons (ps_asg (pe_callRS (ok_law_path T) (hr.mono (by decide)) (by rfl) T.m_law_path T.F_law_path.kp (passE (takes_of rfl rfl rfl rfl)) (pa_cons (pv 3) pa_nil)) (pg_name (i := 5) sc_law_web.nd rfl (by first | exact Or.inl rfl | exact Or.inr rfl)))
    (pss_cons (ps_asg (pe_op op_cat (pe_lst (pa_cons (pe_tup (pa_cons pe_str (pa_cons pe_int pa_nil))) pa_nil)) (pe_lc (own := [("_law_stand", 7)]) (g := gName 7) (wi := (iRng1 (tCons (tOp (rI0 fun i j => V.int (i - j)) (tVar 3) (tC (V.int 1))) tNil))) (tt := tYes) (te := (tC V.non)) rfl sc_law_web.nd (pi_range1 (by rfl) T.n_range (pa_cons (pe_op op_sub (pv 3) pe_int) pa_nil)) (blkOk_by (N := Nn_law_web) (sc := defScope s_law_web) (by decide +kernel)) (fun _ _ _ _ _ => pg_name (i := 7) sc_law_web.nd rfl (by first | exact Or.inl rfl | exact Or.inr rfl)) (fun _ _ _ _ _ => pts_nil) (fun _ _ _ _ _ => pe_non))) (pg_name (i := 6) sc_law_web.nd rfl (by first | exact Or.inl rfl | exact Or.inr rfl)))
    (pss_one (ps_setLc (i := 8) (own := [("_law_lot_here", 9)]) (g := gName 9) (wi := (iList c.K (tVar 5))) (tt := tYes) (te := (tCB (rListF c.K) (tCons (tVar 9) tNil))) rfl sc_law_web.nd rfl rfl (sw_true rfl rfl rfl (by decide +kernel)) (pi_list (pv 5)) (blkOk_by (N := Nn_law_web) (sc := defScope s_law_web) (by decide +kernel)) (fun _ _ _ _ _ => pg_name (i := 9) sc_law_web.nd rfl (by first | exact Or.inl rfl | exact Or.inr rfl)) (fun _ _ _ _ _ => pts_nil) (fun _ _ _ _ _ => (pe_callTy call_list_of (by rfl) T.n_list (by decide +kernel) (pa_cons (pv 9) pa_nil))))))) (pss_cons (ps_asg (pe_lst pa_nil) (pg_name (i := 8) sc_law_web.nd rfl (by first | exact Or.inl rfl | exact Or.inr rfl)))
    (pss_one (ps_for (passes_of rfl) rfl (pi_range1 (by rfl) T.n_range (pa_cons (pv 3) pa_nil)) (pg_name (i := 7) sc_law_web.nd rfl (by first | exact Or.inl rfl | exact Or.inr rfl)) (pss_cons (ps_asg (pe_and (pe_cmpR op_eq (pv 7) pe_int (nomark _)) (pe_one (pe_cmpR op_ne (pv 4) pe_int (nomark _)))) (pg_name (i := 10) sc_law_web.nd rfl (by first | exact Or.inl rfl | exact Or.inr rfl)))
    (pss_cons (ps_if (PW.pt (pw_and (pt_cmpR op_eq (pv 7) pe_int (nomark _)) (pw_and1 (pt_cmpR op_ne (pv 4) pe_int (nomark _))))) (pss_one (ps_asg pe_bl (pg_name (i := 10) sc_law_web.nd rfl (by first | exact Or.inl rfl | exact Or.inr rfl)))) pss_nil)
    (pss_cons (ps_if (PW.pt (pw_and (pt_cmpR op_ge (pv 7) pe_int (nomark _)) (pw_and1 (pt_cmpR op_eq (pe_callRS (ok_law_draw T) (hr.mono (by decide)) (by rfl) T.m_law_draw T.F_law_draw.kp (passE (takes_of rfl rfl rfl rfl)) (pa_cons (pv 0) (pa_cons pe_int pa_nil))) pe_int (nomark _))))) (pss_one (ps_asg pe_bl (pg_name (i := 10) sc_law_web.nd rfl (by first | exact Or.inl rfl | exact Or.inr rfl)))) pss_nil)
    (pss_cons (ps_if (pt_truth (pv 10) (by intro _; rfl)) (pss_cons (ps_expr (pe_bm PySem.F.plainAttrs_list PySem.F.slot_list_append PySem.F.type_list_append mt_append (pv 5) (pa_cons (pe_lst pa_nil) pa_nil)))
    (pss_one (ps_expr (pe_bm PySem.F.plainAttrs_list PySem.F.slot_list_append PySem.F.type_list_append mt_append (pv 8) (pa_cons (pe_lst pa_nil) pa_nil))))) (pss_cons (ps_asg (pe_callRS (ok_law_lot T) (hr.mono (by decide)) (by rfl) T.m_law_lot T.F_law_lot.kp (passE (takes_of rfl rfl rfl rfl)) (pa_cons (pv 0) (pa_cons (pv 3) pa_nil))) (pg_name (i := 9) sc_law_web.nd rfl (by first | exact Or.inl rfl | exact Or.inr rfl)))
    (pss_cons (ps_expr (pe_bm PySem.F.plainAttrs_list PySem.F.slot_list_append PySem.F.type_list_append mt_append (pv 5) (pa_cons (pv 9) pa_nil)))
    (pss_one (ps_if (PW.pt (pw_or (pt_truth (pv 2) (by intro _; rfl)) (pw_or1 (pt_cmpR op_eq (pe_callRS (ok_law_draw T) (hr.mono (by decide)) (by rfl) T.m_law_draw T.F_law_draw.kp (passE (takes_of rfl rfl rfl rfl)) (pa_cons (pv 0) (pa_cons pe_int pa_nil))) pe_int (nomark _))))) (pss_one (ps_expr (pe_bm PySem.F.plainAttrs_list PySem.F.slot_list_append PySem.F.type_list_append mt_append (pv 8) (pa_cons (pe_callTy call_list_of (by rfl) T.n_list (by decide +kernel) (pa_cons (pv 9) pa_nil)) pa_nil)))) (pss_one (ps_expr (pe_bm PySem.F.plainAttrs_list PySem.F.slot_list_append PySem.F.type_list_append mt_append (pv 8) (pa_cons (pe_callRS (ok_law_lot T) (hr.mono (by decide)) (by rfl) T.m_law_lot T.F_law_lot.kp (passE (takes_of rfl rfl rfl rfl)) (pa_cons (pv 0) (pa_cons (pv 3) pa_nil))) pa_nil)))))))))
    (pss_cons (ps_asg pe_non (pg_name (i := 11) sc_law_web.nd rfl (by first | exact Or.inl rfl | exact Or.inr rfl)))
    (pss_cons (ps_if (PW.pt (pw_or (pt_cmpR op_eq (pv 7) pe_int (nomark _)) (pw_or1 (PW.pt (pw_and (pt_truth (pv 10) (by intro _; rfl)) (pw_and1 (pt_cmpR op_ge (pv 7) pe_int (nomark _)))))))) (pss_one (ps_asg (pe_callRS (ok_law_due T) (hr.mono (by decide)) (by rfl) T.m_law_due T.F_law_due.kp (passE (takes_of rfl rfl rfl rfl)) (pa_cons (pv 0) pa_nil)) (pg_name (i := 11) sc_law_web.nd rfl (by first | exact Or.inl rfl | exact Or.inr rfl)))) (pss_one (ps_if (PW.pt (pw_and (pt_not (pt_truth (pv 10) (by intro _; rfl))) (pw_and1 (pt_cmpR op_eq (pe_callRS (ok_law_draw T) (hr.mono (by decide)) (by rfl) T.m_law_draw T.F_law_draw.kp (passE (takes_of rfl rfl rfl rfl)) (pa_cons (pv 0) (pa_cons pe_int pa_nil))) pe_int (nomark _))))) (pss_one (ps_asg (pe_callRS (ok_law_due T) (hr.mono (by decide)) (by rfl) T.m_law_due T.F_law_due.kp (passE (takes_of rfl rfl rfl rfl)) (pa_cons (pv 0) pa_nil)) (pg_name (i := 11) sc_law_web.nd rfl (by first | exact Or.inl rfl | exact Or.inr rfl)))) pss_nil)))
    (pss_one (ps_expr (pe_bm PySem.F.plainAttrs_list PySem.F.slot_list_append PySem.F.type_list_append mt_append (pv 6) (pa_cons (pv 11) pa_nil))))))))))))))
    (pss_one (ps_ret (pe_lst (pa_cons (pv 5) (pa_cons (pv 8) (pa_cons (pe_callRS (ok_law_marks T) (hr.mono (by decide)) (by rfl) T.m_law_marks T.F_law_marks.kp (passE (takes_of rfl rfl rfl rfl)) (pa_cons (pv 0) (pa_cons (pv 3) pa_nil))) (pa_cons (pv 6) pa_nil)))))))))))),
    (ss_seq (ss_asg (se_cb sn_min2 (sa_cons se_var (sa_cons (se_op2 s2_ix (se_new (sen_lst (sa_cons se_int (sa_cons se_int (sa_cons se_int (sa_cons se_int (sa_cons se_int (sa_cons se_int (sa_cons se_int (sa_cons se_int (sa_cons se_int (sa_cons se_int sa_nil)))))))))))) (se_call (sa_cons se_var (sa_cons se_int sa_nil)))) sa_nil))) sg_name)
    (ss_seq (ss_asg (se_call (sa_cons se_var (sa_cons se_int sa_nil))) sg_name)
    (ss_seq (ss_own (sen_lst sa_nil))
    (ss_seq (ss_own (sen_lst sa_nil))
    (ss_seq (ss_if (st_and (st_test (se_op2 s2_eq se_var se_int)) (st_test (se_op2 s2_ge se_var se_int))) (ss_seq (ss_asg (se_call (sa_cons se_var sa_nil)) sg_name)
    (ss_seq (ss_asg (se_op2 s2_cat (se_new (sen_lst (sa_cons (se_tup (sa_cons se_str (sa_cons se_int sa_nil))) sa_nil))) (se_new (sen_comp (si_rng1 (sa_cons (se_op2 s2_sub se_var se_int) sa_nil)) st_true se_non))) sg_name)
    (ss_give (i := 5) (ss_own (sen_comp (si_list se_var) st_true (se_new (sen_list (sa_cons se_var sa_nil)))))))) (ss_seq (ss_own (sen_lst sa_nil))
    (ss_for (si_rng1 (sa_cons se_var sa_nil)) sg_name (ss_seq (ss_asg (se_and (se_op2 s2_eq se_var se_int) (se_op2 s2_ne se_var se_int)) sg_name)
    (ss_seq (ss_if (st_and (st_test (se_op2 s2_eq se_var se_int)) (st_test (se_op2 s2_ne se_var se_int))) (ss_asg se_bl sg_name) ss_next)
    (ss_seq (ss_if (st_and (st_test (se_op2 s2_ge se_var se_int)) (st_test (se_op2 s2_eq (se_call (sa_cons se_var (sa_cons se_int sa_nil))) se_int))) (ss_asg se_bl sg_name) ss_next)
    (ss_seq (ss_if (st_tru se_var) (ss_seq (ss_append (se_new (sen_lst sa_nil)))
    (ss_append (se_new (sen_lst sa_nil)))) (ss_seq (ss_asg (se_call (sa_cons se_var (sa_cons se_var sa_nil))) sg_name)
    (ss_seq (ss_append se_var)
    (ss_if (st_or (st_tru se_var) (st_test (se_op2 s2_eq (se_call (sa_cons se_var (sa_cons se_int sa_nil))) se_int))) (ss_append (se_new (sen_list (sa_cons se_var sa_nil)))) (ss_append (se_call (sa_cons se_var (sa_cons se_var sa_nil))))))))
    (ss_seq (ss_asg se_non sg_name)
    (ss_seq (ss_if (st_or (st_test (se_op2 s2_eq se_var se_int)) (st_and (st_tru se_var) (st_test (se_op2 s2_ge se_var se_int)))) (ss_asg (se_call (sa_cons se_var sa_nil)) sg_name) (ss_if (st_and (st_not (st_tru se_var)) (st_test (se_op2 s2_eq (se_call (sa_cons se_var (sa_cons se_int sa_nil))) se_int))) (ss_asg (se_call (sa_cons se_var sa_nil)) sg_name) ss_next))
    (ss_append se_var))))))))))
    (ss_give (i := 8) (ss_give (i := 5) (ss_give (i := 6) (ss_ret (se_new (sen_lst (sa_cons se_var (sa_cons se_var (sa_cons (se_call (sa_cons se_var (sa_cons se_var sa_nil))) (sa_cons se_var sa_nil)))))))))))))))⟩
theorem ok_law_due_at (T : Txt c mg A) : FnR P w c.K mg base (L2.CX P w) 6 A.law_due_at (spD c (D_due_at)) :=
  fn_ss (N := Nn_law_due_at) (ps := ["_law_due_here", "_law_k"]) (s := dn_due_at) T.F_law_due_at sc_law_due_at (T.F_law_due_at.binds (ps := ["_law_due_here", "_law_k"]) fun _ _ _ _ _ _ us hl => match us, hl with | [_, _], _ => rfl) fun cdv A_ outer sh H E' hr => ⟨(tSeq (tIfS (tTest (tOp rIsNF (tVar 0) (tC V.non))) (tRet (tOp (rI0 fun i j => V.int (i + j)) (tVar 1) (tC (V.int 1)))) tNext)
    (tSeq (tIfS (tTest (tOp rEq (tOp (rIx c.K) (tVar 0) (tC (V.int 0))) (tC (V.str "chips")))) (tRet (tCB rMin2F (tCons (tOp (rIx c.K) (tVar 0) (tC (V.int 1))) (tCons (tOp (rI0 fun i j => V.int (i + j)) (tVar 1) (tC (V.int 1))) tNil)))) tNext)
    (tRet (tCB rMax2F (tCons (tC (V.int 0)) (tCons (tOp (rI0 fun i j => V.int (i - j)) (tOp (rI0 fun i j => V.int (i + j)) (tVar 1) (tC (V.int 1))) (tOp (rIx c.K) (tVar 0) (tC (V.int 1)))) tNil)))))),
    (pss_cons (ps_if (pt_cmpR op_isN (pv 0) pe_non (nomark _)) (pss_one (ps_ret (pe_op op_add (pv 1) pe_int))) pss_nil)
    (pss_cons (ps_if (pt_cmpR op_eq (pe_ix ix_seq (pv 0) pe_int (fun _ _ => rfl)) pe_str (nomark _)) (pss_one (ps_ret (pe_callB (call_min2 rfl) (by rfl) T.n_min (by decide +kernel) (pa_cons (pe_ix ix_seq (pv 0) pe_int (fun _ _ => rfl)) (pa_cons (pe_op op_add (pv 1) pe_int) pa_nil))))) pss_nil)
    (pss_one (ps_ret (pe_callB (call_max2 rfl) (by rfl) T.n_max (by decide +kernel) (pa_cons pe_int (pa_cons (pe_op op_sub (pe_op op_add (pv 1) pe_int) (pe_ix ix_seq (pv 0) pe_int (fun _ _ => rfl))) pa_nil))))))),
    (ss_seq (ss_if (st_test (se_op2 s2_isN se_var se_non)) (ss_ret (se_op2 s2_add se_var se_int)) ss_next)
    (ss_seq (ss_if (st_test (se_op2 s2_eq (se_op2 s2_ix se_var se_int) se_str)) (ss_ret (se_cb sn_min2 (sa_cons (se_op2 s2_ix se_var se_int) (sa_cons (se_op2 s2_add se_var se_int) sa_nil)))) ss_next)
    (ss_ret (se_cb sn_max2 (sa_cons se_int (sa_cons (se_op2 s2_sub (se_op2 s2_add se_var se_int) (se_op2 s2_ix se_var se_int)) sa_nil))))))⟩
theorem ok_law_half (T : Txt c mg A) : FnR P w c.K mg base (L2.CX P w) 6 A.law_half (spD c (D_half_of)) :=
  fn_ss (N := Nn_law_half) (ps := ["_law_mark", "_law_x", "_law_y"]) (s := dn_half_of) T.F_law_half sc_law_half (T.F_law_half.binds (ps := ["_law_mark", "_law_x", "_law_y"]) fun _ _ _ _ _ _ us hl => match us, hl with | [_, _, _], _ => rfl) fun cdv A_ outer sh H E' hr => ⟨(tSeq (tIfS (tTest (tOp rEq (tVar 0) (tC (V.int 1)))) (tRet (tOp (rI CDiv fun i j => V.int (i / j)) (tOp (rI0 fun i j => V.int (i + j)) (tVar 1) (tCB rMax2F (tCons (tVar 1) (tCons (tVar 2) tNil)))) (tC (V.int 2)))) tNext)
    (tRet (tOp (rI CDiv fun i j => V.int (i / j)) (tOp (rI0 fun i j => V.int (i + j)) (tOp (rI0 fun i j => V.int (i + j)) (tCB rMin2F (tCons (tVar 1) (tCons (tVar 2) tNil))) (tVar 2)) (tC (V.int 1))) (tC (V.int 2))))),
    (pss_cons (ps_if (pt_cmpR op_eq (pv 0) pe_int (nomark _)) (pss_one (ps_ret (pe_op op_fdiv (pe_op op_add (pv 1) (pe_callB (call_max2 rfl) (by rfl) T.n_max (by decide +kernel) (pa_cons (pv 1) (pa_cons (pv 2) pa_nil)))) pe_int))) pss_nil)
    (pss_one (ps_ret (pe_op op_fdiv (pe_op op_add (pe_op op_add (pe_callB (call_min2 rfl) (by rfl) T.n_min (by decide +kernel) (pa_cons (pv 1) (pa_cons (pv 2) pa_nil))) (pv 2)) pe_int) pe_int)))),
    (ss_seq (ss_if (st_test (se_op2 s2_eq se_var se_int)) (ss_ret (se_op2 s2_div (se_op2 s2_add se_var (se_cb sn_max2 (sa_cons se_var (sa_cons se_var sa_nil)))) se_int)) ss_next)
    (ss_ret (se_op2 s2_div (se_op2 s2_add (se_op2 s2_add (se_cb sn_min2 (sa_cons se_var (sa_cons se_var sa_nil))) se_var) se_int) se_int)))⟩
theorem ok_law_low (T : Txt c mg A) : FnR P w c.K mg base (L2.CX P w) 6 A.law_low (spD c (D_law_low)) :=
  fn_ss (N := Nn_law_low) (ps := ["_law_web_here", "_law_row", "_law_stand"]) (s := dn_law_low) T.F_law_low sc_law_low (T.F_law_low.binds (ps := ["_law_web_here", "_law_row", "_law_stand"]) fun _ _ _ _ _ _ us hl => match us, hl with | [_, _, _], _ => rfl) fun cdv A_ outer sh H E' hr => ⟨(tRet (tCB (rMin c.K) (tCons (tLc (iList c.K (tOp (rIx c.K) (tOp (rIx c.K) (tVar 0) (tC (V.int 0))) (tVar 2))) (gName 3) tYes (tOp (rIx c.K) (tVar 1) (tVar 3)) [3]) tNil))),
    (pss_one (ps_ret (pe_callB (cr_min rfl) (by rfl) T.n_min (by decide +kernel) (pa_cons (pe_lc (own := [("_law_step", 3)]) (g := gName 3) (wi := (iList c.K (tOp (rIx c.K) (tOp (rIx c.K) (tVar 0) (tC (V.int 0))) (tVar 2)))) (tt := tYes) (te := (tOp (rIx c.K) (tVar 1) (tVar 3))) rfl sc_law_low.nd (pi_list (pe_ix ix_seq (pe_ix ix_seq (pv 0) pe_int (fun _ _ => rfl)) (pv 2) (fun _ _ => rfl))) (blkOk_by (N := Nn_law_low) (sc := defScope s_law_low) (by decide +kernel)) (fun _ _ _ _ _ => pg_name (i := 3) sc_law_low.nd rfl (by first | exact Or.inl rfl | exact Or.inr rfl)) (fun _ _ _ _ _ => pts_nil) (fun _ _ _ _ _ => (pe_ix ix_seq (pv 1) (pv 3) (fun _ _ => rfl)))) pa_nil)))),
    (ss_ret (se_cb sn_minL (sa_cons (se_new (sen_comp (si_list (se_op2 s2_ix (se_op2 s2_ix se_var se_int) se_var)) st_true (se_op2 s2_ix se_var se_var))) sa_nil)))⟩
theorem ok_law_high (T : Txt c mg A) : FnR P w c.K mg base (L2.CX P w) 6 A.law_high (spD c (D_law_high)) :=
  fn_ss (N := Nn_law_high) (ps := ["_law_web_here", "_law_row", "_law_stand"]) (s := dn_law_high) T.F_law_high sc_law_high (T.F_law_high.binds (ps := ["_law_web_here", "_law_row", "_law_stand"]) fun _ _ _ _ _ _ us hl => match us, hl with | [_, _, _], _ => rfl) fun cdv A_ outer sh H E' hr => ⟨(tRet (tCB (rMax c.K) (tCons (tLc (iList c.K (tOp (rIx c.K) (tOp (rIx c.K) (tVar 0) (tC (V.int 1))) (tVar 2))) (gName 3) tYes (tOp (rIx c.K) (tVar 1) (tVar 3)) [3]) tNil))),
    (pss_one (ps_ret (pe_callB (cr_max rfl) (by rfl) T.n_max (by decide +kernel) (pa_cons (pe_lc (own := [("_law_step", 3)]) (g := gName 3) (wi := (iList c.K (tOp (rIx c.K) (tOp (rIx c.K) (tVar 0) (tC (V.int 1))) (tVar 2)))) (tt := tYes) (te := (tOp (rIx c.K) (tVar 1) (tVar 3))) rfl sc_law_high.nd (pi_list (pe_ix ix_seq (pe_ix ix_seq (pv 0) pe_int (fun _ _ => rfl)) (pv 2) (fun _ _ => rfl))) (blkOk_by (N := Nn_law_high) (sc := defScope s_law_high) (by decide +kernel)) (fun _ _ _ _ _ => pg_name (i := 3) sc_law_high.nd rfl (by first | exact Or.inl rfl | exact Or.inr rfl)) (fun _ _ _ _ _ => pts_nil) (fun _ _ _ _ _ => (pe_ix ix_seq (pv 1) (pv 3) (fun _ _ => rfl)))) pa_nil)))),
    (ss_ret (se_cb sn_maxL (sa_cons (se_new (sen_comp (si_list (se_op2 s2_ix (se_op2 s2_ix se_var se_int) se_var)) st_true (se_op2 s2_ix se_var se_var))) sa_nil)))⟩
theorem ok_law_price (T : Txt c mg A) : FnR P w c.K mg base (L2.CX P w) 7 A.law_price (spD c (D_law_price)) :=
  fn_ss (N := Nn_law_price) (ps := ["_law_web_here", "_law_k", "_law_row", "_law_stand"]) (s := dn_law_price) T.F_law_price sc_law_price (T.F_law_price.binds (ps := ["_law_web_here", "_law_k", "_law_row", "_law_stand"]) fun _ _ _ _ _ _ us hl => match us, hl with | [_, _, _, _], _ => rfl) fun cdv A_ outer sh H E' hr => ⟨(tSeq (tIfS (tTest (tOp rEq (tCB (rLenS c.K) (tCons (tOp (rIx c.K) (tOp (rIx c.K) (tVar 0) (tC (V.int 0))) (tVar 3)) tNil)) (tC (V.int 0)))) (tRet (tOp (rI0 fun i j => V.int (i + j)) (tVar 1) (tC (V.int 1)))) tNext)
    (tRet (tCallS (spD c D_half_of) (fun _ => E') (tCons (tOp (rIx c.K) (tOp (rIx c.K) (tVar 0) (tC (V.int 2))) (tVar 3)) (tCons (tCallS (spD c D_law_low) (fun _ => E') (tCons (tVar 0) (tCons (tVar 2) (tCons (tVar 3) tNil)))) (tCons (tCallS (spD c D_law_high) (fun _ => E') (tCons (tVar 0) (tCons (tVar 2) (tCons (tVar 3) tNil)))) tNil)))))),
    (pss_cons (ps_if (pt_cmpR op_eq (pe_callB call_len_seq (by rfl) T.n_len (by decide +kernel) (pa_cons (pe_ix ix_seq (pe_ix ix_seq (pv 0) pe_int (fun _ _ => rfl)) (pv 3) (fun _ _ => rfl)) pa_nil)) pe_int (nomark _)) (pss_one (ps_ret (pe_op op_add (pv 1) pe_int))) pss_nil)
    (pss_one (ps_ret (pe_callRS (ok_law_half T) (hr.mono (by decide)) (by rfl) T.m_law_half T.F_law_half.kp (passE (takes_of rfl rfl rfl rfl)) (pa_cons (pe_ix ix_seq (pe_ix ix_seq (pv 0) pe_int (fun _ _ => rfl)) (pv 3) (fun _ _ => rfl)) (pa_cons (pe_callRS (ok_law_low T) (hr.mono (by decide)) (by rfl) T.m_law_low T.F_law_low.kp (passE (takes_of rfl rfl rfl rfl)) (pa_cons (pv 0) (pa_cons (pv 2) (pa_cons (pv 3) pa_nil)))) (pa_cons (pe_callRS (ok_law_high T) (hr.mono (by decide)) (by rfl) T.m_law_high T.F_law_high.kp (passE (takes_of rfl rfl rfl rfl)) (pa_cons (pv 0) (pa_cons (pv 2) (pa_cons (pv 3) pa_nil)))) pa_nil))))))),
    (ss_seq (ss_if (st_test (se_op2 s2_eq (se_cb sn_len (sa_cons (se_op2 s2_ix (se_op2 s2_ix se_var se_int) se_var) sa_nil)) se_int)) (ss_ret (se_op2 s2_add se_var se_int)) ss_next)
    (ss_ret (se_call (sa_cons (se_op2 s2_ix (se_op2 s2_ix se_var se_int) se_var) (sa_cons (se_call (sa_cons se_var (sa_cons se_var (sa_cons se_var sa_nil)))) (sa_cons (se_call (sa_cons se_var (sa_cons se_var (sa_cons se_var sa_nil)))) sa_nil))))))⟩
theorem ok_law_next (T : Txt c mg A) : FnR P w c.K mg base (L2.CX P w) 8 A.law_next (spD c (D_law_next)) :=
  fn_ss (N := Nn_law_next) (ps := ["_law_web_here", "_law_k", "_law_row"]) (s := dn_law_next) T.F_law_next sc_law_next (T.F_law_next.binds (ps := ["_law_web_here", "_law_k", "_law_row"]) fun _ _ _ _ _ _ us hl => match us, hl with | [_, _, _], _ => rfl) fun cdv A_ outer sh H E' hr => ⟨(tRet (tLc (iRng1 (tCons (tCB (rLenS c.K) (tCons (tVar 2) tNil)) tNil)) (gName 3) tYes (tCB rMin2F (tCons (tCallS (spD c D_due_at) (fun _ => L2.E0) (tCons (tOp (rIx c.K) (tOp (rIx c.K) (tVar 0) (tC (V.int 3))) (tVar 3)) (tCons (tVar 1) tNil))) (tCons (tCallS (spD c D_law_price) (fun _ => L2.E0) (tCons (tVar 0) (tCons (tVar 1) (tCons (tVar 2) (tCons (tVar 3) tNil))))) tNil))) [3])),
    (pss_one (ps_ret (pe_lc (own := [("_law_stand", 3)]) (g := gName 3) (wi := (iRng1 (tCons (tCB (rLenS c.K) (tCons (tVar 2) tNil)) tNil))) (tt := tYes) (te := (tCB rMin2F (tCons (tCallS (spD c D_due_at) (fun _ => L2.E0) (tCons (tOp (rIx c.K) (tOp (rIx c.K) (tVar 0) (tC (V.int 3))) (tVar 3)) (tCons (tVar 1) tNil))) (tCons (tCallS (spD c D_law_price) (fun _ => L2.E0) (tCons (tVar 0) (tCons (tVar 1) (tCons (tVar 2) (tCons (tVar 3) tNil))))) tNil)))) rfl sc_law_next.nd (pi_range1 (by rfl) T.n_range (pa_cons (pe_callB call_len_seq (by rfl) T.n_len (by decide +kernel) (pa_cons (pv 2) pa_nil)) pa_nil)) (blkOk_by (N := Nn_law_next) (sc := defScope s_law_next) (by decide +kernel)) (fun _ _ _ _ _ => pg_name (i := 3) sc_law_next.nd rfl (by first | exact Or.inl rfl | exact Or.inr rfl)) (fun _ _ _ _ _ => pts_nil) (fun _ _ _ _ _ => (pe_callB (call_min2 rfl) (by rfl) T.n_min (by decide +kernel) (pa_cons (pe_callRS (ok_law_due_at T) (hr.mono (by decide)) (by rfl) T.m_law_due_at T.F_law_due_at.kp passNo (pa_cons (pe_ix ix_seq (pe_ix ix_seq (pv 0) pe_int (fun _ _ => rfl)) (pv 3) (fun _ _ => rfl)) (pa_cons (pv 1) pa_nil))) (pa_cons (pe_callRS (ok_law_price T) (hr.mono (by decide)) (by rfl) T.m_law_price T.F_law_price.kp passNo (pa_cons (pv 0) (pa_cons (pv 1) (pa_cons (pv 2) (pa_cons (pv 3) pa_nil))))) pa_nil))))))),
    (ss_ret (se_new (sen_comp (si_rng1 (sa_cons (se_cb sn_len (sa_cons se_var sa_nil)) sa_nil)) st_true (se_cb sn_min2 (sa_cons (se_call (sa_cons (se_op2 s2_ix (se_op2 s2_ix se_var se_int) se_var) (sa_cons se_var sa_nil))) (sa_cons (se_call (sa_cons se_var (sa_cons se_var (sa_cons se_var (sa_cons se_var sa_nil))))) sa_nil))))))⟩
theorem ok_law_built (T : Txt c mg A) : FnR P w c.K mg base (L2.CX P w) 8 A.law_built (spD c (D_law_built_k09 A.ca)) :=
  fn_ss (N := Nn_law_built) (ps := ["_law_web_here"]) (s := dn_law_built_k09 A.ca) T.F_law_built sc_law_built (T.F_law_built.binds (ps := ["_law_web_here"]) fun _ _ _ _ _ _ us hl => match us, hl with | [_], _ => rfl) fun cdv A_ outer sh H E' hr => ⟨(tRet (StX.tMakeR A.ca.Web (spI c A.ca.Web (D_Web_init_k09 A.ca)) E' (tCons (tLc (iList c.K (tOp (rIx c.K) (tVar 0) (tC (V.int 0)))) (gName 1) tYes (tCB (rListF c.K) (tCons (tVar 1) tNil)) [1]) (tCons (tLc (iList c.K (tOp (rIx c.K) (tVar 0) (tC (V.int 1)))) (gName 1) tYes (tCB (rListF c.K) (tCons (tVar 1) tNil)) [1]) (tCons (tCB (rListF c.K) (tCons (tOp (rIx c.K) (tVar 0) (tC (V.int 2))) tNil)) (tCons (tCB (rListF c.K) (tCons (tOp (rIx c.K) (tVar 0) (tC (V.int 3))) tNil)) tNil)))))),
    (pss_one (ps_ret (StX.pe_makeR T.mk_Web (ok_Web_init T) (hr.mono (by decide)) (by rfl) T.m_Web (fun pins σ H s e s' I h => passE (takes_of rfl rfl rfl rfl) σ pins H s e s' I h) (pa_cons (pe_lc (own := [("_law_lot_here", 1)]) (g := gName 1) (wi := (iList c.K (tOp (rIx c.K) (tVar 0) (tC (V.int 0))))) (tt := tYes) (te := (tCB (rListF c.K) (tCons (tVar 1) tNil))) rfl sc_law_built.nd (pi_list (pe_ix ix_seq (pv 0) pe_int (fun _ _ => rfl))) (blkOk_by (N := Nn_law_built) (sc := defScope s_law_built) (by decide +kernel)) (fun _ _ _ _ _ => pg_name (i := 1) sc_law_built.nd rfl (by first | exact Or.inl rfl | exact Or.inr rfl)) (fun _ _ _ _ _ => pts_nil) (fun _ _ _ _ _ => (pe_callTy call_list_of (by rfl) T.n_list (by decide +kernel) (pa_cons (pv 1) pa_nil)))) (pa_cons (pe_lc (own := [("_law_lot_here", 1)]) (g := gName 1) (wi := (iList c.K (tOp (rIx c.K) (tVar 0) (tC (V.int 1))))) (tt := tYes) (te := (tCB (rListF c.K) (tCons (tVar 1) tNil))) rfl sc_law_built.nd (pi_list (pe_ix ix_seq (pv 0) pe_int (fun _ _ => rfl))) (blkOk_by (N := Nn_law_built) (sc := defScope s_law_built) (by decide +kernel)) (fun _ _ _ _ _ => pg_name (i := 1) sc_law_built.nd rfl (by first | exact Or.inl rfl | exact Or.inr rfl)) (fun _ _ _ _ _ => pts_nil) (fun _ _ _ _ _ => (pe_callTy call_list_of (by rfl) T.n_list (by decide +kernel) (pa_cons (pv 1) pa_nil)))) (pa_cons (pe_callTy call_list_of (by rfl) T.n_list (by decide +kernel) (pa_cons (pe_ix ix_seq (pv 0) pe_int (fun _ _ => rfl)) pa_nil)) (pa_cons (pe_callTy call_list_of (by rfl) T.n_list (by decide +kernel) (pa_cons (pe_ix ix_seq (pv 0) pe_int (fun _ _ => rfl)) pa_nil)) pa_nil))))))),
    (ss_ret (se_make (sa_cons (se_new (sen_comp (si_list (se_op2 s2_ix se_var se_int)) st_true (se_new (sen_list (sa_cons se_var sa_nil))))) (sa_cons (se_new (sen_comp (si_list (se_op2 s2_ix se_var se_int)) st_true (se_new (sen_list (sa_cons se_var sa_nil))))) (sa_cons (se_new (sen_list (sa_cons (se_op2 s2_ix se_var se_int) sa_nil))) (sa_cons (se_new (sen_list (sa_cons (se_op2 s2_ix se_var se_int) sa_nil))) sa_nil))))))⟩
theorem ok_law_rounds (T : Txt c mg A) : FnR P w c.K mg base (L2.CX P w) 9 A.law_rounds (spD c (D_law_rounds)) :=
  fn_ss (N := Nn_law_rounds) (ps := ["_law_web_here", "_law_k"]) (s := dn_law_rounds) T.F_law_rounds sc_law_rounds (T.F_law_rounds.binds (ps := ["_law_web_here", "_law_k"]) fun _ _ _ _ _ _ us hl => match us, hl with | [_, _], _ => rfl) fun cdv A_ outer sh H E' hr => ⟨(tSeq (tAsg (tLst (tCons (tLc (iList c.K (tOp (rIx c.K) (tVar 0) (tC (V.int 3)))) (gName 3) tYes (tCallS (spD c D_due_at) (fun _ => L2.E0) (tCons (tVar 3) (tCons (tVar 1) tNil))) [3]) tNil)) (gName 2))
    (tSeq (tFor (iRng1 (tCons (tOp (rI0 fun i j => V.int (i + j)) (tOp (rI CMul fun i j => V.int (i * j)) (tCB (rLenS c.K) (tCons (tOp (rIx c.K) (tVar 0) (tC (V.int 3))) tNil)) (tOp (rI0 fun i j => V.int (i + j)) (tVar 1) (tC (V.int 2)))) (tC (V.int 2))) tNil)) (gName 4) (tSeq (tAsg (tCallS (spD c D_law_next) (fun _ => E') (tCons (tVar 0) (tCons (tVar 1) (tCons (tOp (rIx c.K) (tVar 2) (tOp (rI0 fun i j => V.int (i - j)) (tCB (rLenS c.K) (tCons (tVar 2) tNil)) (tC (V.int 1)))) tNil)))) (gName 5))
    (tSeq (tIfS (tTest (tOp (rEqD c.K) (tVar 5) (tOp (rIx c.K) (tVar 2) (tOp (rI0 fun i j => V.int (i - j)) (tCB (rLenS c.K) (tCons (tVar 2) tNil)) (tC (V.int 1)))))) (tRet (tVar 2)) tNext)
    (tDrop (tBM c.K "list" rAppend (tVar 2) (tCons (tVar 5) tNil))))))
    (tRet (tVar 2)))),
    (pss_cons (ps_asg (pe_lst (pa_cons (pe_lc (own := [("_law_due_here", 3)]) (g := gName 3) (wi := (iList c.K (tOp (rIx c.K) (tVar 0) (tC (V.int 3))))) (tt := tYes) (te := (tCallS (spD c D_due_at) (fun _ => L2.E0) (tCons (tVar 3) (tCons (tVar 1) tNil)))) rfl sc_law_rounds.nd (pi_list (pe_ix ix_seq (pv 0) pe_int (fun _ _ => rfl))) (blkOk_by (N := Nn_law_rounds) (sc := defScope s_law_rounds) (by decide +kernel)) (fun _ _ _ _ _ => pg_name (i := 3) sc_law_rounds.nd rfl (by first | exact Or.inl rfl | exact Or.inr rfl)) (fun _ _ _ _ _ => pts_nil) (fun _ _ _ _ _ => (pe_callRS (ok_law_due_at T) (hr.mono (by decide)) (by rfl) T.m_law_due_at T.F_law_due_at.kp passNo (pa_cons (pv 3) (pa_cons (pv 1) pa_nil))))) pa_nil)) (pg_name (i := 2) sc_law_rounds.nd rfl (by first | exact Or.inl rfl | exact Or.inr rfl)))
    (pss_cons (ps_for (passes_of rfl) rfl (pi_range1 (by rfl) T.n_range (pa_cons (pe_op op_add (pe_op op_mul (pe_callB call_len_seq (by rfl) T.n_len (by decide +kernel) (pa_cons (pe_ix ix_seq (pv 0) pe_int (fun _ _ => rfl)) pa_nil)) (pe_op op_add (pv 1) pe_int)) pe_int) pa_nil)) (pg_name (i := 4) sc_law_rounds.nd rfl (by first | exact Or.inl rfl | exact Or.inr rfl)) (pss_cons (ps_asg (pe_callRS (ok_law_next T) (hr.mono (by decide)) (by rfl) T.m_law_next T.F_law_next.kp (passE (takes_of rfl rfl rfl rfl)) (pa_cons (pv 0) (pa_cons (pv 1) (pa_cons (pe_ix ix_seq (pv 2) (pe_op op_sub (pe_callB call_len_seq (by rfl) T.n_len (by decide +kernel) (pa_cons (pv 2) pa_nil)) pe_int) (fun _ _ => rfl)) pa_nil)))) (pg_name (i := 5) sc_law_rounds.nd rfl (by first | exact Or.inl rfl | exact Or.inr rfl)))
    (pss_cons (ps_if (pt_cmpR (op_eqD (hr.units)) (pv 5) (pe_ix ix_seq (pv 2) (pe_op op_sub (pe_callB call_len_seq (by rfl) T.n_len (by decide +kernel) (pa_cons (pv 2) pa_nil)) pe_int) (fun _ _ => rfl)) (nomark _)) (pss_one (ps_ret (pv 2))) pss_nil)
    (pss_one (ps_expr (pe_bm PySem.F.plainAttrs_list PySem.F.slot_list_append PySem.F.type_list_append mt_append (pv 2) (pa_cons (pv 5) pa_nil)))))))
    (pss_one (ps_ret (pv 2))))),
    (ss_seq (ss_own (sen_lst (sa_cons (se_new (sen_comp (si_list (se_op2 s2_ix se_var se_int)) st_true (se_call (sa_cons se_var (sa_cons se_var sa_nil))))) sa_nil)))
    (ss_seq (ss_for (si_rng1 (sa_cons (se_op2 s2_add (se_op2 s2_mul (se_cb sn_len (sa_cons (se_op2 s2_ix se_var se_int) sa_nil)) (se_op2 s2_add se_var se_int)) se_int) sa_nil)) sg_name (ss_seq (ss_asg (se_call (sa_cons se_var (sa_cons se_var (sa_cons (se_ixc (se_op2 s2_sub se_lenc se_int)) sa_nil)))) sg_name)
    (ss_seq (ss_if (st_test (se_op2 s2_eqD se_var (se_ixc (se_op2 s2_sub se_lenc se_int)))) (ss_give (i := 2) (ss_ret se_var)) ss_next)
    (ss_append se_var))))
    (ss_give (i := 2) (ss_ret se_var))))⟩
theorem ok_law_states (T : Txt c mg A) : FnR P w c.K mg base (L2.CX P w) 6 A.law_states (spD c (D_law_states)) :=
  fn_ss (N := Nn_law_states) (ps := ["_law_told", "_law_k", "_law_row"]) (s := dn_law_states) T.F_law_states sc_law_states (T.F_law_states.binds (ps := ["_law_told", "_law_k", "_law_row"]) fun _ _ _ _ _ _ us hl => match us, hl with | [_, _, _], _ => rfl) fun cdv A_ outer sh H E' hr => ⟨(tSeq (tIfS (tOr (tNot (fun σ H Q => (tCB (rIsi c.K) (tCons (tVar 0) (tCons (tC (V.ty "tuple")) tNil))) σ H fun x H' => ∃ k, TruV c.K x H' k ∧ Q k H')) (tTest (tOp rNe (tCB (rLenS c.K) (tCons (tVar 0) tNil)) (tCB (rLenS c.K) (tCons (tVar 2) tNil))))) (tRet (tC (V.bl false))) tNext)
    (tSeq (tFor (iRng1 (tCons (tCB (rLenS c.K) (tCons (tVar 2) tNil)) tNil)) (gName 3) (tSeq (tIfS (tOr (tNot (fun σ H Q => (tCB (rIsi c.K) (tCons (tOp (rIx c.K) (tVar 0) (tVar 3)) (tCons (tC (V.ty "tuple")) tNil))) σ H fun x H' => ∃ k, TruV c.K x H' k ∧ Q k H')) (tTest (tOp rNe (tCB (rLenS c.K) (tCons (tOp (rIx c.K) (tVar 0) (tVar 3)) tNil)) (tOp (rI0 fun i j => V.int (i + j)) (tVar 1) (tC (V.int 1)))))) (tRet (tC (V.bl false))) tNext)
    (tFor (iRng1 (tCons (tOp (rI0 fun i j => V.int (i + j)) (tVar 1) (tC (V.int 1))) tNil)) (gName 4) (tIfS (tOr (tNot (fun σ H Q => (tCB (rIsi c.K) (tCons (tOp (rIx c.K) (tOp (rIx c.K) (tVar 0) (tVar 3)) (tVar 4)) (tCons (tC (V.ty "bool")) tNil))) σ H fun x H' => ∃ k, TruV c.K x H' k ∧ Q k H')) (tTest (tOp rNe (tOp (rIx c.K) (tOp (rIx c.K) (tVar 0) (tVar 3)) (tVar 4)) (tOp (rI0 fun i j => V.bl (decide (j ≤ i))) (tVar 4) (tOp (rIx c.K) (tVar 2) (tVar 3)))))) (tRet (tC (V.bl false))) tNext))))
    (tRet (tC (V.bl true))))),
    (pss_cons (ps_if (PW.pt (pw_or (pt_not (pt_truth (pe_callB call_isi (by rfl) T.n_isinstance (by decide +kernel) (pa_cons (pv 0) (pa_cons (pe_bltn (v := V.ty "tuple") (by rfl) T.n_tuple (by decide +kernel) rfl) pa_nil))) (by intro _; rfl))) (pw_or1 (pt_cmpR op_ne (pe_callB call_len_seq (by rfl) T.n_len (by decide +kernel) (pa_cons (pv 0) pa_nil)) (pe_callB call_len_seq (by rfl) T.n_len (by decide +kernel) (pa_cons (pv 2) pa_nil)) (nomark _))))) (pss_one (ps_ret pe_bl)) pss_nil)
    (pss_cons (ps_for (passes_of rfl) rfl (pi_range1 (by rfl) T.n_range (pa_cons (pe_callB call_len_seq (by rfl) T.n_len (by decide +kernel) (pa_cons (pv 2) pa_nil)) pa_nil)) (pg_name (i := 3) sc_law_states.nd rfl (by first | exact Or.inl rfl | exact Or.inr rfl)) (pss_cons (ps_if (PW.pt (pw_or (pt_not (pt_truth (pe_callB call_isi (by rfl) T.n_isinstance (by decide +kernel) (pa_cons (pe_ix ix_seq (pv 0) (pv 3) (fun _ _ => rfl)) (pa_cons (pe_bltn (v := V.ty "tuple") (by rfl) T.n_tuple (by decide +kernel) rfl) pa_nil))) (by intro _; rfl))) (pw_or1 (pt_cmpR op_ne (pe_callB call_len_seq (by rfl) T.n_len (by decide +kernel) (pa_cons (pe_ix ix_seq (pv 0) (pv 3) (fun _ _ => rfl)) pa_nil)) (pe_op op_add (pv 1) pe_int) (nomark _))))) (pss_one (ps_ret pe_bl)) pss_nil)
    (pss_one (ps_for (passes_of rfl) rfl (pi_range1 (by rfl) T.n_range (pa_cons (pe_op op_add (pv 1) pe_int) pa_nil)) (pg_name (i := 4) sc_law_states.nd rfl (by first | exact Or.inl rfl | exact Or.inr rfl)) (pss_one (ps_if (PW.pt (pw_or (pt_not (pt_truth (pe_callB call_isi (by rfl) T.n_isinstance (by decide +kernel) (pa_cons (pe_ix ix_seq (pe_ix ix_seq (pv 0) (pv 3) (fun _ _ => rfl)) (pv 4) (fun _ _ => rfl)) (pa_cons (pe_bltn (v := V.ty "bool") (by rfl) T.n_bool (by decide +kernel) rfl) pa_nil))) (by intro _; rfl))) (pw_or1 (pt_cmpR op_ne (pe_ix ix_seq (pe_ix ix_seq (pv 0) (pv 3) (fun _ _ => rfl)) (pv 4) (fun _ _ => rfl)) (pe_cmpR op_ge (pv 4) (pe_ix ix_seq (pv 2) (pv 3) (fun _ _ => rfl)) (nomark _)) (nomark _))))) (pss_one (ps_ret pe_bl)) pss_nil))))))
    (pss_one (ps_ret pe_bl)))),
    (ss_seq (ss_if (st_or (st_not (st_tru (se_cb sn_is1 (sa_cons se_var (sa_cons (se_c fun _ _ => At.ty Ty.tup) sa_nil))))) (st_test (se_op2 s2_ne (se_cb sn_len (sa_cons se_var sa_nil)) (se_cb sn_len (sa_cons se_var sa_nil))))) (ss_ret se_bl) ss_next)
    (ss_seq (ss_for (si_rng1 (sa_cons (se_cb sn_len (sa_cons se_var sa_nil)) sa_nil)) sg_name (ss_seq (ss_if (st_or (st_not (st_tru (se_cb sn_is1 (sa_cons (se_op2 s2_ix se_var se_var) (sa_cons (se_c fun _ _ => At.ty Ty.tup) sa_nil))))) (st_test (se_op2 s2_ne (se_cb sn_len (sa_cons (se_op2 s2_ix se_var se_var) sa_nil)) (se_op2 s2_add se_var se_int)))) (ss_ret se_bl) ss_next)
    (ss_for (si_rng1 (sa_cons (se_op2 s2_add se_var se_int) sa_nil)) sg_name (ss_if (st_or (st_not (st_tru (se_cb sn_is1 (sa_cons (se_op2 s2_ix (se_op2 s2_ix se_var se_var) se_var) (sa_cons (se_c fun _ _ => At.ty Ty.bl) sa_nil))))) (st_test (se_op2 s2_ne (se_op2 s2_ix (se_op2 s2_ix se_var se_var) se_var) (se_op2 s2_ge se_var (se_op2 s2_ix se_var se_var))))) (ss_ret se_bl) ss_next))))
    (ss_ret se_bl)))⟩
theorem ok_law_level (T : Txt c mg A) : FnR P w c.K mg base (L2.CX P w) 6 A.law_level (spD c (D_law_level)) :=
  fn_ss (N := Nn_law_level) (ps := ["_law_rows", "_law_stand", "_law_purse"]) (s := dn_law_level) T.F_law_level sc_law_level (T.F_law_level.binds (ps := ["_law_rows", "_law_stand", "_law_purse"]) fun _ _ _ _ _ _ us hl => match us, hl with | [_, _, _], _ => rfl) fun cdv A_ outer sh H E' hr => ⟨(tSeq (tFor (iRng1 (tCons (tCB (rLenS c.K) (tCons (tVar 0) tNil)) tNil)) (gName 3) (tIfS (tTest (tOp (rI0 fun i j => V.bl (decide (j ≤ i))) (tVar 2) (tOp (rIx c.K) (tOp (rIx c.K) (tVar 0) (tVar 3)) (tVar 1)))) (tRet (tVar 3)) tNext))
    (tRet (tC V.non))),
    (pss_cons (ps_for (passes_of rfl) rfl (pi_range1 (by rfl) T.n_range (pa_cons (pe_callB call_len_seq (by rfl) T.n_len (by decide +kernel) (pa_cons (pv 0) pa_nil)) pa_nil)) (pg_name (i := 3) sc_law_level.nd rfl (by first | exact Or.inl rfl | exact Or.inr rfl)) (pss_one (ps_if (pt_cmpR op_ge (pv 2) (pe_ix ix_seq (pe_ix ix_seq (pv 0) (pv 3) (fun _ _ => rfl)) (pv 1) (fun _ _ => rfl)) (nomark _)) (pss_one (ps_ret (pv 3))) pss_nil)))
    (pss_one (ps_ret pe_non))),
    (ss_seq (ss_for (si_rng1 (sa_cons (se_cb sn_len (sa_cons se_var sa_nil)) sa_nil)) sg_name (ss_if (st_test (se_op2 s2_ge se_var (se_op2 s2_ix (se_op2 s2_ix se_var se_var) se_var))) (ss_ret se_var) ss_next))
    (ss_ret se_non))⟩
theorem ok_law_code (T : Txt c mg A) : FnR P w c.K mg base (L2.CX P w) 7 A.law_code (spD c (D_law_code_k10 A.ca)) :=
  fn_ss (N := Nn_law_code) (ps := ["_law_built_here", "_law_k", "_law_level_here", "_law_way"]) (s := dn_law_code_k10 A.ca) T.F_law_code sc_law_code (T.F_law_code.binds (ps := ["_law_built_here", "_law_k", "_law_level_here", "_law_way"]) fun _ _ _ _ _ _ us hl => match us, hl with | [_, _, _, _], _ => rfl) fun cdv A_ outer sh H E' hr => ⟨(tSeq (tAsg (tC (V.int 0)) (gName 4))
    (tSeq (fun D σ H => (fun W => (tDrop (tCallNS 3 1 (spD c (D4_won_states A.ca)) (fun vs zs => vs ++ [] ++ zs) (fun σ cls d H => W cls d σ H) (tCons (tVar 0) (tCons (tVar 1) (tCons (tVar 2) tNil))) (tCons (tVar 3) tNil)))) (wMany c.K (fun cls d σ H => (fun _ => E') σ cls d H) D [(Value.ref (c.ec 0), fun _ _ _ => (tAsg (tC (V.int 1)) (gName 4))), (Value.ref (c.ec 1), fun _ _ _ => (tAsg (tC (V.int 2)) (gName 4))), (Value.ref (c.ec 3), fun _ _ _ => (tAsg (tC (V.int 3)) (gName 4)))]) D σ H)
    (tRet (tVar 4)))),
    (pss_cons (ps_asg pe_int (pg_name (i := 4) sc_law_code.nd rfl (by first | exact Or.inl rfl | exact Or.inr rfl)))
    (pss_cons (ps_try_many (l := [(Value.ref (c.ec 0), fun _ _ _ => (tAsg (tC (V.int 1)) (gName 4))), (Value.ref (c.ec 1), fun _ _ _ => (tAsg (tC (V.int 2)) (gName 4))), (Value.ref (c.ec 3), fun _ _ _ => (tAsg (tC (V.int 3)) (gName 4)))]) (tb := fun W => (tDrop (tCallNS 3 1 (spD c (D4_won_states A.ca)) (fun vs zs => vs ++ [] ++ zs) (fun σ cls d H => W cls d σ H) (tCons (tVar 0) (tCons (tVar 1) (tCons (tVar 2) tNil))) (tCons (tVar 3) tNil)))) rfl rfl (takes_of rfl rfl rfl rfl) (fun W pn xe tk _ => (pss_one (ps_expr (pe_callNS1 (ok4_won_states T) (hr.mono (by decide)) (by rfl) T.m_won_states T.F_won_states.kp (kbn_all T.F_won_states 3 fun _ _ _ _ _ _ _ us its ws h1 h2 h3 => match us, its, ws, h1, h2, h3 with | [_, _, _], [_], [_], _, _, _ => ⟨_, rfl, rfl⟩) (fun σ => passAt tk σ) (pa_cons (pv 0) (pa_cons (pv 1) (pa_cons (pv 2) pa_nil))) (pk_cons (pv 3) pk_nil))))) (HdsOk.cons (by exact ⟨rfl, by decide, .inl T.mE0⟩) (fun a oe cls d pn _ _ => (pss_one (ps_asg pe_int (pg_name (i := 4) sc_law_code.nd rfl (by first | exact Or.inl rfl | exact Or.inr rfl))))) (HdsOk.cons (by exact ⟨rfl, by decide, .inl T.mE1⟩) (fun a oe cls d pn _ _ => (pss_one (ps_asg pe_int (pg_name (i := 4) sc_law_code.nd rfl (by first | exact Or.inl rfl | exact Or.inr rfl))))) (HdsOk.cons (by exact ⟨rfl, by decide, .inl T.mE3⟩) (fun a oe cls d pn _ _ => (pss_one (ps_asg pe_int (pg_name (i := 4) sc_law_code.nd rfl (by first | exact Or.inl rfl | exact Or.inr rfl))))) HdsOk.nil))))
    (pss_one (ps_ret (pv 4))))),
    (ss_seq (ss_asg se_int sg_name)
    (ss_seq (ss_try rfl T.apart (fun W => (ss_drop (se_callK (vmid := []) (fun _ _ => .nil) (sa_cons se_var (sa_cons se_var (sa_cons se_var sa_nil))) (sa_cons se_var sa_nil)))) (Suites.cons (by decide) (fun _ _ _ => (ss_asg se_int sg_name)) (Suites.cons (by decide) (fun _ _ _ => (ss_asg se_int sg_name)) (Suites.cons (by decide) (fun _ _ _ => (ss_asg se_int sg_name)) Suites.nil))))
    (ss_ret se_var)))⟩
theorem ok_law_level_code (T : Txt c mg A) : FnR P w c.K mg base (L2.CX P w) 7 A.law_level_code (spD c (D_law_level_code A.ca)) :=
  fn_ss (N := Nn_law_level_code) (ps := ["_law_built_here", "_law_k", "_law_stand", "_law_purse"]) (s := dn_law_level_code A.ca) T.F_law_level_code sc_law_level_code (T.F_law_level_code.binds (ps := ["_law_built_here", "_law_k", "_law_stand", "_law_purse"]) fun _ _ _ _ _ _ us hl => match us, hl with | [_, _, _, _], _ => rfl) fun cdv A_ outer sh H E' hr => ⟨(tSeq (tAsg (tC (V.int 0)) (gName 4))
    (tSeq (fun D σ H => (fun W => (tDrop (tCallS (spD c (D_level_of A.ca)) (fun σ cls d H => W cls d σ H) (tCons (tVar 0) (tCons (tVar 1) (tCons (tVar 2) (tCons (tVar 3) tNil))))))) (wMany c.K (fun cls d σ H => (fun _ => E') σ cls d H) D [(Value.ref (c.ec 0), fun _ _ _ => (tAsg (tC (V.int 1)) (gName 4))), (Value.ref (c.ec 1), fun _ _ _ => (tAsg (tC (V.int 2)) (gName 4))), (Value.ref (c.ec 3), fun _ _ _ => (tAsg (tC (V.int 3)) (gName 4)))]) D σ H)
    (tRet (tVar 4)))),
    (pss_cons (ps_asg pe_int (pg_name (i := 4) sc_law_level_code.nd rfl (by first | exact Or.inl rfl | exact Or.inr rfl)))
    (pss_cons (ps_try_many (l := [(Value.ref (c.ec 0), fun _ _ _ => (tAsg (tC (V.int 1)) (gName 4))), (Value.ref (c.ec 1), fun _ _ _ => (tAsg (tC (V.int 2)) (gName 4))), (Value.ref (c.ec 3), fun _ _ _ => (tAsg (tC (V.int 3)) (gName 4)))]) (tb := fun W => (tDrop (tCallS (spD c (D_level_of A.ca)) (fun σ cls d H => W cls d σ H) (tCons (tVar 0) (tCons (tVar 1) (tCons (tVar 2) (tCons (tVar 3) tNil))))))) rfl rfl (takes_of rfl rfl rfl rfl) (fun W pn xe tk _ => (pss_one (ps_expr (pe_callRS (ok_level_of T) (hr.mono (by decide)) (by rfl) T.m_level_of T.F_level_of.kp (fun σ => passAt tk σ) (pa_cons (pv 0) (pa_cons (pv 1) (pa_cons (pv 2) (pa_cons (pv 3) pa_nil)))))))) (HdsOk.cons (by exact ⟨rfl, by decide, .inl T.mE0⟩) (fun a oe cls d pn _ _ => (pss_one (ps_asg pe_int (pg_name (i := 4) sc_law_level_code.nd rfl (by first | exact Or.inl rfl | exact Or.inr rfl))))) (HdsOk.cons (by exact ⟨rfl, by decide, .inl T.mE1⟩) (fun a oe cls d pn _ _ => (pss_one (ps_asg pe_int (pg_name (i := 4) sc_law_level_code.nd rfl (by first | exact Or.inl rfl | exact Or.inr rfl))))) (HdsOk.cons (by exact ⟨rfl, by decide, .inl T.mE3⟩) (fun a oe cls d pn _ _ => (pss_one (ps_asg pe_int (pg_name (i := 4) sc_law_level_code.nd rfl (by first | exact Or.inl rfl | exact Or.inr rfl))))) HdsOk.nil))))
    (pss_one (ps_ret (pv 4))))),
    (ss_seq (ss_asg se_int sg_name)
    (ss_seq (ss_try rfl T.apart (fun W => (ss_drop (se_call (sa_cons se_var (sa_cons se_var (sa_cons se_var (sa_cons se_var sa_nil))))))) (Suites.cons (by decide) (fun _ _ _ => (ss_asg se_int sg_name)) (Suites.cons (by decide) (fun _ _ _ => (ss_asg se_int sg_name)) (Suites.cons (by decide) (fun _ _ _ => (ss_asg se_int sg_name)) Suites.nil))))
    (ss_ret se_var)))⟩
theorem ok_law_refusals (T : Txt c mg A) : FnR P w c.K mg base (L2.CX P w) 10 A.law_refusals (spD c (D_law_refusals_k10 A.ca)) :=
  fn_ss (N := Nn_law_refusals) (ps := ["_law_built_here", "_law_k", "_law_size", "_law_way"]) (s := dn_law_refusals_k10 A.ca) T.F_law_refusals sc_law_refusals (T.F_law_refusals.binds (ps := ["_law_built_here", "_law_k", "_law_size", "_law_way"]) fun _ _ _ _ _ _ us hl => match us, hl with | [_, _, _, _], _ => rfl) fun cdv A_ outer sh H E' hr => ⟨(tSeq (tIfS (tOr (tTest (tOp rNe (tCallS (spD c (D_law_code_k10 A.ca)) (fun _ => E') (tCons (tVar 0) (tCons (tVar 1) (tCons (tC V.non) (tCons (tC (V.str "third")) tNil))))) (tC (V.int 2)))) (tTest (tOp rNe (tCallS (spD c (D_law_code_k10 A.ca)) (fun _ => E') (tCons (tVar 0) (tCons (tVar 1) (tCons (tOp (rI0 fun i j => V.int (i - j)) (tC (V.int 0)) (tC (V.int 1))) (tCons (tVar 3) tNil))))) (tC (V.int 2))))) (tRet (tC (V.bl false))) tNext)
    (tSeq (tIfS (tOr (tTest (tOp rNe (tCallS (spD c (D_law_code_k10 A.ca)) (fun _ => E') (tCons (tVar 0) (tCons (tOp (rI0 fun i j => V.int (i - j)) (tC (V.int 0)) (tC (V.int 1))) (tCons (tC V.non) (tCons (tC (V.str "third")) tNil))))) (tC (V.int 2)))) (tTest (tOp rNe (tCallS (spD c (D_law_code_k10 A.ca)) (fun _ => E') (tCons (tVar 0) (tCons (tC (V.int 13)) (tCons (tOp (rI0 fun i j => V.int (i - j)) (tC (V.int 0)) (tC (V.int 1))) (tCons (tVar 3) tNil))))) (tC (V.int 2))))) (tRet (tC (V.bl false))) tNext)
    (tSeq (tIfS (tOr (tTest (tOp rNe (tCallS (spD c (D_law_code_k10 A.ca)) (fun _ => E') (tCons (tVar 0) (tCons (tC (V.int 13)) (tCons (tC V.non) (tCons (tVar 3) tNil))))) (tC (V.int 3)))) (tTest (tOp rNe (tCallS (spD c (D_law_code_k10 A.ca)) (fun _ => E') (tCons (tVar 0) (tCons (tOp (rI0 fun i j => V.int (i - j)) (tC (V.int 0)) (tC (V.int 1))) (tCons (tC (V.bl true)) (tCons (tVar 3) tNil))))) (tC (V.int 1))))) (tRet (tC (V.bl false))) tNext)
    (tSeq (tIfS (tOr (tTest (tOp rNe (tCallS (spD c (D_law_code_k10 A.ca)) (fun _ => E') (tCons (tVar 0) (tCons (tC (V.int 13)) (tCons (tC V.non) (tCons (tC V.non) tNil))))) (tC (V.int 1)))) (tTest (tOp rNe (tCallS (spD c (D_law_code_k10 A.ca)) (fun _ => E') (tCons (tC V.non) (tCons (tVar 1) (tCons (tC V.non) (tCons (tC (V.str "third")) tNil))))) (tC (V.int 1))))) (tRet (tC (V.bl false))) tNext)
    (tSeq (tIfS (tOr (tTest (tOp rNe (tCallS (spD c (D_law_code_k10 A.ca)) (fun _ => E') (tCons (ClX.tCMeth A.ca.Web (spD c (D_Web_line A.ca)) E' (tC (V.ref A.ca.Web)) (tCons (tC (V.int 8)) tNil)) (tCons (tC (V.int 0)) (tCons (tC (V.int 0)) (tCons (tVar 3) tNil))))) (tC (V.int 3)))) (tTest (tOp rNe (tCallS (spD c (D_law_code_k10 A.ca)) (fun _ => E') (tCons (ClX.tCMeth A.ca.Web (spD c (D_Web_line A.ca)) E' (tC (V.ref A.ca.Web)) (tCons (tC (V.int 7)) tNil)) (tCons (tC (V.int 0)) (tCons (tC (V.int 0)) (tCons (tVar 3) tNil))))) (tC (V.int 0))))) (tRet (tC (V.bl false))) tNext)
    (tSeq (tIfS (tOr (tTest (tOp rNe (tCallS (spD c (D_law_level_code A.ca)) (fun _ => E') (tCons (ClX.tCMeth A.ca.Web (spD c (D_Web_line A.ca)) E' (tC (V.ref A.ca.Web)) (tCons (tC (V.int 8)) tNil)) (tCons (tC (V.int 0)) (tCons (tC (V.int 8)) (tCons (tC (V.int 0)) tNil))))) (tC (V.int 3)))) (tTest (tOp rNe (tCallS (spD c (D_law_level_code A.ca)) (fun _ => E') (tCons (tVar 0) (tCons (tC (V.int 13)) (tCons (tC (V.int 0)) (tCons (tC (V.int 13)) tNil))))) (tC (V.int 3))))) (tRet (tC (V.bl false))) tNext)
    (tSeq (tIfS (tOr (tTest (tOp rNe (tCallS (spD c (D_law_level_code A.ca)) (fun _ => E') (tCons (tVar 0) (tCons (tVar 1) (tCons (tOp (rI0 fun i j => V.int (i - j)) (tC (V.int 0)) (tC (V.int 1))) (tCons (tC (V.int 0)) tNil))))) (tC (V.int 2)))) (tTest (tOp rNe (tCallS (spD c (D_law_level_code A.ca)) (fun _ => E') (tCons (tVar 0) (tCons (tVar 1) (tCons (tC (V.int 0)) (tCons (tOp (rI0 fun i j => V.int (i - j)) (tC (V.int 0)) (tC (V.int 1))) tNil))))) (tC (V.int 2))))) (tRet (tC (V.bl false))) tNext)
    (tSeq (tIfS (tTest (tOp rNe (tCallS (spD c (D_law_level_code A.ca)) (fun _ => E') (tCons (tVar 0) (tCons (tOp (rI0 fun i j => V.int (i - j)) (tC (V.int 0)) (tC (V.int 1))) (tCons (tC (V.int 0)) (tCons (tC (V.int 0)) tNil))))) (tC (V.int 2)))) (tRet (tC (V.bl false))) tNext)
    (tSeq (tIfS (tOr (tTest (tOp rNe (tCallS (spD c (D_law_level_code A.ca)) (fun _ => E') (tCons (tVar 0) (tCons (tVar 1) (tCons (tVar 2) (tCons (tC (V.int 0)) tNil))))) (tC (V.int 2)))) (tTest (tOp rNe (tCallS (spD c (D_law_level_code A.ca)) (fun _ => E') (tCons (tVar 0) (tCons (tVar 1) (tCons (tC (V.int 0)) (tCons (tOp (rI0 fun i j => V.int (i + j)) (tVar 1) (tC (V.int 1))) tNil))))) (tC (V.int 2))))) (tRet (tC (V.bl false))) tNext)
    (tRet (tAndV (tOp rEq (tCallS (spD c (D_law_level_code A.ca)) (fun _ => E') (tCons (tVar 0) (tCons (tC (V.int 13)) (tCons (tVar 2) (tCons (tC (V.str "0")) tNil))))) (tC (V.int 1))) (tOp rEq (tCallS (spD c (D_law_level_code A.ca)) (fun _ => E') (tCons (tVar 0) (tCons (tC (V.int 13)) (tCons (tC (V.int 0)) (tCons (tC (V.int 14)) tNil))))) (tC (V.int 2)))))))))))))),
    (pss_cons (ps_if (PW.pt (pw_or (pt_cmpR op_ne (pe_callRS (ok_law_code T) (hr.mono (by decide)) (by rfl) T.m_law_code T.F_law_code.kp (passE (takes_of rfl rfl rfl rfl)) (pa_cons (pv 0) (pa_cons (pv 1) (pa_cons pe_non (pa_cons pe_str pa_nil))))) pe_int (nomark _)) (pw_or1 (pt_cmpR op_ne (pe_callRS (ok_law_code T) (hr.mono (by decide)) (by rfl) T.m_law_code T.F_law_code.kp (passE (takes_of rfl rfl rfl rfl)) (pa_cons (pv 0) (pa_cons (pv 1) (pa_cons (pe_op op_sub pe_int pe_int) (pa_cons (pv 3) pa_nil))))) pe_int (nomark _))))) (pss_one (ps_ret pe_bl)) pss_nil)
    (pss_cons (ps_if (PW.pt (pw_or (pt_cmpR op_ne (pe_callRS (ok_law_code T) (hr.mono (by decide)) (by rfl) T.m_law_code T.F_law_code.kp (passE (takes_of rfl rfl rfl rfl)) (pa_cons (pv 0) (pa_cons (pe_op op_sub pe_int pe_int) (pa_cons pe_non (pa_cons pe_str pa_nil))))) pe_int (nomark _)) (pw_or1 (pt_cmpR op_ne (pe_callRS (ok_law_code T) (hr.mono (by decide)) (by rfl) T.m_law_code T.F_law_code.kp (passE (takes_of rfl rfl rfl rfl)) (pa_cons (pv 0) (pa_cons pe_int (pa_cons (pe_op op_sub pe_int pe_int) (pa_cons (pv 3) pa_nil))))) pe_int (nomark _))))) (pss_one (ps_ret pe_bl)) pss_nil)
    (pss_cons (ps_if (PW.pt (pw_or (pt_cmpR op_ne (pe_callRS (ok_law_code T) (hr.mono (by decide)) (by rfl) T.m_law_code T.F_law_code.kp (passE (takes_of rfl rfl rfl rfl)) (pa_cons (pv 0) (pa_cons pe_int (pa_cons pe_non (pa_cons (pv 3) pa_nil))))) pe_int (nomark _)) (pw_or1 (pt_cmpR op_ne (pe_callRS (ok_law_code T) (hr.mono (by decide)) (by rfl) T.m_law_code T.F_law_code.kp (passE (takes_of rfl rfl rfl rfl)) (pa_cons (pv 0) (pa_cons (pe_op op_sub pe_int pe_int) (pa_cons pe_bl (pa_cons (pv 3) pa_nil))))) pe_int (nomark _))))) (pss_one (ps_ret pe_bl)) pss_nil)
    (pss_cons (ps_if (PW.pt (pw_or (pt_cmpR op_ne (pe_callRS (ok_law_code T) (hr.mono (by decide)) (by rfl) T.m_law_code T.F_law_code.kp (passE (takes_of rfl rfl rfl rfl)) (pa_cons (pv 0) (pa_cons pe_int (pa_cons pe_non (pa_cons pe_non pa_nil))))) pe_int (nomark _)) (pw_or1 (pt_cmpR op_ne (pe_callRS (ok_law_code T) (hr.mono (by decide)) (by rfl) T.m_law_code T.F_law_code.kp (passE (takes_of rfl rfl rfl rfl)) (pa_cons pe_non (pa_cons (pv 1) (pa_cons pe_non (pa_cons pe_str pa_nil))))) pe_int (nomark _))))) (pss_one (ps_ret pe_bl)) pss_nil)
    (pss_cons (ps_if (PW.pt (pw_or (pt_cmpR op_ne (pe_callRS (ok_law_code T) (hr.mono (by decide)) (by rfl) T.m_law_code T.F_law_code.kp (passE (takes_of rfl rfl rfl rfl)) (pa_cons (ClX.pe_cmeth (pe_glob (by rfl) T.m_Web rfl) T.cr_Web T.cm_Web_line (ok_Web_line T) (hr.mono (by decide)) (fun pins σ H s e s' I h => passE (takes_of rfl rfl rfl rfl) σ pins H s e s' I h) (pa_cons pe_int pa_nil)) (pa_cons pe_int (pa_cons pe_int (pa_cons (pv 3) pa_nil))))) pe_int (nomark _)) (pw_or1 (pt_cmpR op_ne (pe_callRS (ok_law_code T) (hr.mono (by decide)) (by rfl) T.m_law_code T.F_law_code.kp (passE (takes_of rfl rfl rfl rfl)) (pa_cons (ClX.pe_cmeth (pe_glob (by rfl) T.m_Web rfl) T.cr_Web T.cm_Web_line (ok_Web_line T) (hr.mono (by decide)) (fun pins σ H s e s' I h => passE (takes_of rfl rfl rfl rfl) σ pins H s e s' I h) (pa_cons pe_int pa_nil)) (pa_cons pe_int (pa_cons pe_int (pa_cons (pv 3) pa_nil))))) pe_int (nomark _))))) (pss_one (ps_ret pe_bl)) pss_nil)
    (pss_cons (ps_if (PW.pt (pw_or (pt_cmpR op_ne (pe_callRS (ok_law_level_code T) (hr.mono (by decide)) (by rfl) T.m_law_level_code T.F_law_level_code.kp (passE (takes_of rfl rfl rfl rfl)) (pa_cons (ClX.pe_cmeth (pe_glob (by rfl) T.m_Web rfl) T.cr_Web T.cm_Web_line (ok_Web_line T) (hr.mono (by decide)) (fun pins σ H s e s' I h => passE (takes_of rfl rfl rfl rfl) σ pins H s e s' I h) (pa_cons pe_int pa_nil)) (pa_cons pe_int (pa_cons pe_int (pa_cons pe_int pa_nil))))) pe_int (nomark _)) (pw_or1 (pt_cmpR op_ne (pe_callRS (ok_law_level_code T) (hr.mono (by decide)) (by rfl) T.m_law_level_code T.F_law_level_code.kp (passE (takes_of rfl rfl rfl rfl)) (pa_cons (pv 0) (pa_cons pe_int (pa_cons pe_int (pa_cons pe_int pa_nil))))) pe_int (nomark _))))) (pss_one (ps_ret pe_bl)) pss_nil)
    (pss_cons (ps_if (PW.pt (pw_or (pt_cmpR op_ne (pe_callRS (ok_law_level_code T) (hr.mono (by decide)) (by rfl) T.m_law_level_code T.F_law_level_code.kp (passE (takes_of rfl rfl rfl rfl)) (pa_cons (pv 0) (pa_cons (pv 1) (pa_cons (pe_op op_sub pe_int pe_int) (pa_cons pe_int pa_nil))))) pe_int (nomark _)) (pw_or1 (pt_cmpR op_ne (pe_callRS (ok_law_level_code T) (hr.mono (by decide)) (by rfl) T.m_law_level_code T.F_law_level_code.kp (passE (takes_of rfl rfl rfl rfl)) (pa_cons (pv 0) (pa_cons (pv 1) (pa_cons pe_int (pa_cons (pe_op op_sub pe_int pe_int) pa_nil))))) pe_int (nomark _))))) (pss_one (ps_ret pe_bl)) pss_nil)
    (pss_cons (ps_if (pt_cmpR op_ne (pe_callRS (ok_law_level_code T) (hr.mono (by decide)) (by rfl) T.m_law_level_code T.F_law_level_code.kp (passE (takes_of rfl rfl rfl rfl)) (pa_cons (pv 0) (pa_cons (pe_op op_sub pe_int pe_int) (pa_cons pe_int (pa_cons pe_int pa_nil))))) pe_int (nomark _)) (pss_one (ps_ret pe_bl)) pss_nil)
    (pss_cons (ps_if (PW.pt (pw_or (pt_cmpR op_ne (pe_callRS (ok_law_level_code T) (hr.mono (by decide)) (by rfl) T.m_law_level_code T.F_law_level_code.kp (passE (takes_of rfl rfl rfl rfl)) (pa_cons (pv 0) (pa_cons (pv 1) (pa_cons (pv 2) (pa_cons pe_int pa_nil))))) pe_int (nomark _)) (pw_or1 (pt_cmpR op_ne (pe_callRS (ok_law_level_code T) (hr.mono (by decide)) (by rfl) T.m_law_level_code T.F_law_level_code.kp (passE (takes_of rfl rfl rfl rfl)) (pa_cons (pv 0) (pa_cons (pv 1) (pa_cons pe_int (pa_cons (pe_op op_add (pv 1) pe_int) pa_nil))))) pe_int (nomark _))))) (pss_one (ps_ret pe_bl)) pss_nil)
    (pss_one (ps_ret (pe_and (pe_cmpR op_eq (pe_callRS (ok_law_level_code T) (hr.mono (by decide)) (by rfl) T.m_law_level_code T.F_law_level_code.kp (passE (takes_of rfl rfl rfl rfl)) (pa_cons (pv 0) (pa_cons pe_int (pa_cons (pv 2) (pa_cons pe_str pa_nil))))) pe_int (nomark _)) (pe_one (pe_cmpR op_eq (pe_callRS (ok_law_level_code T) (hr.mono (by decide)) (by rfl) T.m_law_level_code T.F_law_level_code.kp (passE (takes_of rfl rfl rfl rfl)) (pa_cons (pv 0) (pa_cons pe_int (pa_cons pe_int (pa_cons pe_int pa_nil))))) pe_int (nomark _))))))))))))))),
    (ss_seq (ss_if (st_or (st_test (se_op2 s2_ne (se_call (sa_cons se_var (sa_cons se_var (sa_cons se_non (sa_cons se_str sa_nil))))) se_int)) (st_test (se_op2 s2_ne (se_call (sa_cons se_var (sa_cons se_var (sa_cons (se_op2 s2_sub se_int se_int) (sa_cons se_var sa_nil))))) se_int))) (ss_ret se_bl) ss_next)
    (ss_seq (ss_if (st_or (st_test (se_op2 s2_ne (se_call (sa_cons se_var (sa_cons (se_op2 s2_sub se_int se_int) (sa_cons se_non (sa_cons se_str sa_nil))))) se_int)) (st_test (se_op2 s2_ne (se_call (sa_cons se_var (sa_cons se_int (sa_cons (se_op2 s2_sub se_int se_int) (sa_cons se_var sa_nil))))) se_int))) (ss_ret se_bl) ss_next)
    (ss_seq (ss_if (st_or (st_test (se_op2 s2_ne (se_call (sa_cons se_var (sa_cons se_int (sa_cons se_non (sa_cons se_var sa_nil))))) se_int)) (st_test (se_op2 s2_ne (se_call (sa_cons se_var (sa_cons (se_op2 s2_sub se_int se_int) (sa_cons se_bl (sa_cons se_var sa_nil))))) se_int))) (ss_ret se_bl) ss_next)
    (ss_seq (ss_if (st_or (st_test (se_op2 s2_ne (se_call (sa_cons se_var (sa_cons se_int (sa_cons se_non (sa_cons se_non sa_nil))))) se_int)) (st_test (se_op2 s2_ne (se_call (sa_cons se_non (sa_cons se_var (sa_cons se_non (sa_cons se_str sa_nil))))) se_int))) (ss_ret se_bl) ss_next)
    (ss_seq (ss_if (st_or (st_test (se_op2 s2_ne (se_call (sa_cons (se_cmeth (sa_cons se_int sa_nil)) (sa_cons se_int (sa_cons se_int (sa_cons se_var sa_nil))))) se_int)) (st_test (se_op2 s2_ne (se_call (sa_cons (se_cmeth (sa_cons se_int sa_nil)) (sa_cons se_int (sa_cons se_int (sa_cons se_var sa_nil))))) se_int))) (ss_ret se_bl) ss_next)
    (ss_seq (ss_if (st_or (st_test (se_op2 s2_ne (se_call (sa_cons (se_cmeth (sa_cons se_int sa_nil)) (sa_cons se_int (sa_cons se_int (sa_cons se_int sa_nil))))) se_int)) (st_test (se_op2 s2_ne (se_call (sa_cons se_var (sa_cons se_int (sa_cons se_int (sa_cons se_int sa_nil))))) se_int))) (ss_ret se_bl) ss_next)
    (ss_seq (ss_if (st_or (st_test (se_op2 s2_ne (se_call (sa_cons se_var (sa_cons se_var (sa_cons (se_op2 s2_sub se_int se_int) (sa_cons se_int sa_nil))))) se_int)) (st_test (se_op2 s2_ne (se_call (sa_cons se_var (sa_cons se_var (sa_cons se_int (sa_cons (se_op2 s2_sub se_int se_int) sa_nil))))) se_int))) (ss_ret se_bl) ss_next)
    (ss_seq (ss_if (st_test (se_op2 s2_ne (se_call (sa_cons se_var (sa_cons (se_op2 s2_sub se_int se_int) (sa_cons se_int (sa_cons se_int sa_nil))))) se_int)) (ss_ret se_bl) ss_next)
    (ss_seq (ss_if (st_or (st_test (se_op2 s2_ne (se_call (sa_cons se_var (sa_cons se_var (sa_cons se_var (sa_cons se_int sa_nil))))) se_int)) (st_test (se_op2 s2_ne (se_call (sa_cons se_var (sa_cons se_var (sa_cons se_int (sa_cons (se_op2 s2_add se_var se_int) sa_nil))))) se_int))) (ss_ret se_bl) ss_next)
    (ss_ret (se_and (se_op2 s2_eq (se_call (sa_cons se_var (sa_cons se_int (sa_cons se_var (sa_cons se_str sa_nil))))) se_int) (se_op2 s2_eq (se_call (sa_cons se_var (sa_cons se_int (sa_cons se_int (sa_cons se_int sa_nil))))) se_int))))))))))))⟩
theorem rest_law (T : Txt c mg A) (f : Addr) (cdv : Value) (A_ : Around) (outer : List Env) (sh : Shared) (H : Hp) (E' : XK) (hr : Room 10 (A_.deeper (PyProof.Rows.envOfC "law" (defScope s_law) sh.heap.objs.size f cdv))) :
    ∃ t, PSs (cxOf (L2.CX P w) P w c.K mg base Nn_law "law" (defScope s_law) f cdv A_ outer sh H E') ((defBody s_law).drop 1) t ∧ SS c (fun _ => E') t (dn_law_k10 A.ca) :=
  ⟨(tSeq (tAsg (tCallS (spD c D_law_web) (fun _ => E') (tCons (tVar 1) (tCons (tC (V.int 5)) (tCons (tC (V.bl false)) tNil)))) (gName 2))
    (tSeq (tAsg (tCB (rLenS c.K) (tCons (tOp (rIx c.K) (tVar 2) (tC (V.int 0))) tNil)) (gName 3))
    (tSeq (tAsg (tCallS (spD c D_law_draw) (fun _ => E') (tCons (tVar 1) (tCons (tC (V.int 5)) tNil))) (gName 4))
    (tSeq (tAsg (tCallS (spD c D_law_rounds) (fun _ => E') (tCons (tVar 2) (tCons (tVar 4) tNil))) (gName 5))
    (tSeq (tAsg (tOp (rIx c.K) (tVar 5) (tOp (rI0 fun i j => V.int (i - j)) (tCB (rLenS c.K) (tCons (tVar 5) tNil)) (tC (V.int 1)))) (gName 6))
    (tSeq (tAsg (tCallS (spD c (D_law_built_k09 A.ca)) (fun _ => E') (tCons (tVar 2) tNil)) (gName 7))
    (tSeq (tAsg (tLst (tCons (tC (V.str "sealed")) (tCons (tC (V.str "first")) (tCons (tC (V.str "second")) tNil)))) (gName 8))
    (tSeq (tAsg (tOp (rIx c.K) (tVar 8) (tCallS (spD c D_law_draw) (fun _ => E') (tCons (tVar 1) (tCons (tC (V.int 3)) tNil)))) (gName 9))
    (tSeq (tAsg (tCallS (spD c D_law_draw) (fun _ => E') (tCons (tVar 1) (tCons (tOp (rI0 fun i j => V.int (i + j)) (tCB (rLenS c.K) (tCons (tVar 5) tNil)) (tC (V.int 2))) tNil))) (gName 10))
    (tSeq (tAsg (tOp (rIx c.K) (tVar 5) (tCB rMin2F (tCons (tVar 10) (tCons (tOp (rI0 fun i j => V.int (i - j)) (tCB (rLenS c.K) (tCons (tVar 5) tNil)) (tC (V.int 1))) tNil)))) (gName 11))
    (tSeq (tIfS (tNot (fun σ H Q => (tCallS (spD c D_law_states) (fun _ => E') (tCons (tCallNS 3 1 (spD c (D4_won_states A.ca)) (fun vs zs => vs ++ [] ++ zs) (fun _ => E') (tCons (tVar 7) (tCons (tVar 4) (tCons (tVar 10) tNil))) (tCons (tVar 9) tNil)) (tCons (tVar 4) (tCons (tVar 11) tNil)))) σ H fun x H' => ∃ k, TruV c.K x H' k ∧ Q k H')) (tRet (tC (V.bl false))) tNext)
    (tSeq (tIfS (tNot (fun σ H Q => (tCallS (spD c D_law_states) (fun _ => E') (tCons (tCallS (spD c (D_won_states A.ca)) (fun _ => E') (tCons (tVar 7) (tCons (tVar 4) tNil))) (tCons (tVar 4) (tCons (tVar 6) tNil)))) σ H fun x H' => ∃ k, TruV c.K x H' k ∧ Q k H')) (tRet (tC (V.bl false))) tNext)
    (tSeq (tIfS (tNot (fun σ H Q => (tCallS (spD c D_law_states) (fun _ => E') (tCons (tCallNS 2 1 (spD c (D4_won_states A.ca)) (fun vs zs => vs ++ [V.non] ++ zs) (fun _ => E') (tCons (tVar 7) (tCons (tVar 4) tNil)) (tCons (tOp (rIx c.K) (tVar 8) (tCallS (spD c D_law_draw) (fun _ => E') (tCons (tVar 1) (tCons (tC (V.int 3)) tNil)))) tNil)) (tCons (tVar 4) (tCons (tVar 6) tNil)))) σ H fun x H' => ∃ k, TruV c.K x H' k ∧ Q k H')) (tRet (tC (V.bl false))) tNext)
    (tSeq (tFor (iRng1 (tCons (tC (V.int 2)) tNil)) (gName 12) (tSeq (tAsg (tCallS (spD c D_law_draw) (fun _ => E') (tCons (tVar 1) (tCons (tVar 3) tNil))) (gName 13))
    (tSeq (tAsg (tCallS (spD c D_law_draw) (fun _ => E') (tCons (tVar 1) (tCons (tOp (rI0 fun i j => V.int (i + j)) (tVar 4) (tC (V.int 1))) tNil))) (gName 14))
    (tSeq (tAsg (tCallS (spD c (D_level_of A.ca)) (fun _ => E') (tCons (tVar 7) (tCons (tVar 4) (tCons (tVar 13) (tCons (tVar 14) tNil))))) (gName 15))
    (tSeq (tAsg (tCallS (spD c D_law_level) (fun _ => E') (tCons (tVar 5) (tCons (tVar 13) (tCons (tVar 14) tNil)))) (gName 16))
    (tIfS (tTest (tOp rIsNF (tVar 16) (tC V.non))) (tIfS (tTest (tOp rNotNF (tVar 15) (tC V.non))) (tRet (tC (V.bl false))) tNext) (tIfS (tOr (tNot (fun σ H Q => (tCallS (spD c D_is_integer) (fun _ => E') (tCons (tVar 15) tNil)) σ H fun x H' => ∃ k, TruV c.K x H' k ∧ Q k H')) (tTest (tOp rNe (tVar 15) (tVar 16)))) (tRet (tC (V.bl false))) tNext)))))))
    (tSeq (tAsg (tCallS (spD c (D_won_states A.ca)) (fun _ => E') (tCons (ClX.tCMeth A.ca.Web (spD c (D_Web_ring A.ca)) E' (tC (V.ref A.ca.Web)) (tCons (tC (V.int 1)) (tCons (tOp (rI0 fun i j => V.int (i + j)) (tC (V.int 1)) (tCallS (spD c D_law_draw) (fun _ => E') (tCons (tVar 1) (tCons (tC (V.int 2)) tNil)))) tNil))) (tCons (tC (V.int 12)) (tCons (tOp (rI CPow fun i j => V.int (i ^ j.toNat)) (tC (V.int 10)) (tC (V.int 30))) tNil)))) (gName 17))
    (tSeq (tIfS (tOr (tNot (fun σ H Q => (tCallS (spD c D_law_states) (fun _ => E') (tCons (tVar 17) (tCons (tC (V.int 12)) (tCons (tLst (tCons (tC (V.int 13)) tNil)) tNil)))) σ H fun x H' => ∃ k, TruV c.K x H' k ∧ Q k H')) (tNot (fun σ H Q => (tCallS (spD c D_law_states) (fun _ => E') (tCons (tCallS (spD c (D_won_states A.ca)) (fun _ => E') (tCons (tVar 7) (tCons (tVar 4) (tCons (tC (V.int 0)) tNil)))) (tCons (tVar 4) (tCons (tOp (rIx c.K) (tVar 5) (tC (V.int 0))) tNil)))) σ H fun x H' => ∃ k, TruV c.K x H' k ∧ Q k H'))) (tRet (tC (V.bl false))) tNext)
    (tRet (tCallS (spD c (D_law_refusals_k10 A.ca)) (fun _ => E') (tCons (tVar 7) (tCons (tVar 4) (tCons (tVar 3) (tCons (tVar 9) tNil)))))))))))))))))))))),
    (pss_cons (ps_asg (pe_callRS (ok_law_web T) (hr.mono (by decide)) (by rfl) T.m_law_web T.F_law_web.kp (passE (takes_of rfl rfl rfl rfl)) (pa_cons (pv 1) (pa_cons pe_int (pa_cons pe_bl pa_nil)))) (pg_name (i := 2) sc_law.nd rfl (by first | exact Or.inl rfl | exact Or.inr rfl)))
    (pss_cons (ps_asg (pe_callB call_len_seq (by rfl) T.n_len (by decide +kernel) (pa_cons (pe_ix ix_seq (pv 2) pe_int (fun _ _ => rfl)) pa_nil)) (pg_name (i := 3) sc_law.nd rfl (by first | exact Or.inl rfl | exact Or.inr rfl)))
    (pss_cons (ps_asg (pe_callRS (ok_law_draw T) (hr.mono (by decide)) (by rfl) T.m_law_draw T.F_law_draw.kp (passE (takes_of rfl rfl rfl rfl)) (pa_cons (pv 1) (pa_cons pe_int pa_nil))) (pg_name (i := 4) sc_law.nd rfl (by first | exact Or.inl rfl | exact Or.inr rfl)))
    (pss_cons (ps_asg (pe_callRS (ok_law_rounds T) (hr.mono (by decide)) (by rfl) T.m_law_rounds T.F_law_rounds.kp (passE (takes_of rfl rfl rfl rfl)) (pa_cons (pv 2) (pa_cons (pv 4) pa_nil))) (pg_name (i := 5) sc_law.nd rfl (by first | exact Or.inl rfl | exact Or.inr rfl)))
    (pss_cons (ps_asg (pe_ix ix_seq (pv 5) (pe_op op_sub (pe_callB call_len_seq (by rfl) T.n_len (by decide +kernel) (pa_cons (pv 5) pa_nil)) pe_int) (fun _ _ => rfl)) (pg_name (i := 6) sc_law.nd rfl (by first | exact Or.inl rfl | exact Or.inr rfl)))
    (pss_cons (ps_asg (pe_callRS (ok_law_built T) (hr.mono (by decide)) (by rfl) T.m_law_built T.F_law_built.kp (passE (takes_of rfl rfl rfl rfl)) (pa_cons (pv 2) pa_nil)) (pg_name (i := 7) sc_law.nd rfl (by first | exact Or.inl rfl | exact Or.inr rfl)))
    (pss_cons (ps_asg (pe_lst (pa_cons pe_str (pa_cons pe_str (pa_cons pe_str pa_nil)))) (pg_name (i := 8) sc_law.nd rfl (by first | exact Or.inl rfl | exact Or.inr rfl)))
    (pss_cons (ps_asg (pe_ix ix_seq (pv 8) (pe_callRS (ok_law_draw T) (hr.mono (by decide)) (by rfl) T.m_law_draw T.F_law_draw.kp (passE (takes_of rfl rfl rfl rfl)) (pa_cons (pv 1) (pa_cons pe_int pa_nil))) (fun _ _ => rfl)) (pg_name (i := 9) sc_law.nd rfl (by first | exact Or.inl rfl | exact Or.inr rfl)))
    (pss_cons (ps_asg (pe_callRS (ok_law_draw T) (hr.mono (by decide)) (by rfl) T.m_law_draw T.F_law_draw.kp (passE (takes_of rfl rfl rfl rfl)) (pa_cons (pv 1) (pa_cons (pe_op op_add (pe_callB call_len_seq (by rfl) T.n_len (by decide +kernel) (pa_cons (pv 5) pa_nil)) pe_int) pa_nil))) (pg_name (i := 10) sc_law.nd rfl (by first | exact Or.inl rfl | exact Or.inr rfl)))
    (pss_cons (ps_asg (pe_ix ix_seq (pv 5) (pe_callB (call_min2 rfl) (by rfl) T.n_min (by decide +kernel) (pa_cons (pv 10) (pa_cons (pe_op op_sub (pe_callB call_len_seq (by rfl) T.n_len (by decide +kernel) (pa_cons (pv 5) pa_nil)) pe_int) pa_nil))) (fun _ _ => rfl)) (pg_name (i := 11) sc_law.nd rfl (by first | exact Or.inl rfl | exact Or.inr rfl)))
    (pss_cons (ps_if (pt_not (pt_truth (pe_callRS (ok_law_states T) (hr.mono (by decide)) (by rfl) T.m_law_states T.F_law_states.kp (passE (takes_of rfl rfl rfl rfl)) (pa_cons (pe_callNS1 (ok4_won_states T) (hr.mono (by decide)) (by rfl) T.m_won_states T.F_won_states.kp (kbn_all T.F_won_states 3 fun _ _ _ _ _ _ _ us its ws h1 h2 h3 => match us, its, ws, h1, h2, h3 with | [_, _, _], [_], [_], _, _, _ => ⟨_, rfl, rfl⟩) (passE (takes_of rfl rfl rfl rfl)) (pa_cons (pv 7) (pa_cons (pv 4) (pa_cons (pv 10) pa_nil))) (pk_cons (pv 9) pk_nil)) (pa_cons (pv 4) (pa_cons (pv 11) pa_nil)))) (by intro _; rfl))) (pss_one (ps_ret pe_bl)) pss_nil)
    (pss_cons (ps_if (pt_not (pt_truth (pe_callRS (ok_law_states T) (hr.mono (by decide)) (by rfl) T.m_law_states T.F_law_states.kp (passE (takes_of rfl rfl rfl rfl)) (pa_cons (pe_callRS (ok_won_states T) (hr.mono (by decide)) (by rfl) T.m_won_states T.F_won_states.kp (passE (takes_of rfl rfl rfl rfl)) (pa_cons (pv 7) (pa_cons (pv 4) pa_nil))) (pa_cons (pv 4) (pa_cons (pv 6) pa_nil)))) (by intro _; rfl))) (pss_one (ps_ret pe_bl)) pss_nil)
    (pss_cons (ps_if (pt_not (pt_truth (pe_callRS (ok_law_states T) (hr.mono (by decide)) (by rfl) T.m_law_states T.F_law_states.kp (passE (takes_of rfl rfl rfl rfl)) (pa_cons (pe_callNS1 (ok4_won_states T) (hr.mono (by decide)) (by rfl) T.m_won_states T.F_won_states.kp (kbn_dfl T.F_won_states 2 fun _ _ _ _ _ _ _ us its ws h1 h2 h3 => match us, its, ws, h1, h2, h3 with | [_, _], [_], [_], _, _, _ => ⟨_, rfl, rfl⟩) (passE (takes_of rfl rfl rfl rfl)) (pa_cons (pv 7) (pa_cons (pv 4) pa_nil)) (pk_cons (pe_ix ix_seq (pv 8) (pe_callRS (ok_law_draw T) (hr.mono (by decide)) (by rfl) T.m_law_draw T.F_law_draw.kp (passE (takes_of rfl rfl rfl rfl)) (pa_cons (pv 1) (pa_cons pe_int pa_nil))) (fun _ _ => rfl)) pk_nil)) (pa_cons (pv 4) (pa_cons (pv 6) pa_nil)))) (by intro _; rfl))) (pss_one (ps_ret pe_bl)) pss_nil)
    (pss_cons (ps_for (passes_of rfl) rfl (pi_range1 (by rfl) T.n_range (pa_cons pe_int pa_nil)) (pg_name (i := 12) sc_law.nd rfl (by first | exact Or.inl rfl | exact Or.inr rfl)) (pss_cons (ps_asg (pe_callRS (ok_law_draw T) (hr.mono (by decide)) (by rfl) T.m_law_draw T.F_law_draw.kp (passE (takes_of rfl rfl rfl rfl)) (pa_cons (pv 1) (pa_cons (pv 3) pa_nil))) (pg_name (i := 13) sc_law.nd rfl (by first | exact Or.inl rfl | exact Or.inr rfl)))
    (pss_cons (ps_asg (pe_callRS (ok_law_draw T) (hr.mono (by decide)) (by rfl) T.m_law_draw T.F_law_draw.kp (passE (takes_of rfl rfl rfl rfl)) (pa_cons (pv 1) (pa_cons (pe_op op_add (pv 4) pe_int) pa_nil))) (pg_name (i := 14) sc_law.nd rfl (by first | exact Or.inl rfl | exact Or.inr rfl)))
    (pss_cons (ps_asg (pe_callRS (ok_level_of T) (hr.mono (by decide)) (by rfl) T.m_level_of T.F_level_of.kp (passE (takes_of rfl rfl rfl rfl)) (pa_cons (pv 7) (pa_cons (pv 4) (pa_cons (pv 13) (pa_cons (pv 14) pa_nil))))) (pg_name (i := 15) sc_law.nd rfl (by first | exact Or.inl rfl | exact Or.inr rfl)))
    (pss_cons (ps_asg (pe_callRS (ok_law_level T) (hr.mono (by decide)) (by rfl) T.m_law_level T.F_law_level.kp (passE (takes_of rfl rfl rfl rfl)) (pa_cons (pv 5) (pa_cons (pv 13) (pa_cons (pv 14) pa_nil)))) (pg_name (i := 16) sc_law.nd rfl (by first | exact Or.inl rfl | exact Or.inr rfl)))
    (pss_one (ps_if (pt_cmpR op_isN (pv 16) pe_non (nomark _)) (pss_one (ps_if (pt_cmpR op_notN (pv 15) pe_non (nomark _)) (pss_one (ps_ret pe_bl)) pss_nil)) (pss_one (ps_if (PW.pt (pw_or (pt_not (pt_truth (pe_callRS (ok_law_whole T) (hr.mono (by decide)) (by rfl) T.m_law_whole T.F_law_whole.kp (passE (takes_of rfl rfl rfl rfl)) (pa_cons (pv 15) pa_nil)) (by intro _; rfl))) (pw_or1 (pt_cmpR op_ne (pv 15) (pv 16) (nomark _))))) (pss_one (ps_ret pe_bl)) pss_nil)))))))))
    (pss_cons (ps_asg (pe_callRS (ok_won_states T) (hr.mono (by decide)) (by rfl) T.m_won_states T.F_won_states.kp (passE (takes_of rfl rfl rfl rfl)) (pa_cons (ClX.pe_cmeth (pe_glob (by rfl) T.m_Web rfl) T.cr_Web T.cm_Web_ring (ok_Web_ring T) (hr.mono (by decide)) (fun pins σ H s e s' I h => passE (takes_of rfl rfl rfl rfl) σ pins H s e s' I h) (pa_cons pe_int (pa_cons (pe_op op_add pe_int (pe_callRS (ok_law_draw T) (hr.mono (by decide)) (by rfl) T.m_law_draw T.F_law_draw.kp (passE (takes_of rfl rfl rfl rfl)) (pa_cons (pv 1) (pa_cons pe_int pa_nil)))) pa_nil))) (pa_cons pe_int (pa_cons (pe_op op_pow pe_int pe_int) pa_nil)))) (pg_name (i := 17) sc_law.nd rfl (by first | exact Or.inl rfl | exact Or.inr rfl)))
    (pss_cons (ps_if (PW.pt (pw_or (pt_not (pt_truth (pe_callRS (ok_law_states T) (hr.mono (by decide)) (by rfl) T.m_law_states T.F_law_states.kp (passE (takes_of rfl rfl rfl rfl)) (pa_cons (pv 17) (pa_cons pe_int (pa_cons (pe_lst (pa_cons pe_int pa_nil)) pa_nil)))) (by intro _; rfl))) (pw_or1 (pt_not (pt_truth (pe_callRS (ok_law_states T) (hr.mono (by decide)) (by rfl) T.m_law_states T.F_law_states.kp (passE (takes_of rfl rfl rfl rfl)) (pa_cons (pe_callRS (ok_won_states T) (hr.mono (by decide)) (by rfl) T.m_won_states T.F_won_states.kp (passE (takes_of rfl rfl rfl rfl)) (pa_cons (pv 7) (pa_cons (pv 4) (pa_cons pe_int pa_nil)))) (pa_cons (pv 4) (pa_cons (pe_ix ix_seq (pv 5) pe_int (fun _ _ => rfl)) pa_nil)))) (by intro _; rfl)))))) (pss_one (ps_ret pe_bl)) pss_nil)
    (pss_one (ps_ret (pe_callRS (ok_law_refusals T) (hr.mono (by decide)) (by rfl) T.m_law_refusals T.F_law_refusals.kp (passE (takes_of rfl rfl rfl rfl)) (pa_cons (pv 7) (pa_cons (pv 4) (pa_cons (pv 3) (pa_cons (pv 9) pa_nil))))))))))))))))))))))),
    (ss_seq (ss_asg (se_call (sa_cons se_var (sa_cons se_int (sa_cons se_bl sa_nil)))) sg_name)
    (ss_seq (ss_asg (se_cb sn_len (sa_cons (se_op2 s2_ix se_var se_int) sa_nil)) sg_name)
    (ss_seq (ss_asg (se_call (sa_cons se_var (sa_cons se_int sa_nil))) sg_name)
    (ss_seq (ss_asg (se_call (sa_cons se_var (sa_cons se_var sa_nil))) sg_name)
    (ss_seq (ss_asg (se_op2 s2_ix se_var (se_op2 s2_sub (se_cb sn_len (sa_cons se_var sa_nil)) se_int)) sg_name)
    (ss_seq (ss_asg (se_call (sa_cons se_var sa_nil)) sg_name)
    (ss_seq (ss_asg (se_new (sen_lst (sa_cons se_str (sa_cons se_str (sa_cons se_str sa_nil))))) sg_name)
    (ss_seq (ss_asg (se_op2 s2_ix se_var (se_call (sa_cons se_var (sa_cons se_int sa_nil)))) sg_name)
    (ss_seq (ss_asg (se_call (sa_cons se_var (sa_cons (se_op2 s2_add (se_cb sn_len (sa_cons se_var sa_nil)) se_int) sa_nil))) sg_name)
    (ss_seq (ss_asg (se_op2 s2_ix se_var (se_cb sn_min2 (sa_cons se_var (sa_cons (se_op2 s2_sub (se_cb sn_len (sa_cons se_var sa_nil)) se_int) sa_nil)))) sg_name)
    (ss_seq (ss_if (st_not (st_tru (se_call (sa_cons (se_callK (vmid := []) (fun _ _ => .nil) (sa_cons se_var (sa_cons se_var (sa_cons se_var sa_nil))) (sa_cons se_var sa_nil)) (sa_cons se_var (sa_cons se_var sa_nil)))))) (ss_ret se_bl) ss_next)
    (ss_seq (ss_if (st_not (st_tru (se_call (sa_cons (se_call (sa_cons se_var (sa_cons se_var sa_nil))) (sa_cons se_var (sa_cons se_var sa_nil)))))) (ss_ret se_bl) ss_next)
    (ss_seq (ss_if (st_not (st_tru (se_call (sa_cons (se_callK (vmid := [V.non]) (fun _ _ => .cons (.non) .nil) (sa_cons se_var (sa_cons se_var sa_nil)) (sa_cons (se_op2 s2_ix se_var (se_call (sa_cons se_var (sa_cons se_int sa_nil)))) sa_nil)) (sa_cons se_var (sa_cons se_var sa_nil)))))) (ss_ret se_bl) ss_next)
    (ss_seq (ss_for (si_rng1 (sa_cons se_int sa_nil)) sg_name (ss_seq (ss_asg (se_call (sa_cons se_var (sa_cons se_var sa_nil))) sg_name)
    (ss_seq (ss_asg (se_call (sa_cons se_var (sa_cons (se_op2 s2_add se_var se_int) sa_nil))) sg_name)
    (ss_seq (ss_asg (se_call (sa_cons se_var (sa_cons se_var (sa_cons se_var (sa_cons se_var sa_nil))))) sg_name)
    (ss_seq (ss_asg (se_call (sa_cons se_var (sa_cons se_var (sa_cons se_var sa_nil)))) sg_name)
    (ss_if (st_test (se_op2 s2_isN se_var se_non)) (ss_if (st_test (se_op2 s2_notN se_var se_non)) (ss_ret se_bl) ss_next) (ss_if (st_or (st_not (st_tru (se_call (sa_cons se_var sa_nil)))) (st_test (se_op2 s2_ne se_var se_var))) (ss_ret se_bl) ss_next)))))))
    (ss_seq (ss_asg (se_call (sa_cons (se_cmeth (sa_cons se_int (sa_cons (se_op2 s2_add se_int (se_call (sa_cons se_var (sa_cons se_int sa_nil)))) sa_nil))) (sa_cons se_int (sa_cons (se_op2 s2_pow se_int se_int) sa_nil)))) sg_name)
    (ss_seq (ss_if (st_or (st_not (st_tru (se_call (sa_cons se_var (sa_cons se_int (sa_cons (se_new (sen_lst (sa_cons se_int sa_nil))) sa_nil)))))) (st_not (st_tru (se_call (sa_cons (se_call (sa_cons se_var (sa_cons se_var (sa_cons se_int sa_nil)))) (sa_cons se_var (sa_cons (se_op2 s2_ix se_var se_int) sa_nil))))))) (ss_ret se_bl) ss_next)
    (ss_ret (se_call (sa_cons se_var (sa_cons se_var (sa_cons se_var (sa_cons se_var sa_nil))))))))))))))))))))))⟩
end
end K10
namespace PL
open PySem L2 Den
noncomputable section
variable {c : Cfg} {P : Program} {w : World} {mg : Str → Option Value} {base : Heap}
abbrev qA (c : Cfg) : TS := (tIfS (tTest (tOp (rI0 fun i j => V.bl (decide (j < i))) (tVar 3) (tC (V.int 0)))) (tSeq (tDrop (tBM c.K "list" rAppend (tVar 1) (tCons (tOp (rI (fun _ j => 0 < j) fun i j => V.int (i % j)) (tCB rIntF (tCons (tVar 3) tNil)) (tC (V.int 30))) tNil)))
    (tAsg (tOp (rI CDiv fun i j => V.int (i / j)) (tVar 3) (tC (V.int 30))) (gName 3))) tNext)
abbrev qB (c : Cfg) : TS := (tSeq (tAsg (tOp (rI (fun _ j => 0 < j) fun i j => V.int (i % j)) (tCB rIntF (tCons (tOp (rI0 fun i j => V.int (i + j)) (tOp (rI0 fun i j => V.int (i + j)) (tOp (rI0 fun i j => V.int (i + j)) (tOp (rI CMul fun i j => V.int (i * j)) (tVar 6) (tVar 6)) (tOp (rI CMul fun i j => V.int (i * j)) (tVar 5) (tC (V.int 31337)))) (tOp (rI CMul fun i j => V.int (i * j)) (tVar 2) (tC (V.int 5)))) (tC (V.int 3))) tNil)) (tC (V.int 998244353))) (gName 6))
    (tDrop (tBM c.K "list" rAppend (tVar 1) (tCons (tVar 6) tNil))))
abbrev qTail (c : Cfg) : TS := (tIfS (tTest (tOp (rI0 fun i j => V.bl (decide (j ≤ i))) (tVar 3) (tOp (rI CPow fun i j => V.int (i ^ j.toNat)) (tC (V.int 10)) (tC (V.int 18))))) (tFor (iRng1 (tCons (tC (V.int 48)) tNil)) (gName 5) (qA c)) (tSeq (tAsg (tOp (rI (fun _ j => 0 < j) fun i j => V.int (i % j)) (tCB rIntF (tCons (tOp (rI0 fun i j => V.int (i + j)) (tOp (rI0 fun i j => V.int (i + j)) (tOp (rI CMul fun i j => V.int (i * j)) (tVar 3) (tC (V.int 7919))) (tOp (rI CMul fun i j => V.int (i * j)) (tVar 2) (tC (V.int 104729)))) (tVar 4)) tNil)) (tC (V.int 998244353))) (gName 6))
    (tFor (iRng1 (tCons (tC (V.int 5)) tNil)) (gName 5) (qB c))))
abbrev qPot (c : Cfg) : TS := (tSeq (tAsg (tLst tNil) (gName 1))
    (tSeq (tFor (iRng1 (tCons (tCB rMin2F (tCons (tCB (rLenS c.K) (tCons (tVar 0) tNil)) (tCons (tC (V.int 63)) tNil))) tNil)) (gName 2) (tSeq (tAsg (tCB rIntF (tCons (tOp (rIx c.K) (tVar 0) (tVar 2)) tNil)) (gName 3))
    (tSeq (tAsg (tC (V.int 11)) (gName 4))
    (tSeq (tIfS (tTest (tOp (rI0 fun i j => V.bl (decide (i < j))) (tVar 3) (tC (V.int 0)))) (tSeq (tAsg (tOp (rI0 fun i j => V.int (i - j)) (tC (V.int 0)) (tVar 3)) (gName 3))
    (tAsg (tC (V.int 503)) (gName 4))) tNext)
    (qTail c)))))
    (tSeq (tDrop (tBM0 c.K "list" rReverse (tVar 1)))
    (tRet (tVar 1)))))
/-- one turn of the pot's list at p -/
abbrev SP (a p : Addr) (i m sh : Int) (o5 o6 : Option V) : L2.St := [some (.ref a), some (.ref p), some (.int i), some (.int m), some (.int sh), o5, o6]
theorem tyList {K : PySem.W.Frag} {H : Hp} {p : Addr} {xs : List V} (h : H p = some (.lst xs)) : tyV K "list" (.ref p) H := .inl ⟨rfl, _, SqL.of h⟩
theorem small (n : Nat) (h : n < 16000000) : n < sizeLine := by
  show n < 2 ^ 24
  omega
theorem tail_ok (c : Cfg) (a p : Addr) (i m sh : Int) (hi0 : 0 ≤ i) (hi : i < 63) (o5 o6 : Option V) (H : Hp) (pot : List Int) (hl : pot.length < 10000) (hp : H p = some (.lst (pot.map V.int))) (De : Ends)
    (k : ∀ (pot' : List Int) (m' : Int) (o5' o6' : Option V) (H' : Hp), (∀ b, b ≠ p → H' b = H b) → H' p = some (.lst (pot'.map V.int)) → pot'.length ≤ pot.length + 48 → De.nx (SP a p i m' sh o5' o6') H') :
    qTail c De (SP a p i m sh o5 o6) H := by
  refine ⟨_, rfl, _, _, rfl, rfl, ⟨by decide, by decide, by decide⟩, _, _, rfl, rfl, _, rfl, ?_⟩
  refine ite2 (fun _ => ?_) (fun _ => ?_)
  · refine ⟨_, rfl, by decide, by decide, ?_⟩
    refine for_range (fun j σ H' => ∃ (pot' : List Int) (m' : Int) (o5' : Option V), σ = SP a p i m' sh o5' o6 ∧ (∀ b, b ≠ p → H' b = H b) ∧ H' p = some (.lst (pot'.map V.int)) ∧ pot'.length ≤ pot.length + j) ⟨pot, m, o5, rfl, fun _ _ => rfl, hp, Nat.le_refl _⟩ ?_ ?_
    · rintro j σ H' hj ⟨pot', m', o5', rfl, h1, h2, h3⟩
      refine ⟨_, rfl, _, _, rfl, rfl, _, rfl, ?_⟩
      refine ite2 (fun _ => ?_) (fun _ => ?_)
      · refine ⟨_, rfl, tyList h2, _, rfl, .inl ⟨_, rfl, _, _, rfl, rfl, (show (0 : Int) < 30 by decide), p, _, _, rfl, rfl, h2, small _ (by rw [List.length_map]; have : j < 48 := hj; omega), ?_⟩⟩
        refine ⟨_, rfl, _, _, rfl, rfl, ⟨by decide, by decide⟩, ?_⟩
        exact ⟨pot' ++ [m' % 30], m' / 30, _, rfl, fun b hb => (upd_ne hb).trans (h1 b hb), by rw [upd_same, List.map_append]; rfl, by rw [List.length_append]; show pot'.length + 1 ≤ _; omega⟩
      · exact ⟨pot', m', _, rfl, h1, h2, by omega⟩
    · rintro σ H' ⟨pot', m', o5', rfl, h1, h2, h3⟩
      exact k pot' m' o5' o6 H' h1 h2 h3
  · refine ⟨_, rfl, _, _, rfl, rfl, .inr ⟨by decide, by decide⟩, _, rfl, _, _, rfl, rfl, .inr ⟨by decide, by decide⟩, _, _, rfl, rfl, _, rfl, _, _, rfl, rfl, .inl ⟨_, rfl, _, _, rfl, rfl, (show (0 : Int) < 998244353 by decide), ?_⟩⟩
    refine ⟨_, rfl, by decide, by decide, ?_⟩
    refine for_range (fun j σ H' => ∃ (pot' : List Int) (x : Int) (o5' : Option V), σ = SP a p i m sh o5' (some (.int x)) ∧ 0 ≤ x ∧ x < 998244353 ∧ (∀ b, b ≠ p → H' b = H b) ∧ H' p = some (.lst (pot'.map V.int)) ∧ pot'.length ≤ pot.length + j) ⟨pot, _, o5, rfl, Int.emod_nonneg _ (by decide), Int.emod_lt_of_pos _ (by decide), fun _ _ => rfl, hp, Nat.le_refl _⟩ ?_ ?_
    · rintro j σ H' hj ⟨pot', x, o5', rfl, x0, x1, h1, h2, h3⟩
      refine ⟨_, rfl, _, rfl, _, _, rfl, rfl, .inl ⟨by omega, by omega⟩, _, rfl, _, _, rfl, rfl, .inr ⟨by decide, by decide⟩, _, _, rfl, rfl, _, rfl, _, _, rfl, rfl, .inr ⟨by decide, by decide⟩, _, _, rfl, rfl, _, _, rfl, rfl, .inl ⟨_, rfl, _, _, rfl, rfl, (show (0 : Int) < 998244353 by decide), ?_⟩⟩
      refine ⟨_, rfl, tyList h2, _, rfl, p, _, _, rfl, rfl, h2, small _ (by rw [List.length_map]; have : j < 5 := hj; omega), ?_⟩
      exact ⟨pot' ++ [_], _, _, rfl, Int.emod_nonneg _ (by decide), Int.emod_lt_of_pos _ (by decide), fun b hb => (upd_ne hb).trans (h1 b hb), by rw [upd_same, List.map_append]; rfl, by rw [List.length_append]; show pot'.length + 1 ≤ _; omega⟩
    · rintro σ H' ⟨pot', x, o5', rfl, x0, x1, h1, h2, h3⟩
      exact k pot' m o5' _ H' h1 h2 (by have : (5 : Int).toNat = 5 := rfl; omega)

/-- what the pot's maker promises: a fresh list of ints -/
def spPot (K : PySem.W.Frag) : Sp := fun vs H Q _ => ∃ (a : Addr) (ns : List Int), vs = [.ref a] ∧ SqL K H a (ns.map V.int) ∧ ns.length ≤ 63 ∧ ∀ (p : Addr) (pot : List Int) (H' : Hp), H' p = some (.lst (pot.map V.int)) → Q (.ref p) H'
theorem pot_run {a : Addr} {ns : List Int} {H : Hp} {Q : VK} (hS : SqL c.K H a (ns.map V.int)) (hl : ns.length ≤ 63) (k : ∀ (p : Addr) (pot : List Int) (H' : Hp), H' p = some (.lst (pot.map V.int)) → Q (.ref p) H') :
    qPot c { nx := fun _ H' => Q .non H', rt := Q } [some (.ref a), none, none, none, none, none, none] H := by
  refine ⟨Nat.zero_le _, fun p hp => ?_⟩
  have s0 : Same H (upd H p (.lst [])) := fun b o e => by
    rw [upd_ne (ne_of_none e hp)]
    exact e
  have hlen : (ns.map V.int).length = ns.length := List.length_map _
  refine ⟨_, rfl, a, ns.map V.int, rfl, .inl (s0.seq hS), _, _, rfl, _, rfl, ?_, ?_, ?_⟩
  · split <;> omega
  · split <;> omega
  refine for_range (fun j σ H' => ∃ (pot : List Int) (o2 o3 o4 o5 o6 : Option V), σ = [some (.ref a), some (.ref p), o2, o3, o4, o5, o6] ∧ Same H H' ∧ H' p = some (.lst (pot.map V.int)) ∧ pot.length ≤ 48 * j) ⟨[], _, _, _, _, _, rfl, s0, upd_same, Nat.le_refl _⟩ ?_ ?_
  · rintro j σ H' hj ⟨pot, o2, o3, o4, o5, o6, rfl, s1, h1, h2⟩
    have hj1 : j < ns.length := by
      rw [hlen] at hj
      split at hj <;> omega
    have hx : atI (ns.map V.int) (0 + (j : Int)) = some (V.int (ns[j]'hj1)) := by
      rw [Int.zero_add]
      refine atI_nat ?_
      rw [List.getElem?_map, List.getElem?_eq_getElem hj1]
      rfl
    have key : ∀ (m sh : Int) (De : Ends), De.nx = (fun σ H' => ∃ (pot : List Int) (o2 o3 o4 o5 o6 : Option V), σ = [some (.ref a), some (.ref p), o2, o3, o4, o5, o6] ∧ Same H H' ∧ H' p = some (.lst (pot.map V.int)) ∧ pot.length ≤ 48 * (j + 1)) → qTail c De (SP a p (0 + (j : Int)) m sh o5 o6) H' := fun m sh De eD => by
      refine tail_ok c a p (0 + (j : Int)) m sh (by omega) (by omega) o5 o6 H' pot (by omega) h1 _ fun pot' m' o5' o6' H2 g1 g2 g3 => ?_
      rw [eD]
      exact ⟨pot', _, _, _, _, _, rfl, fun b o e => by
        rw [g1 b (ne_of_none e hp)]
        exact s1 b o e, g2, by omega⟩
    refine ⟨_, rfl, _, rfl, .inl ⟨a, _, _, _, rfl, rfl, s1.seq hS, hx, .inl ⟨_, rfl, ?_⟩⟩⟩
    refine ⟨_, rfl, _, _, rfl, rfl, _, rfl, ?_⟩
    refine ite2 (fun _ => ?_) (fun _ => ?_)
    · refine ⟨_, rfl, _, _, rfl, rfl, ?_⟩
      exact key _ _ _ rfl
    · exact key _ _ _ rfl
  · rintro σ H' ⟨pot, o2, o3, o4, o5, o6, rfl, s1, h1, h2⟩
    refine ⟨_, rfl, tyList h1, p, _, rfl, rfl, h1, _, rfl, ?_⟩
    exact k p pot.reverse _ (by rw [upd_same, List.map_reverse])

end
end PL
namespace FX
open PySem L2 Den
variable {K : PySem.W.Frag}
end FX
namespace PL
open PySem L2 Den
def Lot (n : Int) (ss : List Int) : Prop := ss ≠ [] ∧ ss.length < 60 ∧ ∀ x ∈ ss, 0 ≤ x ∧ x < n
theorem scL_ints (ss : List Int) : scL (ss.map D.int) = some (ss.map V.int) := by
  induction ss with
  | nil => rfl
  | cons s ss ih => simp [scL, sc, ih]
theorem lot_ev (n : Int) (hn : 0 < n) (p : List Int) : ∃ ss q, D_law_lot [.pot, .int n] p = .ok (dI ss) q ∧ Lot n ss := by
  obtain ⟨v, q1, e1, hv0, hv1⟩ := draw_ev n hn p
  obtain ⟨t, q2, e2, ht0, ht1⟩ := draw_ev 3 (by decide) q1
  have key := loop_run (tg := gset 3) (body := sseq (sasg (mcall D_law_draw (acons (mvar 0) (acons (mvar 1) anil))) (gset 4)) (sif (mtest (minc true (mvar 4) 2)) (sappend 2 (mvar 4)) sskip))
    (fun (k : Nat) (l : Den.Loc) (q : List Int) => ∃ ss o3 o4, l = [some (.dat .pot), some (.dat (.int n)), some (.cell (ss.map .int)), o3, o4] ∧ ss ≠ [] ∧ ss.length ≤ 1 + k ∧ ∀ x ∈ ss, 0 ≤ x ∧ x < n)
    (ds := rngD 0 t.toNat) (k := 0) (l := [some (.dat .pot), some (.dat (.int n)), some (.cell [.int v]), none, none]) (p := q2) ⟨[v], none, none, rfl, by simp, by simp, by simp [hv0, hv1]⟩ (fun i d l q hd hI => by
      obtain ⟨ss, o3, o4, rfl, h1, h2, h3⟩ := hI
      have hi := (rngD_get hd).1
      obtain ⟨x, q', e, hx0, hx1⟩ := draw_ev n hn q
      refine ⟨_, lset_lt 3 _ _ (by simp), ?_⟩
      have hlen : ss.length < 1000 := by omega
      by_cases hin : inV (V.int x) (ss.map V.int) = true
      · refine ⟨[some (.dat .pot), some (.dat (.int n)), some (.cell (ss.map .int)), some (.dat d), some (.dat (.int x))], q', .inl ?_, ss, _, _, rfl, h1, by omega, h3⟩
        simp [mvar, e, minc, sc, scL_ints, hin]
      · refine ⟨[some (.dat .pot), some (.dat (.int n)), some (.cell ((ss ++ [x]).map .int)), some (.dat d), some (.dat (.int x))], q', .inl ?_, ss ++ [x], _, _, rfl, by simp, by rw [List.length_append]; simp; omega, fun y hy => ?_⟩
        · have hin' : inV (V.int x) (ss.map V.int) = false := by simpa using hin
          simp [mvar, e, minc, sc, scL_ints, hin', sappend, hlen, sbind]
        · rcases List.mem_append.mp hy with h | h
          · exact h3 y h
          · have : y = x := by simpa using h
            rw [this]; exact ⟨hx0, hx1⟩)
  obtain ⟨l', q3, e3, ss, o3, o4, rfl, h1, h2, h3⟩ := key
  rw [rngD_len] at h2
  refine ⟨ss, q3, ?_, h1, by omega, h3⟩
  have hr : rng1 [D.int t] = some (rngD 0 t.toNat) := rng1_int (by omega)
  simp [D_law_lot, denF, dn_law_lot, locOf, mvar, e1, e2, hr, e3, sgive, dI]
def DueOk (d : Due) : Prop := ∀ b x, d = some (b, x) → 0 ≤ x ∧ x ≤ 4
theorem due_ev (p : List Int) : ∃ d q, D_law_due [.pot] p = .ok (dDue d) q ∧ DueOk d := by
  obtain ⟨v, q1, e1, hv0, hv1⟩ := draw_ev 6 (by decide) p
  by_cases h2 : v ≤ 2
  · exact ⟨some (true, 0), q1, by simp [D_law_due, denF, dn_law_due, locOf, mvar, e1, h2, dDue], fun b x h => by cases h; decide⟩
  · by_cases h3 : v = 3
    · obtain ⟨x, q2, e2, hx0, hx1⟩ := draw_ev 4 (by decide) q1
      exact ⟨some (true, 1 + x), q2, by simp [D_law_due, denF, dn_law_due, locOf, mvar, e1, h3, e2, dDue], fun b y h => by cases h; omega⟩
    · by_cases h4 : v = 4
      · obtain ⟨x, q2, e2, hx0, hx1⟩ := draw_ev 3 (by decide) q1
        exact ⟨some (false, 1 + x), q2, by simp [D_law_due, denF, dn_law_due, locOf, mvar, e1, h4, e2, dDue], fun b y h => by cases h; omega⟩
      · exact ⟨none, q1, by simp [D_law_due, denF, dn_law_due, locOf, mvar, e1, h2, h3, h4, dDue], fun b y h => by cases h⟩
theorem marks_ev (n : Int) (h0 : 0 ≤ n) (h1 : n ≤ 60) (p : List Int) : ∃ ms q, D_law_marks [.pot, .int n] p = .ok (dI ms) q ∧ (ms.length : Int) = n ∧ ∀ m ∈ ms, m = 1 ∨ m = 2 := by
  obtain ⟨v, q1, e1, hv0, hv1⟩ := draw_ev 4 (by decide) p
  have hr : rng1 [D.int n] = some (rngD 0 n.toNat) := rng1_int (by omega)
  by_cases h2 : v ≤ 1
  · have hc : mcomp (mbind (acons (mvar 1) anil) fun x => mlift (rng1 x)) 3 mtrue (op2 fAdd (mret (D.int 1)) (mvar 2)) [some (.dat .pot), some (.dat (.int n)), some (.dat (.int v)), none] q1 = .ok ((List.replicate n.toNat (1 + v)).map .int) q1 := by
      refine (mcomp_ev (ds := rngD 0 n.toNat) (p' := q1) ?_ (by rw [rngD_len]; omega)).trans ?_
      · simp only [mbind_ev, acons_ev, mvar, List.getElem?_cons_succ, List.getElem?_cons_zero, bind_ok, anil_ev, hr, mlift_some]
      · refine (comp_map (by simp) (fun _ => .int (1 + v)) fun d hd => by simp [mvar]).trans ?_
        congr 1
        rw [List.map_replicate]
        refine List.eq_replicate_iff.mpr ⟨by rw [List.length_map, rngD_len], fun b hb => ?_⟩
        obtain ⟨_, _, rfl⟩ := List.mem_map.mp hb
        rfl
    refine ⟨List.replicate n.toNat (1 + v), q1, ?_, by rw [List.length_replicate]; omega, fun m hm => by have := (List.mem_replicate.mp hm).2; omega⟩
    simp [D_law_marks, denF, dn_law_marks, locOf, mvar, e1, h2, hc, dI]
  · have hc : ∃ ys q2, mcomp (mbind (acons (mvar 1) anil) fun x => mlift (rng1 x)) 3 mtrue (op2 fAdd (mret (D.int 1)) (mcall D_law_draw (acons (mvar 0) (acons (mret (D.int 2)) anil)))) [some (.dat .pot), some (.dat (.int n)), some (.dat (.int v)), none] q1 = .ok ys q2 ∧ ys.length = n.toNat ∧ ∀ y ∈ ys, ∃ m : Int, y = .int m ∧ (m = 1 ∨ m = 2) := by
      obtain ⟨ys, q2, e, hl, hy⟩ := comp_ex (i := 3) (e := op2 fAdd (mret (D.int 1)) (mcall D_law_draw (acons (mvar 0) (acons (mret (D.int 2)) anil)))) (l := [some (.dat .pot), some (.dat (.int n)), some (.dat (.int v)), none]) (by simp) (fun _ y => ∃ m : Int, y = .int m ∧ (m = 1 ∨ m = 2)) (ds := rngD 0 n.toNat) (p := q1) fun d hd p => by
        obtain ⟨x, q', e, hx0, hx1⟩ := draw_ev 2 (by decide) p
        exact ⟨.int (1 + x), q', by simp [mvar, e], 1 + x, rfl, by omega⟩
      refine ⟨ys, q2, (mcomp_ev (ds := rngD 0 n.toNat) (p' := q1) ?_ (by rw [rngD_len]; omega)).trans e, by rw [hl, rngD_len], fun y h => ?_⟩
      · simp only [mbind_ev, acons_ev, mvar, List.getElem?_cons_succ, List.getElem?_cons_zero, bind_ok, anil_ev, hr, mlift_some]
      · obtain ⟨_, _, q⟩ := hy y h
        exact q
    obtain ⟨ys, q2, e, hl, hy⟩ := hc
    have hms : ∃ ms : List Int, ys = ms.map .int ∧ ∀ m ∈ ms, m = 1 ∨ m = 2 := by
      clear e hl
      induction ys with
      | nil => exact ⟨[], rfl, fun _ h => nomatch h⟩
      | cons y ys ih =>
        obtain ⟨m, rfl, hm⟩ := hy y List.mem_cons_self
        obtain ⟨ms, rfl, h⟩ := ih fun y h => hy y (List.mem_cons_of_mem _ h)
        exact ⟨m :: ms, rfl, fun k hk => by
          rcases List.mem_cons.mp hk with rfl | hk
          · exact hm
          · exact h k hk⟩
    obtain ⟨ms, rfl, hm⟩ := hms
    rw [List.length_map] at hl
    refine ⟨ms, q2, ?_, by omega, hm⟩
    simp [D_law_marks, denF, dn_law_marks, locOf, mvar, e1, h2, e, dI]
end PL
namespace PL
open PySem L2 Den
def LotOk (n : Int) (ss : List Int) : Prop := ss.length < 60 ∧ ∀ x ∈ ss, 0 ≤ x ∧ x < n
def pathB : MS := sseq (sasg (op2 fSub (mvar 2) (mret (D.int 1))) (gset 3))
    (sseq (sif (mtest (op2 fEq (mvar 2) (mret (D.int 2)))) (sasg (mret (D.int 0)) (gset 3)) sskip)
    (sseq (sasg (op2 fAdd (mvar 2) (mret (D.int 1))) (gset 4))
    (sseq (sif (mtest (op2 fEq (mvar 2) (op2 fSub (mvar 0) (mret (D.int 1))))) (sasg (mret (D.int 1)) (gset 4)) sskip)
    (sappend 1 (mfreeze (mshort (acons (mvar 3) (acons (mvar 4) anil))))))))
theorem path_ev (n : Int) (h0 : 2 ≤ n) (h1 : n ≤ 60) (p : List Int) : ∃ lls : List (List Int), D_law_path [.int n] p = .ok (.lst (lls.map dI)) p ∧ (lls.length : Int) = n ∧ ∀ ss ∈ lls, LotOk n ss := by
  have key := loop_run (tg := gset 2) (body := pathB)
    (fun (k : Nat) (l : Den.Loc) (q : List Int) => q = p ∧ ∃ (lls : List (List Int)) (o2 o3 o4 : Option L), l = [some (.dat (.int n)), some (.cell (lls.map dI)), o2, o3, o4] ∧ lls.length = 2 + k ∧ ∀ ss ∈ lls, LotOk n ss)
    (ds := rngD 2 (n - 2).toNat) (k := 0) (l := [some (.dat (.int n)), some (.cell [.lst [], .lst []]), none, none, none]) (p := p) ⟨rfl, [[], []], none, none, none, rfl, rfl, by simp [LotOk]⟩ (fun i d l q hd hI => by
      obtain ⟨rfl, lls, o2, o3, o4, rfl, h2, h3⟩ := hI
      obtain ⟨hi, rfl⟩ := rngD_get hd
      have hin : i < (n - 2).toNat := hi
      have hlen : lls.length < 1000 := by omega
      have gen : ∀ a b : Int, 0 ≤ a → a < n → 0 ≤ b → b < n → ∀ ss ∈ lls ++ [[a, b]], LotOk n ss := fun a b a0 a1 b0 b1 ss hs => by
        rcases List.mem_append.mp hs with h | h
        · exact h3 ss h
        · have : ss = [a, b] := by simpa using h
          subst this
          exact ⟨by simp, by simp; omega⟩
      refine ⟨_, lset_lt 2 _ _ (by simp), ?_⟩
      have hv : ∃ v : Int, v = 2 + (i : Int) ∧ 2 ≤ v ∧ v < n := ⟨2 + (i : Int), rfl, by omega, by omega⟩
      obtain ⟨v, ev, v0, v1⟩ := hv
      rw [← ev]
      have fin : ∀ a b : Int, (if v = 2 then (0 : Int) else v - 1) = a → (if v = n - 1 then (1 : Int) else v + 1) = b → pathB (List.set [some (L.dat (D.int n)), some (L.cell (List.map dI lls)), o2, o3, o4] 2 (some (.dat (.int v)))) q = .nx [some (.dat (.int n)), some (.cell ((lls ++ [[a, b]]).map dI)), some (.dat (.int v)), some (.dat (.int a)), some (.dat (.int b))] q := fun a b ea eb => by
        unfold pathB
        by_cases c1 : v = 2
        · by_cases c2 : v = n - 1
          · rw [if_pos c1] at ea; rw [if_pos c2] at eb
            simp [mvar, sappend, hlen, sbind, dI, eq_true c1, eq_true c2, ← ea, ← eb]
          · rw [if_pos c1] at ea; rw [if_neg c2] at eb
            simp [mvar, sappend, hlen, sbind, dI, eq_true c1, eq_false c2, ← ea, ← eb]
        · by_cases c2 : v = n - 1
          · rw [if_neg c1] at ea; rw [if_pos c2] at eb
            simp [mvar, sappend, hlen, sbind, dI, eq_false c1, eq_true c2, ← ea, ← eb]
          · rw [if_neg c1] at ea; rw [if_neg c2] at eb
            simp [mvar, sappend, hlen, sbind, dI, eq_false c1, eq_false c2, ← ea, ← eb]
      refine ⟨_, q, .inl (fin _ _ rfl rfl), rfl, _, _, _, _, rfl, by rw [List.length_append]; simp; omega, gen _ _ ?_ ?_ ?_ ?_⟩
      all_goals (split <;> omega))
  obtain ⟨l', q, e, rfl, lls, o2, o3, o4, rfl, h2, h3⟩ := key
  rw [rngD_len] at h2
  refine ⟨lls, ?_, by omega, h3⟩
  have hr : rng2 [D.int 2, D.int n] = some (rngD 2 (n - 2).toNat) := rng2_int (by decide) (by omega)
  unfold pathB at e
  simp [D_law_path, denF, dn_law_path, locOf, mvar, hr, e, sgive]
end PL
namespace PL
open PySem L2 Den
def pE1 : MS := (sasg (vand (op2 fEq (mvar 7) (mret (D.int 0))) (op2 fNe (mvar 4) (mret (D.int 4)))) (gset 10))
def pE2 : MS := (sif (mand (mtest (op2 fEq (mvar 7) (mret (D.int 1)))) (mtest (op2 fNe (mvar 4) (mret (D.int 3))))) (sasg (mret (D.bl true)) (gset 10)) sskip)
def pE3 : MS := (sif (mand (mtest (op2 fGe (mvar 7) (mret (D.int 2)))) (mtest (op2 fEq (mcall D_law_draw (acons (mvar 0) (acons (mret (D.int 8)) anil))) (mret (D.int 7))))) (sasg (mret (D.bl true)) (gset 10)) sskip)
def pLots : MS := (sif (mtru (mvar 10)) (sseq (sappend 5 (mfreeze (mshort anil)))
    (sappend 8 (mfreeze (mshort anil)))) (sseq (sasg (mcall D_law_lot (acons (mvar 0) (acons (mvar 3) anil))) (gset 9))
    (sseq (sappend 5 (mvar 9))
    (sif (mor (mtru (mvar 2)) (mtest (op2 fEq (mcall D_law_draw (acons (mvar 0) (acons (mret (D.int 2)) anil))) (mret (D.int 0))))) (sappend 8 (mfreeze (mlistN (acons (mvar 9) anil)))) (sappend 8 (mcall D_law_lot (acons (mvar 0) (acons (mvar 3) anil))))))))
def pD0 : MS := (sasg (mret D.non) (gset 11))
def pD1 : MS := (sif (mor (mtest (op2 fEq (mvar 7) (mret (D.int 0)))) (mand (mtru (mvar 10)) (mtest (op2 fGe (mvar 7) (mret (D.int 2)))))) (sasg (mcall D_law_due (acons (mvar 0) anil)) (gset 11)) (sif (mand (mnot (mtru (mvar 10))) (mtest (op2 fEq (mcall D_law_draw (acons (mvar 0) (acons (mret (D.int 8)) anil))) (mret (D.int 7))))) (sasg (mcall D_law_due (acons (mvar 0) anil)) (gset 11)) sskip))
def pD2 : MS := (sappend 6 (mvar 11))
def pTurn : MS := sseq pE1 (sseq pE2 (sseq pE3 (sseq pLots (sseq pD0 (sseq pD1 pD2)))))
def pWeb : MS := (sseq (sasg (opn fMin2 (acons (mvar 1) (acons (op2 fIx (mfreeze (mshort (acons (mret (D.int 4)) (acons (mret (D.int 3)) (acons (mret (D.int 5)) (acons (mret (D.int 4)) (acons (mret (D.int 6)) (acons (mret (D.int 2)) (acons (mret (D.int 5)) (acons (mret (D.int 3)) (acons (mret (D.int 7)) (acons (mret (D.int 1)) anil)))))))))))) (mcall D_law_draw (acons (mvar 0) (acons (mret (D.int 10)) anil)))) anil))) (gset 3))
    (sseq (sasg (mcall D_law_draw (acons (mvar 0) (acons (mret (D.int 5)) anil))) (gset 4))
    (sseq (sown (mshort anil) 5)
    (sseq (sown (mshort anil) 6)
    (sseq (sif (mand (mtest (op2 fEq (mvar 4) (mret (D.int 0)))) (mtest (op2 fGe (mvar 3) (mret (D.int 2))))) (sseq (sasg (mcall D_law_path (acons (mvar 3) anil)) (gset 5))
    (sseq (sasg (op2 fCat (mfreeze (mshort (acons (mtupd (acons (mret (D.str "chips")) (acons (mret (D.int 0)) anil))) anil))) (mfreeze (mcomp (mbind (acons (op2 fSub (mvar 3) (mret (D.int 1))) anil) fun x => mlift (rng1 x)) 7 mtrue (mret D.non)))) (gset 6))
    (sgive 5 (sown (mcomp (mbind (mvar 5) fun x => mlift (lstOf x)) 9 mtrue (mfreeze (mlistN (acons (mvar 9) anil)))) 8)))) (sseq (sown (mshort anil) 8)
    (sfor (mbind (acons (mvar 3) anil) fun x => mlift (rng1 x)) (gset 7) pTurn)))
    (sgive 8 (sgive 5 (sgive 6 (sret (mfreeze (mshort (acons (mvar 5) (acons (mvar 8) (acons (mcall D_law_marks (acons (mvar 0) (acons (mvar 3) anil))) (acons (mvar 6) anil)))))))))))))))
theorem pWeb_is : dn_law_web = pWeb := rfl
abbrev Stt (m n s : Int) (e : Bool) (fs ss : List (List Int)) (ds : List Due) (o7 o9 o10 o11 : Option L) : Den.Loc := [some (.dat .pot), some (.dat (.int m)), some (.dat (.bl e)), some (.dat (.int n)), some (.dat (.int s)), some (.cell (fs.map dI)), some (.cell (ds.map dDue)), o7, some (.cell (ss.map dI)), o9, o10, o11]
theorem end_ev (m n s i : Int) (hi : 0 ≤ i) (e : Bool) (fs ss : List (List Int)) (ds : List Due) (o9 o10 o11 : Option L) (q : List Int) (R : MS) : ∃ b q', sseq pE1 (sseq pE2 (sseq pE3 R)) (Stt m n s e fs ss ds (some (.dat (.int i))) o9 o10 o11) q = R (Stt m n s e fs ss ds (some (.dat (.int i))) o9 (some (.dat (.bl b))) o11) q' := by
  by_cases h0 : i = 0
  · subst h0
    refine ⟨!decide (s = 4), q, ?_⟩
    simp [pE1, pE2, pE3, mvar]
  · by_cases h1 : i = 1
    · subst h1
      by_cases h3 : s = 3
      · exact ⟨false, q, by simp [pE1, pE2, pE3, mvar, h3]⟩
      · exact ⟨true, q, by simp [pE1, pE2, pE3, mvar, h3]⟩
    · have h2 : 2 ≤ i := by omega
      obtain ⟨v, q1, e1, hv0, hv1⟩ := draw_ev 8 (by decide) q
      by_cases h7 : v = 7
      · exact ⟨true, q1, by simp [pE1, pE2, pE3, mvar, h0, h1, h2, e1, h7]⟩
      · exact ⟨false, q1, by simp [pE1, pE2, pE3, mvar, h0, h1, h2, e1, h7]⟩
theorem Lot.ok {n : Int} {ss : List Int} (h : Lot n ss) : LotOk n ss := h.2
theorem lots_ev (m n s : Int) (hn : 0 < n) (e b : Bool) (fs ss : List (List Int)) (ds : List Due) (o7 o9 o11 : Option L) (hf : fs.length < 1000) (hs : ss.length < 1000) (q : List Int) : ∃ fl sl o9' q', pLots (Stt m n s e fs ss ds o7 o9 (some (.dat (.bl b))) o11) q = .nx (Stt m n s e (fs ++ [fl]) (ss ++ [sl]) ds o7 o9' (some (.dat (.bl b))) o11) q' ∧ LotOk n fl ∧ LotOk n sl ∧ fl.isEmpty = sl.isEmpty := by
  have hE : LotOk n [] := ⟨by decide, fun _ h => nomatch h⟩
  cases b with
  | true => exact ⟨[], [], o9, q, by simp [pLots, mvar, sappend, hf, hs, sbind, dI], hE, hE, rfl⟩
  | false =>
    obtain ⟨lo, q1, e1, L1⟩ := lot_ev n hn q
    have em : lo.isEmpty = false := by cases lo with
      | nil => exact absurd rfl L1.1
      | cons => rfl
    cases e with
    | true => exact ⟨lo, lo, some (.dat (dI lo)), q1, by simp [pLots, mvar, sappend, hf, hs, sbind, e1]; simp [dI], L1.ok, L1.ok, rfl⟩
    | false =>
      obtain ⟨v, q2, e2, hv0, hv1⟩ := draw_ev 2 (by decide) q1
      by_cases h0 : v = 0
      · exact ⟨lo, lo, some (.dat (dI lo)), q2, by simp [pLots, mvar, sappend, hf, hs, sbind, e1, e2, h0]; simp [dI], L1.ok, L1.ok, rfl⟩
      · obtain ⟨lo2, q3, e3, L2⟩ := lot_ev n hn q2
        have em2 : lo2.isEmpty = false := by cases lo2 with
          | nil => exact absurd rfl L2.1
          | cons => rfl
        exact ⟨lo, lo2, some (.dat (dI lo)), q3, by simp [pLots, mvar, sappend, hf, hs, sbind, e1, e2, h0, e3], L1.ok, L2.ok, by rw [em, em2]⟩
theorem dues_ev (m n s i : Int) (e b : Bool) (fs ss : List (List Int)) (ds : List Due) (o9 o11 : Option L) (hd : ds.length < 1000) (q : List Int) : ∃ d o11' q', sseq pD0 (sseq pD1 pD2) (Stt m n s e fs ss ds (some (.dat (.int i))) o9 (some (.dat (.bl b))) o11) q = .nx (Stt m n s e fs ss (ds ++ [d]) (some (.dat (.int i))) o9 (some (.dat (.bl b))) o11') q' ∧ DueOk d := by
  have hN : DueOk none := fun b x h => nomatch h
  have dN : dDue none = .non := rfl
  by_cases h0 : i = 0
  · obtain ⟨d, q1, e1, D1⟩ := due_ev q
    exact ⟨d, some (.dat (dDue d)), q1, by simp [pD0, pD1, pD2, mvar, sappend, hd, sbind, e1, h0], D1⟩
  · cases b with
    | true =>
      by_cases h2 : 2 ≤ i
      · obtain ⟨d, q1, e1, D1⟩ := due_ev q
        exact ⟨d, some (.dat (dDue d)), q1, by simp [pD0, pD1, pD2, mvar, sappend, hd, sbind, e1, h0, h2], D1⟩
      · exact ⟨none, some (.dat .non), q, by simp [pD0, pD1, pD2, mvar, sappend, hd, sbind, h0, h2, dN], hN⟩
    | false =>
      obtain ⟨v, q1, e1, hv0, hv1⟩ := draw_ev 8 (by decide) q
      by_cases h7 : v = 7
      · obtain ⟨d, q2, e2, D1⟩ := due_ev q1
        exact ⟨d, some (.dat (dDue d)), q2, by simp [pD0, pD1, pD2, mvar, sappend, hd, sbind, e1, h0, h7, e2], D1⟩
      · exact ⟨none, some (.dat .non), q1, by simp [pD0, pD1, pD2, mvar, sappend, hd, sbind, e1, h0, h7, dN], hN⟩
end PL
namespace PL
open PySem L2 Den
structure Grown (n : Int) (k : Nat) (fs ss : List (List Int)) (ds : List Due) : Prop where
  lf : fs.length = k
  ls : ss.length = k
  ld : ds.length = k
  of : ∀ x ∈ fs, LotOk n x
  os : ∀ x ∈ ss, LotOk n x
  od : ∀ d ∈ ds, DueOk d
  bo : fs.map List.isEmpty = ss.map List.isEmpty
theorem Grown.more {n : Int} {k : Nat} {fs ss : List (List Int)} {ds : List Due} (G : Grown n k fs ss ds) {fl sl : List Int} {d : Due} (h1 : LotOk n fl) (h2 : LotOk n sl) (h3 : fl.isEmpty = sl.isEmpty) (h4 : DueOk d) : Grown n (k + 1) (fs ++ [fl]) (ss ++ [sl]) (ds ++ [d]) := by
  have ap : ∀ {α : Type} {P : α → Prop} {xs : List α} {a : α}, (∀ x ∈ xs, P x) → P a → ∀ x ∈ xs ++ [a], P x := fun h ha x hx => by
    rcases List.mem_append.mp hx with h' | h'
    · exact h x h'
    · rcases List.mem_singleton.mp h' with rfl
      exact ha
  exact ⟨by simp [G.lf], by simp [G.ls], by simp [G.ld], ap G.of h1, ap G.os h2, ap G.od h4, by simp [G.bo, h3]⟩
theorem Grown.valid {n : Int} {fs ss : List (List Int)} {ds : List Due} {ms : List Int} (h1 : 1 ≤ n) (h2 : n ≤ 60) (hm : (ms.length : Int) = n) (hms : ∀ m ∈ ms, m = 1 ∨ m = 2) (G : Grown n n.toNat fs ss ds) : Valid ⟨fs, ss, ms, ds⟩ := by
  have hn : n.toNat = ms.length := by omega
  refine ⟨by show 1 ≤ ms.length; omega, by show ms.length ≤ 60; omega, G.lf.trans hn, G.ls.trans hn, G.ld.trans hn, fun s hs => ?_, fun s hs => ?_, fun i a b ha hb => ?_, hms, fun d hd b x e => by have := G.od d hd b x e; omega⟩
  · show s.length < 60 ∧ ∀ x ∈ s, 0 ≤ x ∧ x < (ms.length : Int)
    rw [hm]; exact G.of s hs
  · show s.length < 60 ∧ ∀ x ∈ s, 0 ≤ x ∧ x < (ms.length : Int)
    rw [hm]; exact G.os s hs
  · have e := congrArg (fun x => x[i]?) G.bo
    simp only [List.getElem?_map] at e
    have ha' : fs[i]? = some a := ha
    have hb' : ss[i]? = some b := hb
    rw [ha', hb'] at e
    simpa using e
theorem turn_ev (m n s i : Int) (hi : 0 ≤ i) (hn : 0 < n) (e : Bool) (k : Nat) (hk : k < 1000) (fs ss : List (List Int)) (ds : List Due) (G : Grown n k fs ss ds) (o9 o10 o11 : Option L) (q : List Int) : ∃ fs' ss' ds' o9' o10' o11' q', pTurn (Stt m n s e fs ss ds (some (.dat (.int i))) o9 o10 o11) q = .nx (Stt m n s e fs' ss' ds' (some (.dat (.int i))) o9' o10' o11') q' ∧ Grown n (k + 1) fs' ss' ds' := by
  obtain ⟨b, q1, e1⟩ := end_ev m n s i hi e fs ss ds o9 o10 o11 q (sseq pLots (sseq pD0 (sseq pD1 pD2)))
  obtain ⟨fl, sl, o9', q2, e2, h1, h2, h3⟩ := lots_ev m n s hn e b fs ss ds (some (.dat (.int i))) o9 o11 (by rw [G.lf]; exact hk) (by rw [G.ls]; exact hk) q1
  obtain ⟨d, o11', q3, e3, h4⟩ := dues_ev m n s i e b (fs ++ [fl]) (ss ++ [sl]) ds o9' o11 (by rw [G.ld]; exact hk) q2
  exact ⟨_, _, _, _, _, _, q3, e1.trans ((sseq_nx _ _ _ _ _ _ e2).trans e3), G.more h1 h2 h3 h4⟩
theorem turns_ev (m n s : Int) (hn : 0 < n) (h60 : n ≤ 60) (e : Bool) (o7 o9 o10 o11 : Option L) (q : List Int) : ∃ fs ss ds o7' o9' o10' o11' q', loop (gset 7) pTurn (rngD 0 n.toNat) (Stt m n s e [] [] [] o7 o9 o10 o11) q = .nx (Stt m n s e fs ss ds o7' o9' o10' o11') q' ∧ Grown n n.toNat fs ss ds := by
  obtain ⟨l', q', e1, fs, ss, ds, o7', o9', o10', o11', rfl, G⟩ := loop_run (tg := gset 7) (body := pTurn)
    (fun (k : Nat) (l : Den.Loc) (q : List Int) => ∃ fs ss ds o7 o9 o10 o11, l = Stt m n s e fs ss ds o7 o9 o10 o11 ∧ Grown n k fs ss ds)
    (ds := rngD 0 n.toNat) (k := 0) (l := Stt m n s e [] [] [] o7 o9 o10 o11) (p := q) ⟨[], [], [], _, _, _, _, rfl, rfl, rfl, rfl, (fun _ h => nomatch h), (fun _ h => nomatch h), (fun _ h => nomatch h), rfl⟩ (fun i d l q hd hI => by
      obtain ⟨fs, ss, ds, o7, o9, o10, o11, rfl, G⟩ := hI
      obtain ⟨hi, rfl⟩ := rngD_get hd
      obtain ⟨fs', ss', ds', o9', o10', o11', q', e1, G'⟩ := turn_ev m n s (0 + (i : Int)) (by omega) hn e (0 + i) (by omega) fs ss ds G o9 o10 o11 q
      exact ⟨_, lset_lt 7 _ _ (by simp), _, q', .inl e1, fs', ss', ds', _, _, _, _, rfl, G'⟩)
  rw [rngD_len, Nat.zero_add] at G
  exact ⟨fs, ss, ds, o7', o9', o10', o11', q', e1, G⟩
theorem menu_ev (m : Int) (h1 : 1 ≤ m) (p : List Int) : ∃ n q, (∀ l : Den.Loc, l[0]? = some (some (.dat .pot)) → l[1]? = some (some (.dat (.int m))) → opn fMin2 (acons (mvar 1) (acons (op2 fIx (mfreeze (mshort (acons (mret (D.int 4)) (acons (mret (D.int 3)) (acons (mret (D.int 5)) (acons (mret (D.int 4)) (acons (mret (D.int 6)) (acons (mret (D.int 2)) (acons (mret (D.int 5)) (acons (mret (D.int 3)) (acons (mret (D.int 7)) (acons (mret (D.int 1)) anil)))))))))))) (mcall D_law_draw (acons (mvar 0) (acons (mret (D.int 10)) anil)))) anil)) l p = .ok (.int n) q) ∧ 1 ≤ n ∧ n ≤ m ∧ n ≤ 7 := by
  obtain ⟨v, q, e, h0, h9⟩ := draw_ev 10 (by decide) p
  have key : ∃ x : Int, 1 ≤ x ∧ x ≤ 7 ∧ atI [D.int 4, .int 3, .int 5, .int 4, .int 6, .int 2, .int 5, .int 3, .int 7, .int 1] v = some (.int x) := by
    have : ∀ j : Nat, j < 10 → ∃ x : Int, 1 ≤ x ∧ x ≤ 7 ∧ [D.int 4, .int 3, .int 5, .int 4, .int 6, .int 2, .int 5, .int 3, .int 7, .int 1][j]? = some (.int x) := fun j hj => by
      match j, hj with
      | 0, _ => exact ⟨4, by decide, by decide, rfl⟩
      | 1, _ => exact ⟨3, by decide, by decide, rfl⟩
      | 2, _ => exact ⟨5, by decide, by decide, rfl⟩
      | 3, _ => exact ⟨4, by decide, by decide, rfl⟩
      | 4, _ => exact ⟨6, by decide, by decide, rfl⟩
      | 5, _ => exact ⟨2, by decide, by decide, rfl⟩
      | 6, _ => exact ⟨5, by decide, by decide, rfl⟩
      | 7, _ => exact ⟨3, by decide, by decide, rfl⟩
      | 8, _ => exact ⟨7, by decide, by decide, rfl⟩
      | 9, _ => exact ⟨1, by decide, by decide, rfl⟩
      | j + 10, h => omega
    obtain ⟨x, hx1, hx2, hx3⟩ := this v.toNat (by omega)
    exact ⟨x, hx1, hx2, atI_nat' h0 hx3⟩
  obtain ⟨x, hx1, hx2, hx3⟩ := key
  refine ⟨if x < m then x else m, q, fun l hl0 hl1 => ?_, by split <;> omega, by split <;> omega, by split <;> omega⟩
  simp [mvar_ev hl0, mvar_ev hl1, e, hx3]
end PL
namespace PL
open PySem L2 Den
def pPath : MS := (sseq (sasg (mcall D_law_path (acons (mvar 3) anil)) (gset 5))
    (sseq (sasg (op2 fCat (mfreeze (mshort (acons (mtupd (acons (mret (D.str "chips")) (acons (mret (D.int 0)) anil))) anil))) (mfreeze (mcomp (mbind (acons (op2 fSub (mvar 3) (mret (D.int 1))) anil) fun x => mlift (rng1 x)) 7 mtrue (mret D.non)))) (gset 6))
    (sgive 5 (sown (mcomp (mbind (mvar 5) fun x => mlift (lstOf x)) 9 mtrue (mfreeze (mlistN (acons (mvar 9) anil)))) 8))))
def pLast : MS := (sgive 8 (sgive 5 (sgive 6 (sret (mfreeze (mshort (acons (mvar 5) (acons (mvar 8) (acons (mcall D_law_marks (acons (mvar 0) (acons (mvar 3) anil))) (acons (mvar 6) anil))))))))))
theorem last_cell (m n s : Int) (e : Bool) (fs ss : List (List Int)) (ds : List Due) (o7 o9 o10 o11 : Option L) (ms : List Int) (q q' : List Int) (hm : D_law_marks [.pot, .int n] q = .ok (dI ms) q') : pLast (Stt m n s e fs ss ds o7 o9 o10 o11) q = .rt (.lst (encW ⟨fs, ss, ms, ds⟩)) q' := by
  simp [pLast, sgive, mvar, hm, encW]
theorem path_run (m n s : Int) (h2 : 2 ≤ n) (h60 : n ≤ 60) (e : Bool) (o8 o9 o10 o11 : Option L) (o7 : Option L) (q : List Int) : ∃ fs o7' o9', pPath [some (.dat .pot), some (.dat (.int m)), some (.dat (.bl e)), some (.dat (.int n)), some (.dat (.int s)), some (.cell []), some (.cell []), o7, o8, o9, o10, o11] q
    = .nx [some (.dat .pot), some (.dat (.int m)), some (.dat (.bl e)), some (.dat (.int n)), some (.dat (.int s)), some (.dat (.lst (fs.map dI))), some (.dat (.lst ((some (true, 0) :: List.replicate (n - 1).toNat none : List Due).map dDue))), o7', some (.cell (fs.map dI)), o9', o10, o11] q ∧ Grown n n.toNat fs fs (some (true, 0) :: List.replicate (n - 1).toNat none : List Due) := by
  obtain ⟨fs, e1, hl, hok⟩ := path_ev n h2 h60 q
  have hr : rng1 [D.int (n - 1)] = some (rngD 0 (n - 1).toNat) := rng1_int (by omega)
  have c1 : ∀ o5 : Option L, mcomp (mbind (acons (op2 fSub (mvar 3) (mret (D.int 1))) anil) fun x => mlift (rng1 x)) 7 mtrue (mret D.non) [some (.dat .pot), some (.dat (.int m)), some (.dat (.bl e)), some (.dat (.int n)), some (.dat (.int s)), o5, some (.cell []), o7, o8, o9, o10, o11] q = .ok (List.replicate (n - 1).toNat D.non) q := fun o5 => by
    refine (mcomp_ev (ds := rngD 0 (n - 1).toNat) (p' := q) ?_ (by rw [rngD_len]; omega)).trans ?_
    · simp [mvar, hr]
    · refine (comp_map (by simp) (fun _ => D.non) fun d hd => by simp).trans ?_
      congr 1
      refine List.eq_replicate_iff.mpr ⟨by rw [List.length_map, rngD_len], fun b hb => ?_⟩
      obtain ⟨_, _, rfl⟩ := List.mem_map.mp hb
      rfl
  have c2 : ∀ o6 o7 : Option L, mcomp (mbind (mvar 5) fun x => mlift (lstOf x)) 9 mtrue (mfreeze (mlistN (acons (mvar 9) anil))) [some (.dat .pot), some (.dat (.int m)), some (.dat (.bl e)), some (.dat (.int n)), some (.dat (.int s)), some (.dat (.lst (fs.map dI))), o6, o7, o8, o9, o10, o11] q = .ok (fs.map dI) q := fun o6 o7 => by
    refine (mcomp_ev (ds := fs.map dI) (p' := q) ?_ (by rw [List.length_map]; omega)).trans ?_
    · simp [mvar]
    · refine (comp_mapL (by simp) dI dI fun x hx => by simp [mvar, dI])
  have hlen : 1 + (n.toNat - 1) ≤ 1000 := by omega
  refine ⟨fs, o7, o9, ?_, ?_⟩
  · simp [pPath, mvar, e1, c1, sgive, c2, fCat, hlen, dDue]
  · refine ⟨by omega, by omega, ?_, hok, hok, ?_, rfl⟩
    · simp; omega
    · intro d hd b x hx
      rcases List.mem_cons.mp hd with rfl | h
      · cases hx; decide
      · rw [(List.mem_replicate.mp h).2] at hx; cases hx
theorem denF_ev {n m : Nat} {s : MS} {ds : List D} {pot : List Int} (h : ds.length = n) : denF n m s ds pot = outR (s (locOf m ds) pot) := if_pos h
theorem sif_t {t : M Bool} {a b : MS} {l : Den.Loc} {p p' : List Int} (h : t l p = .ok true p') : sif t a b l p = a l p' := by rw [sif_ev, h]; rfl
theorem sif_f {t : M Bool} {a b : MS} {l : Den.Loc} {p p' : List Int} (h : t l p = .ok false p') : sif t a b l p = b l p' := by rw [sif_ev, h]; rfl
abbrev S0 (m : Int) (e : Bool) (o3 o4 o5 o6 o8 : Option L) : Den.Loc := [some (.dat .pot), some (.dat (.int m)), some (.dat (.bl e)), o3, o4, o5, o6, none, o8, none, none, none]
theorem web_ev4 (m : Int) (h1 : 1 ≤ m) (e : Bool) (p : List Int) : ∃ wb q, D_law_web [.pot, .int m, .bl e] p = .ok (.lst (encW wb)) q ∧ Valid wb ∧ (wb.marks.length : Int) ≤ m ∧ wb.marks.length ≤ 7 ∧ ∀ d ∈ wb.dues, DueOk d := by
  obtain ⟨n, q1, e1, n1, n2, n3⟩ := menu_ev m h1 p
  obtain ⟨s, q2, e2, s0, s5⟩ := draw_ev 5 (by decide) q1
  have L0 := e1 (S0 m e none none none none none) rfl rfl
  have hrn : rng1 [D.int n] = some (rngD 0 n.toNat) := rng1_int (by omega)
  have main : ∃ fs ss ds ms q l q', Grown n n.toNat fs ss ds ∧ (ms.length : Int) = n ∧ (∀ m ∈ ms, m = 1 ∨ m = 2) ∧ 
      (sif (mand (mtest (op2 fEq (mvar 4) (mret (D.int 0)))) (mtest (op2 fGe (mvar 3) (mret (D.int 2))))) pPath (sseq (sown (mshort anil) 8) (sfor (mbind (acons (mvar 3) anil) fun x => mlift (rng1 x)) (gset 7) pTurn))) (S0 m e (some (.dat (.int n))) (some (.dat (.int s))) (some (.cell [])) (some (.cell [])) none) q2 = .nx l q' ∧ pLast l q' = .rt (.lst (encW ⟨fs, ss, ms, ds⟩)) q := by
    by_cases hp : s = 0 ∧ 2 ≤ n
    · obtain ⟨hp1, hp2⟩ := hp
      obtain ⟨fs, o7', o9', e3, G⟩ := path_run m n s hp2 (by omega) e none none none none none q2
      obtain ⟨ms, q3, e4, m1, m2⟩ := marks_ev n (by omega) (by omega) q2
      have hc : mand (mtest (op2 fEq (mvar 4) (mret (D.int 0)))) (mtest (op2 fGe (mvar 3) (mret (D.int 2)))) (S0 m e (some (.dat (.int n))) (some (.dat (.int s))) (some (.cell [])) (some (.cell [])) none) q2 = .ok true q2 := by
        simp [mvar, hp1, hp2]
      refine ⟨fs, fs, _, ms, q3, _, q2, G, m1, m2, (sif_t hc).trans e3, ?_⟩
      · simp [pLast, sgive, mvar, e4, encW]
    · obtain ⟨fs, ss, ds, o7', o9', o10', o11', q3, e3, G⟩ := turns_ev m n s (by omega) (by omega) e none none none none q2
      obtain ⟨ms, q4, e4, m1, m2⟩ := marks_ev n (by omega) (by omega) q3
      refine ⟨fs, ss, ds, ms, q4, _, q3, G, m1, m2, ?_, last_cell m n s e fs ss ds o7' o9' o10' o11' ms q3 q4 e4⟩
      have hc : mand (mtest (op2 fEq (mvar 4) (mret (D.int 0)))) (mtest (op2 fGe (mvar 3) (mret (D.int 2)))) (S0 m e (some (.dat (.int n))) (some (.dat (.int s))) (some (.cell [])) (some (.cell [])) none) q2 = .ok false q2 := by
        by_cases h : s = 0
        · have : ¬ 2 ≤ n := fun h' => hp ⟨h, h'⟩
          simp [mvar, h, this]
        · simp [mvar, h]
      refine (sif_f hc).trans ?_
      refine (seq_nx (l' := Stt m n s e [] [] [] none none none none) (p' := q2) (by simp)).trans ?_
      rw [sfor_ev]
      simp only [mbind_ev, acons_ev, mvar, List.getElem?_cons_succ, List.getElem?_cons_zero, bind_ok, anil_ev, hrn, mlift_some, toO_ok]
      exact e3
  obtain ⟨fs, ss, ds, ms, q, l, q', G, m1, m2, e3, e4⟩ := main
  refine ⟨⟨fs, ss, ms, ds⟩, q, ?_, G.valid n1 (by omega) m1 m2, by show (ms.length : Int) ≤ m; omega, by show ms.length ≤ 7; omega, G.od⟩
  refine (denF_ev (n := 3) (m := 12) (s := dn_law_web) rfl).trans ?_
  refine (congrArg outR ?_).trans (outR_rt _ q)
  rw [pWeb_is]
  refine (seq_nx (l' := S0 m e (some (.dat (.int n))) none none none none) (p' := q1) ?_).trans ?_
  · rw [sasg_ev]
    rw [show locOf 12 [D.pot, D.int m, D.bl e] = S0 m e none none none none none from rfl]
    rw [L0]
    rfl
  refine (seq_nx (l' := S0 m e (some (.dat (.int n))) (some (.dat (.int s))) none none none) (p' := q2) ?_).trans ?_
  · simp [mvar, e2]
  refine (seq_nx (l' := S0 m e (some (.dat (.int n))) (some (.dat (.int s))) (some (.cell [])) none none) (p' := q2) ?_).trans ?_
  · simp
  refine (seq_nx (l' := S0 m e (some (.dat (.int n))) (some (.dat (.int s))) (some (.cell [])) (some (.cell [])) none) (p' := q2) ?_).trans ?_
  · simp
  exact (seq_nx e3).trans e4
theorem web_ev (m : Int) (h1 : 1 ≤ m) (e : Bool) (p : List Int) : ∃ wb q, D_law_web [.pot, .int m, .bl e] p = .ok (.lst (encW wb)) q ∧ Valid wb ∧ (wb.marks.length : Int) ≤ m ∧ wb.marks.length ≤ 7 := by
  obtain ⟨wb, q, a, b, c, d, _⟩ := web_ev4 m h1 e p
  exact ⟨wb, q, a, b, c, d⟩
end PL
namespace PL
open PySem L2 Den
/-- the built web -/
def insW (A : CA) (wb : Wb) : D := .ins A.Web wnames (wfields wb)
theorem fld_ins {C : Addr} {f : Str} {ns : List Str} {ds : List D} : fFld C f (.ins C ns ds) = (ns.zip ds).lookup f := if_pos rfl
theorem lk_ne {f g : Str} {d : D} {l : List (Str × D)} (h : (f == g) = false) : ((g, d) :: l).lookup f = l.lookup f := by
  simp [List.lookup, h]
theorem lk_eq {f : Str} {d : D} {l : List (Str × D)} : ((f, d) :: l).lookup f = some d := by
  simp [List.lookup]
@[simp] theorem f_size (A : CA) (wb : Wb) : fFld A.Web "_size" (insW A wb) = some (.int wb.marks.length) := by
  unfold insW
  rw [fld_ins]
  exact lk_eq
@[simp] theorem f_first (A : CA) (wb : Wb) : fFld A.Web "_first" (insW A wb) = some (.tup (wb.first.map dS)) := by
  unfold insW
  rw [fld_ins]
  refine (lk_ne (by decide +kernel)).trans ?_
  exact lk_eq
@[simp] theorem f_second (A : CA) (wb : Wb) : fFld A.Web "_second" (insW A wb) = some (.tup (wb.second.map dS)) := by
  unfold insW
  rw [fld_ins]
  refine (lk_ne (by decide +kernel)).trans ?_
  refine (lk_ne (by decide +kernel)).trans ?_
  exact lk_eq
@[simp] theorem f_marks (A : CA) (wb : Wb) : fFld A.Web "_marks" (insW A wb) = some (.tup (wb.marks.map .int)) := by
  unfold insW
  rw [fld_ins]
  refine (lk_ne (by decide +kernel)).trans ?_
  refine (lk_ne (by decide +kernel)).trans ?_
  refine (lk_ne (by decide +kernel)).trans ?_
  exact lk_eq
@[simp] theorem isC_ins (A : CA) (wb : Wb) : fIsC A.Web [insW A wb, .cls A.Web] = some (.bl true) := by simp [fIsC, insW]
@[simp] theorem isC_lst (A : CA) (ds : List D) : fIsC A.Web [.lst ds, .cls A.Web] = some (.bl false) := by simp [fIsC, tyN]
theorem check_web_ok (A : CA) (wb : Wb) (p : List Int) : D_check_web A [insW A wb] p = .ok .non p := by
  simp [D_check_web, denF, dn_check_web, locOf, mvar]
def rowAt (r : List Int) (x : Int) : Int := r[x.toNat]?.getD 0
theorem row_at {r : List Int} {x : Int} (h0 : 0 ≤ x) (h1 : x < (r.length : Int)) : atI (r.map D.int) x = some (.int (rowAt r x)) := by
  have hx : x.toNat < r.length := by omega
  refine atI_nat' h0 ?_
  rw [List.getElem?_map, List.getElem?_eq_getElem hx]
  simp [rowAt, List.getElem?_eq_getElem hx]
/-- stand i of the web -/
structure Here (wb : Wb) (i : Int) (f s : List Int) (mk : Int) : Prop where
  h0 : 0 ≤ i
  h1 : i < (wb.marks.length : Int)
  hf : wb.first[i.toNat]? = some f
  hs : wb.second[i.toNat]? = some s
  hm : wb.marks[i.toNat]? = some mk
theorem here_ex {wb : Wb} (V : Valid wb) {i : Int} (h0 : 0 ≤ i) (h1 : i < (wb.marks.length : Int)) : ∃ f s mk, Here wb i f s mk := by
  have l1 := V.l1
  have l2 := V.l2
  exact ⟨wb.first[i.toNat]'(by omega), wb.second[i.toNat]'(by omega), wb.marks[i.toNat]'(by omega), h0, h1, List.getElem?_eq_getElem _, List.getElem?_eq_getElem _, List.getElem?_eq_getElem _⟩
section
variable {wb : Wb} {i : Int} {f s : List Int} {mk : Int}
theorem Here.f1 (h : Here wb i f s mk) : atI (wb.first.map dS) i = some (dS f) := atI_nat' h.h0 (by rw [List.getElem?_map, h.hf]; rfl)
theorem Here.s1 (h : Here wb i f s mk) : atI (wb.second.map dS) i = some (dS s) := atI_nat' h.h0 (by rw [List.getElem?_map, h.hs]; rfl)
theorem Here.m1 (h : Here wb i f s mk) : atI (wb.marks.map D.int) i = some (.int mk) := atI_nat' h.h0 (by rw [List.getElem?_map, h.hm]; rfl)
theorem Here.f2 (h : Here wb i f s mk) : atI (wb.first.map dI) i = some (dI f) := atI_nat' h.h0 (by rw [List.getElem?_map, h.hf]; rfl)
theorem Here.s2 (h : Here wb i f s mk) : atI (wb.second.map dI) i = some (dI s) := atI_nat' h.h0 (by rw [List.getElem?_map, h.hs]; rfl)
theorem Here.fin (h : Here wb i f s mk) (V : Valid wb) : ∀ x ∈ f, 0 ≤ x ∧ x < (wb.marks.length : Int) := (V.s1 f (List.mem_of_getElem? h.hf)).2
theorem Here.sin (h : Here wb i f s mk) (V : Valid wb) : ∀ x ∈ s, 0 ≤ x ∧ x < (wb.marks.length : Int) := (V.s2 s (List.mem_of_getElem? h.hs)).2
theorem Here.mk2 (h : Here wb i f s mk) (V : Valid wb) : mk = 1 ∨ mk = 2 := V.mks mk (List.mem_of_getElem? h.hm)
theorem Here.em (h : Here wb i f s mk) (V : Valid wb) : f.isEmpty = s.isEmpty := V.both _ _ _ h.hf h.hs
end
def IsLow (r ss : List Int) (v : Int) : Prop := (∃ x ∈ ss, rowAt r x = v) ∧ ∀ x ∈ ss, v ≤ rowAt r x
def IsHigh (r ss : List Int) (v : Int) : Prop := (∃ x ∈ ss, rowAt r x = v) ∧ ∀ x ∈ ss, rowAt r x ≤ v
theorem IsLow.uniq {r ss : List Int} {v w : Int} (h : IsLow r ss v) (g : IsLow r ss w) : v = w := by
  obtain ⟨⟨x, hx, ex⟩, h2⟩ := h
  obtain ⟨⟨y, hy, ey⟩, g2⟩ := g
  have := h2 y hy
  have := g2 x hx
  omega
theorem IsHigh.uniq {r ss : List Int} {v w : Int} (h : IsHigh r ss v) (g : IsHigh r ss w) : v = w := by
  obtain ⟨⟨x, hx, ex⟩, h2⟩ := h
  obtain ⟨⟨y, hy, ey⟩, g2⟩ := g
  have := h2 y hy
  have := g2 x hx
  omega
theorem minL_low {r ss : List Int} (h : ss ≠ []) : ∃ v, fMinL [.lst (ss.map fun x => .int (rowAt r x))] = some (.int v) ∧ IsLow r ss v := by
  cases ss with
  | nil => exact absurd rfl h
  | cons a t =>
    have e : intsOf ((a :: t).map fun x => D.int (rowAt r x)) = some ((a :: t).map (rowAt r)) := by
      rw [← intsOf_map ((a :: t).map (rowAt r)), List.map_map]; rfl
    refine ⟨minL (rowAt r a) (t.map (rowAt r)), ?_, ?_, ?_⟩
    · show (intsOf ((a :: t).map fun x => D.int (rowAt r x))).bind leastOf = _
      rw [e]; rfl
    · have := minL_mem (t.map (rowAt r)) (rowAt r a)
      rw [← List.map_cons] at this
      exact List.mem_map.mp this
    · intro x hx
      have := minL_le (t.map (rowAt r)) (rowAt r a)
      rcases List.mem_cons.mp hx with rfl | hx
      · exact this.1
      · exact this.2 _ (List.mem_map_of_mem hx)
theorem maxL_high {r ss : List Int} (h : ss ≠ []) : ∃ v, fMaxL [.lst (ss.map fun x => .int (rowAt r x))] = some (.int v) ∧ IsHigh r ss v := by
  cases ss with
  | nil => exact absurd rfl h
  | cons a t =>
    have e : intsOf ((a :: t).map fun x => D.int (rowAt r x)) = some ((a :: t).map (rowAt r)) := by
      rw [← intsOf_map ((a :: t).map (rowAt r)), List.map_map]; rfl
    refine ⟨maxL (rowAt r a) (t.map (rowAt r)), ?_, ?_, ?_⟩
    · show (intsOf ((a :: t).map fun x => D.int (rowAt r x))).bind mostOf = _
      rw [e]; rfl
    · have := maxL_mem (t.map (rowAt r)) (rowAt r a)
      rw [← List.map_cons] at this
      exact List.mem_map.mp this
    · intro x hx
      have := le_maxL (t.map (rowAt r)) (rowAt r a)
      rcases List.mem_cons.mp hx with rfl | hx
      · exact this.1
      · exact this.2 _ (List.mem_map_of_mem hx)
theorem sortSet_ne {ss : List Int} (h : ss ≠ []) : sortSet ss ≠ [] := fun e => by
  cases ss with
  | nil => exact h rfl
  | cons a t =>
    have : a ∈ sortSet (a :: t) := mem_sortSet.mpr List.mem_cons_self
    rw [e] at this
    cases this
end PL
namespace PL
open PySem L2 Den
theorem len_insS (k : Int) : ∀ ns : List Int, (insS k ns).length ≤ ns.length + 1
  | [] => Nat.le_refl _
  | n :: ns => by
    have := len_insS k ns
    unfold insS
    split
    · simp
    · split
      · simp
      · simp; omega
theorem len_sortSet : ∀ ns : List Int, (sortSet ns).length ≤ ns.length
  | [] => Nat.le_refl _
  | n :: ns => by
    have := len_sortSet ns
    have := len_insS n (sortSet ns)
    simp only [sortSet, List.length_cons]
    omega
section
variable {wb : Wb} {i : Int} {f s : List Int} {mk : Int}
@[simp] theorem tupOf_dS' (ss : List Int) : tupOf (dS ss) = some ((sortSet ss).map .int) := rfl
def halfI (mk x y : Int) : Int := if mk = 1 then (x + (if y > x then y else x)) / 2 else ((if y < x then y else x) + y + 1) / 2
theorem half_of_ev (mk x y : Int) (p : List Int) : D_half_of [.int mk, .int x, .int y] p = .ok (.int (halfI mk x y)) p := by
  have d2 : ∀ z : Int, fDiv (.int z) (.int 2) = some (.int (z / 2)) := fun z => fDiv_int (by decide)
  by_cases h : mk = 1
  · simp [D_half_of, denF, dn_half_of, locOf, mvar, h, d2, halfI]
  · simp [D_half_of, denF, dn_half_of, locOf, mvar, h, d2, halfI]
end
theorem check_stand_ev (A : CA) (wb : Wb) (i : Int) (p : List Int) : D_check_stand A [insW A wb, .int i] p = if 0 ≤ i ∧ i ≤ (wb.marks.length : Int) - 1 then .ok .non p else .err 1 p := by
  have e := check_range_ev i 0 ((wb.marks.length : Int) - 1) p
  by_cases h : 0 ≤ i ∧ i ≤ (wb.marks.length : Int) - 1
  · rw [if_pos h] at e ⊢
    simp [D_check_stand, denF, dn_check_stand, locOf, mvar, e]
  · rw [if_neg h] at e ⊢
    simp [D_check_stand, denF, dn_check_stand, locOf, mvar, e]
end PL
namespace PL
open PySem L2 Den
theorem all_ints (r : List Int) : ∀ d ∈ r.map D.int, ∃ i, d = .int i := fun d h => by
  obtain ⟨i, _, rfl⟩ := List.mem_map.mp h
  exact ⟨i, rfl⟩
theorem whole1 (i : Int) (p : List Int) : D_check_whole [.int i] p = .ok .non p := check_whole_ok _ (all_ints [i]) (by simp) p
theorem whole2 (i j : Int) (p : List Int) : D_check_whole [.int i, .int j] p = .ok .non p := check_whole_ok _ (all_ints [i, j]) (by simp) p
section
variable (A : CA) (wb : Wb)
end
end PL
namespace PL
open PySem L2 Den
section
variable (A : CA) (wb : Wb)
variable {wb}
end
end PL
namespace PL
open PySem L2 Den
section
variable (A : CA) {wb : Wb}
abbrev SR (wb : Wb) (k i : Int) (r : List Int) (o : Option L) : Den.Loc := [some (.dat (insW A wb)), some (.dat (.int k)), some (.dat (dI r)), some (.dat (.int i)), some (.dat (.int wb.marks.length)), o]
end
end PL
namespace PL
open PySem L2 Den
/-- what serves, told by the least and the greatest part -/
def Gd (mk x y P a q : Int) : Prop := if q < a ∨ (a = q ∧ mk = 1) then x ≤ P - a else y ≤ P + q
instance (mk x y P a q : Int) : Decidable (Gd mk x y P a q) := by unfold Gd; exact inferInstance
section
variable {wb : Wb} {i : Int} {f s : List Int} {mk : Int}
end
end PL
namespace PL
open PySem L2 Den
section
variable {wb : Wb} {i : Int} {f s : List Int} {mk : Int}
end
end PL
namespace PL
open PySem L2 Den
theorem pdL_ints (ns : List Int) : pdL (ns.map D.int) = some (ns.map .int) := by
  induction ns with
  | nil => rfl
  | cons n ns ih => simp [pdL, pd, ih]
section
variable (A : CA) {wb : Wb} {i : Int} {f s : List Int} {mk : Int}
end
end PL
namespace PL
open PySem L2 Den
abbrev dd (d : D) : Option L := some (.dat d)
def lowI (r ss : List Int) : Int := match ss.map (rowAt r) with
  | [] => 0
  | n :: ns => minL n ns
def highI (r ss : List Int) : Int := match ss.map (rowAt r) with
  | [] => 0
  | n :: ns => maxL n ns
theorem lowI_is {r ss : List Int} (h : ss ≠ []) : IsLow r ss (lowI r ss) := by
  unfold lowI
  cases ss with
  | nil => exact absurd rfl h
  | cons n ns =>
    obtain ⟨h1, h2⟩ := minL_le (ns.map (rowAt r)) (rowAt r n)
    have hm := minL_mem (ns.map (rowAt r)) (rowAt r n)
    refine ⟨?_, fun x hx => ?_⟩
    · rcases List.mem_cons.mp hm with e | e
      · exact ⟨n, List.mem_cons_self, e.symm⟩
      · obtain ⟨x, hx, e⟩ := List.mem_map.mp e
        exact ⟨x, List.mem_cons_of_mem _ hx, e⟩
    · rcases List.mem_cons.mp hx with rfl | hx
      · exact h1
      · exact h2 _ (List.mem_map_of_mem hx)
theorem highI_is {r ss : List Int} (h : ss ≠ []) : IsHigh r ss (highI r ss) := by
  unfold highI
  cases ss with
  | nil => exact absurd rfl h
  | cons n ns =>
    obtain ⟨h1, h2⟩ := le_maxL (ns.map (rowAt r)) (rowAt r n)
    have hm := maxL_mem (ns.map (rowAt r)) (rowAt r n)
    refine ⟨?_, fun x hx => ?_⟩
    · rcases List.mem_cons.mp hm with e | e
      · exact ⟨n, List.mem_cons_self, e.symm⟩
      · obtain ⟨x, hx, e⟩ := List.mem_map.mp e
        exact ⟨x, List.mem_cons_of_mem _ hx, e⟩
    · rcases List.mem_cons.mp hx with rfl | hx
      · exact h1
      · exact h2 _ (List.mem_map_of_mem hx)
/-- the least of a list -/
def IsLeast (S : List Int) (v : Int) : Prop := v ∈ S ∧ ∀ z ∈ S, v ≤ z
theorem IsLeast.uniq {S T : List Int} {v w : Int} (h : IsLeast S v) (g : IsLeast T w) (e : ∀ z, z ∈ S ↔ z ∈ T) : v = w := by
  have := h.2 w ((e w).mpr g.1)
  have := g.2 v ((e v).mp h.1)
  omega
section
variable {wb : Wb} {i : Int} {f s : List Int} {mk : Int} (A : CA)
theorem Here.ne (V : Valid wb) (h : Here wb i f s mk) (hne : f ≠ []) : s ≠ [] := fun e => by
  have := h.em V
  rw [e] at this
  cases f with
  | nil => exact hne rfl
  | cons => cases this
end
end PL
namespace PL
open PySem L2 Den
/-- all parts of the row are in 0 .. m -/
def Parts (r : List Int) (m : Int) : Prop := ∀ v ∈ r, 0 ≤ v ∧ v ≤ m
instance (r : List Int) (m : Int) : Decidable (Parts r m) := by unfold Parts; exact inferInstance
section
variable (A : CA) (wb : Wb)
theorem state_range_ev (k i P : Int) (p : List Int) : D_check_state_range A [insW A wb, .int k, .int i, .int P] p = if 0 ≤ k ∧ (0 ≤ i ∧ i ≤ (wb.marks.length : Int) - 1) ∧ 0 ≤ P ∧ P ≤ k then .ok .non p else .err 1 p := by
  have e1 := check_least_ev k 0 p
  have e2 := check_stand_ev A wb i p
  have e3 := check_range_ev P 0 k p
  unfold D_check_state_range
  rw [denF_ev (by rfl)]
  by_cases c0 : 0 ≤ k
  · rw [if_pos c0] at e1
    by_cases c1 : 0 ≤ i ∧ i ≤ (wb.marks.length : Int) - 1
    · rw [if_pos c1] at e2
      by_cases c2 : 0 ≤ P ∧ P ≤ k
      · rw [if_pos c2] at e3
        rw [if_pos ⟨c0, c1, c2⟩]
        simp [dn_check_state_range, b_check_state_range_1, b_check_state_range_2, b_check_state_range_3, locOf, mvar, e1, e2, e3]
      · rw [if_neg c2] at e3
        rw [if_neg fun z => c2 z.2.2]
        simp [dn_check_state_range, b_check_state_range_1, b_check_state_range_2, b_check_state_range_3, locOf, mvar, e1, e2, e3]
    · rw [if_neg c1] at e2
      rw [if_neg fun z => c1 z.2.1]
      simp [dn_check_state_range, b_check_state_range_1, b_check_state_range_2, b_check_state_range_3, locOf, mvar, e1, e2]
  · rw [if_neg c0] at e1
    rw [if_neg fun z => c0 z.1]
    simp [dn_check_state_range, b_check_state_range_1, locOf, mvar, e1]
/-- a right row and a right state -/
def RowState (wb : Wb) (k : Int) (r : List Int) (i P : Int) : Prop := 0 ≤ k ∧ (r.length : Int) = wb.marks.length ∧ Parts r (k + 1) ∧ (0 ≤ i ∧ i ≤ (wb.marks.length : Int) - 1) ∧ 0 ≤ P ∧ P ≤ k
instance (k : Int) (r : List Int) (i P : Int) : Decidable (RowState wb k r i P) := by unfold RowState; exact inferInstance
end
end PL
namespace PL
open PySem L2 Den
theorem rowAt_lt {wb : Wb} {i : Int} {f s : List Int} {mk : Int} (V : Valid wb) (h : Here wb i f s mk) {r : List Int} (hl : r.length = wb.marks.length) {z : Int} (hz : z ∈ f) : atI (r.map D.int) z = some (.int (rowAt r z)) := by
  have := h.fin V z hz
  exact row_at this.1 (by omega)
theorem rowAt_lt2 {wb : Wb} {i : Int} {f s : List Int} {mk : Int} (V : Valid wb) (h : Here wb i f s mk) {r : List Int} (hl : r.length = wb.marks.length) {z : Int} (hz : z ∈ s) : atI (r.map D.int) z = some (.int (rowAt r z)) := by
  have := h.sin V z hz
  exact row_at this.1 (by omega)
/-- the told bid of the first hand -/
def bid1 (mk y P : Int) : Int := max 0 (y - P - if mk = 1 then 1 else 0)
section
variable {wb : Wb} {i : Int} {f s : List Int} {mk : Int} (A : CA)
end
section
variable (A : CA)
end
section
variable {wb : Wb} {i : Int} {f s : List Int} {mk : Int}
theorem enc0 (wb : Wb) : atI (encW wb) 0 = some (.lst (wb.first.map dI)) := by simp [encW]
theorem enc1 (wb : Wb) : atI (encW wb) 1 = some (.lst (wb.second.map dI)) := by simp [encW]
theorem enc2 (wb : Wb) : atI (encW wb) 2 = some (dI wb.marks) := by simp [encW]
theorem enc3 (wb : Wb) : atI (encW wb) 3 = some (.lst (wb.dues.map dDue)) := by simp [encW]
theorem law_low_ev (V : Valid wb) (h : Here wb i f s mk) (hne : f ≠ []) {r : List Int} (hl : r.length = wb.marks.length) (p : List Int) : D_law_low [.lst (encW wb), dI r, .int i] p = .ok (.int (lowI r f)) p := by
  have hf60 := (V.s1 f (List.mem_of_getElem? h.hf)).1
  obtain ⟨v, e, hv⟩ := minL_low (r := r) hne
  have c1 : c_law_low_1 [dd (.lst (encW wb)), dd (dI r), dd (.int i), none] p = .ok (f.map fun z => .int (rowAt r z)) p := by
    unfold c_law_low_1
    rw [mcomp_ev (ds := f.map D.int) (p' := p) (by simp [mvar, enc0, h.f2]) (by rw [List.length_map]; omega)]
    exact comp_mapL (by simp) D.int (fun z => .int (rowAt r z)) fun z hz => by simp [mvar, rowAt_lt V h hl hz]
  unfold D_law_low
  rw [denF_ev (by rfl)]
  simp [dn_law_low, locOf, c1, e, hv.uniq (lowI_is hne)]
theorem law_high_ev (V : Valid wb) (h : Here wb i f s mk) (hne : s ≠ []) {r : List Int} (hl : r.length = wb.marks.length) (p : List Int) : D_law_high [.lst (encW wb), dI r, .int i] p = .ok (.int (highI r s)) p := by
  have hf60 := (V.s2 s (List.mem_of_getElem? h.hs)).1
  obtain ⟨v, e, hv⟩ := maxL_high (r := r) hne
  have c1 : c_law_high_1 [dd (.lst (encW wb)), dd (dI r), dd (.int i), none] p = .ok (s.map fun z => .int (rowAt r z)) p := by
    unfold c_law_high_1
    rw [mcomp_ev (ds := s.map D.int) (p' := p) (by simp [mvar, enc1, h.s2]) (by rw [List.length_map]; omega)]
    exact comp_mapL (by simp) D.int (fun z => .int (rowAt r z)) fun z hz => by simp [mvar, rowAt_lt2 V h hl hz]
  unfold D_law_high
  rw [denF_ev (by rfl)]
  simp [dn_law_high, locOf, c1, e, hv.uniq (highI_is hne)]
theorem law_price_ev (V : Valid wb) (h : Here wb i f s mk) (hne : f ≠ []) {r : List Int} (hl : r.length = wb.marks.length) (k : Int) (p : List Int) : D_law_price [.lst (encW wb), .int k, dI r, .int i] p = .ok (.int (halfI mk (lowI r f) (highI r s))) p := by
  have e1 := law_low_ev V h hne hl p
  have e2 := law_high_ev V h (h.ne V hne) hl p
  have hn0 : ((f.length : Int) = 0) = False := eq_false (by have := List.length_pos_iff.mpr hne; omega)
  have m2 : fIx (dI wb.marks) (.int i) = some (.int mk) := h.m1
  unfold D_law_price
  rw [denF_ev (by rfl)]
  have T1 : b_law_price_1 [dd (.lst (encW wb)), dd (.int k), dd (dI r), dd (.int i)] p = .nx [dd (.lst (encW wb)), dd (.int k), dd (dI r), dd (.int i)] p := by
    simp only [b_law_price_1, sif_ev, mtest_ev, op2_ev, opn_ev, acons_ev, anil_ev, mret_ev, mvar, List.getElem?_cons_succ, List.getElem?_cons_zero, bind_ok, fIx_lst, enc0, h.f2, mlift_some, fLen_dI, fEq_int, boolOf_bl, toO_ok, hn0, decide_false, Bool.false_eq_true, if_false, sskip_ev]
  show outR (dn_law_price [dd (.lst (encW wb)), dd (.int k), dd (dI r), dd (.int i)] p) = _
  unfold dn_law_price
  rw [seq_nx T1]
  simp only [b_law_price_2, sret_ev, mcall_ev, acons_ev, op2_ev, anil_ev, mret_ev, mvar, List.getElem?_cons_succ, List.getElem?_cons_zero, bind_ok, fIx_lst, enc2, mlift_some, m2, e1, e2, half_of_ev, toO_ok, outR_rt]
end
end PL
namespace PL
open PySem L2 Den
section
variable (A : CA) {wb : Wb}
end
end PL
namespace PL
open PySem L2 Den
/-- the told bid serves, no lesser one does -/
theorem bid1_serves {mk x y k P : Int} (hm : mk = 1 ∨ mk = 2) (hx0 : 0 ≤ x) (hy0 : 0 ≤ y) (hyk : y ≤ k + 1) (h0 : 0 ≤ P) (hk : P ≤ k) (h : halfI mk x y ≤ P) :
    bid1 mk y P ≤ P ∧ (∀ q, 0 ≤ q → q ≤ k - P → Gd mk x y P (bid1 mk y P) q) ∧ (∀ a, 0 ≤ a → a < bid1 mk y P → ¬ ∀ q, 0 ≤ q → q ≤ k - P → Gd mk x y P a q) ∧ (0 < bid1 mk y P ∨ mk = 1 → x ≤ P - bid1 mk y P) := by
  unfold halfI at h
  rcases hm with rfl | rfl
  · simp only [if_true] at h
    have hb : bid1 1 y P = max 0 (y - P - 1) := by unfold bid1; simp
    refine ⟨?_, fun q q0 q1 => ?_, fun a a0 a1 hall => ?_, fun _ => ?_⟩
    · split at h <;> omega
    · unfold Gd
      split
      · split at h <;> omega
      · omega
    · have := hall (a + 1) (by omega) (by omega)
      unfold Gd at this
      rw [if_neg (by omega)] at this
      omega
    · split at h <;> omega
  · rw [if_neg (by decide)] at h
    have hb : bid1 2 y P = max 0 (y - P) := by unfold bid1; simp
    refine ⟨?_, fun q q0 q1 => ?_, fun a a0 a1 hall => ?_, fun hc => ?_⟩
    · split at h <;> omega
    · unfold Gd
      split
      · split at h <;> omega
      · omega
    · have := hall a a0 (by omega)
      unfold Gd at this
      rw [if_neg (by omega)] at this
      omega
    · have : 0 < bid1 2 y P := hc.elim id fun z => by cases z
      split at h <;> omega
section
variable (A : CA) {wb : Wb} {i : Int} {f s : List Int} {mk : Int}
abbrev ST (A : CA) (wb : Wb) (k i c : Int) (r : List Int) (o6 o7 o8 o9 o10 o11 o12 : Option L) : Den.Loc := [dd (.lst (encW wb)), dd (insW A wb), dd (.int k), dd (dI r), dd (.int i), dd (.int c), o6, o7, o8, o9, o10, o11, o12]
end
end PL
namespace PL
open PySem L2 Den
section
variable {wb : Wb} {i : Int} {f s : List Int} {mk : Int} (A : CA)
def bgt (mk P a b : Int) : List Int := if b < a ∨ (a = b ∧ mk = 1) then [1, P - a] else [2, P + b]
theorem bought_ev (mk P a b : Int) (p : List Int) : D_bought [.int mk, .int P, .int a, .int b] p = .ok (.tup ((bgt mk P a b).map .int)) p := by
  unfold D_bought bgt
  rw [denF_ev (by rfl)]
  by_cases h1 : b < a
  · simp [dn_bought, b_bought_1, b_bought_2, locOf, mvar, h1]
  · by_cases h2 : a = b
    · by_cases h3 : mk = 1
      · simp [dn_bought, b_bought_1, b_bought_2, locOf, mvar, h1, h2, h3]
      · simp [dn_bought, b_bought_1, b_bought_2, locOf, mvar, h1, h2, h3]
    · simp [dn_bought, b_bought_1, b_bought_2, locOf, mvar, h1, h2]
/-- what outcome asks of its numbers -/
def OutOk (wb : Wb) (i P a b : Int) : Prop := (0 ≤ i ∧ i ≤ (wb.marks.length : Int) - 1) ∧ 0 ≤ P ∧ (0 ≤ a ∧ a ≤ P) ∧ 0 ≤ b
instance (i P a b : Int) : Decidable (OutOk wb i P a b) := by unfold OutOk; exact inferInstance
end
end PL
namespace PL
open PySem L2 Den
def dueI (d : Due) (k : Int) : Int := match d with
  | none => k + 1
  | some (true, x) => min x (k + 1)
  | some (false, x) => max 0 (k + 1 - x)
theorem fMax2_mx (a b : Int) : fMax2 [.int a, .int b] = some (.int (max a b)) := by
  show some (D.int (if b > a then b else a)) = _
  congr 2; omega
theorem fMin2_mn (a b : Int) : fMin2 [.int a, .int b] = some (.int (min a b)) := by
  show some (D.int (if b < a then b else a)) = _
  congr 2; omega
theorem strEq_less : fEq (.str "less") (.str "chips") = some (.bl false) := by rw [fEq_str]; rfl
theorem strEq_chips : fEq (.str "chips") (.str "chips") = some (.bl true) := by rw [fEq_str]; rfl
theorem due_at_ev (d : Due) (k : Int) (p : List Int) : D_due_at [dDue d, .int k] p = .ok (.int (dueI d k)) p := by
  rcases d with _ | ⟨_ | _, x⟩
  · simp [D_due_at, denF, dn_due_at, b_due_at_1, locOf, mvar, dDue, dueI]
  · simp [D_due_at, denF, dn_due_at, b_due_at_1, b_due_at_2, b_due_at_3, locOf, mvar, dDue, dueI, strEq_less, fMax2_mx, -fMax2_int]
  · simp [D_due_at, denF, dn_due_at, b_due_at_1, b_due_at_2, locOf, mvar, dDue, dueI, strEq_chips, fMin2_mn, -fMin2_int]
theorem one_or_two_ok {m : Int} (h : m = 1 ∨ m = 2) (p : List Int) : D_check_one_or_two [.int m] p = .ok .non p := by
  simp [D_check_one_or_two, denF, dn_check_one_or_two, locOf, mvar, mark_in m h]
theorem inV_no {m : Int} (h : ¬ (m = 1 ∨ m = 2)) : fInB true (.int m) (.tup [.int 1, .int 2]) = some (.bl true) := by
  show some (D.bl (!inV (V.int m) [V.int 1, V.int 2])) = _
  have e1 : ¬ m = 1 := fun z => h (.inl z)
  have e2 : ¬ m = 2 := fun z => h (.inr z)
  have e3 : ¬ 1 = m := fun z => e1 z.symm
  have e4 : ¬ 2 = m := fun z => e2 z.symm
  simp [inV, eqV, e3, e4]
theorem one_or_two_no {m : Int} (h : ¬ (m = 1 ∨ m = 2)) (p : List Int) : D_check_one_or_two [.int m] p = .err 1 p := by
  simp [D_check_one_or_two, denF, dn_check_one_or_two, locOf, mvar, inV_no h]
theorem whole3 (i j k : Int) (p : List Int) : D_check_whole [.int i, .int j, .int k] p = .ok .non p := check_whole_ok _ (all_ints [i, j, k]) (by simp) p
section
variable (A : CA) {wb : Wb}
@[simp] theorem f_dues : fFld A.Web "_dues" (insW A wb) = some (.tup (wb.dues.map dDue)) := by
  unfold insW
  rw [fld_ins]
  refine (lk_ne (by decide +kernel)).trans ?_
  refine (lk_ne (by decide +kernel)).trans ?_
  refine (lk_ne (by decide +kernel)).trans ?_
  refine (lk_ne (by decide +kernel)).trans ?_
  exact lk_eq
theorem dues_at_ev (V : Valid wb) (k : Int) (p : List Int) : D_dues_at A [insW A wb, .int k] p = .ok (.tup (wb.dues.map fun d => .int (dueI d k))) p := by
  have n2 := V.n2
  have l3 := V.l3
  have e : c_dues_at_1 A [dd (insW A wb), dd (.int k), none] p = .ok (wb.dues.map fun d => .int (dueI d k)) p := by
    unfold c_dues_at_1
    rw [mcomp_ev (ds := wb.dues.map dDue) (p' := p) (by simp [mvar]) (by rw [List.length_map]; omega)]
    exact comp_mapL (by simp) dDue (fun d => .int (dueI d k)) fun d _ => by simp [mvar, due_at_ev]
  simp [D_dues_at, denF, dn_dues_at, locOf, e]
/-- the price of a stand -/
def prI (wb : Wb) (k : Int) (r : List Int) (i : Nat) : Int := if (wb.first[i]?.getD []).isEmpty then k + 1 else halfI (wb.marks[i]?.getD 0) (lowI r (wb.first[i]?.getD [])) (highI r (wb.second[i]?.getD []))
/-- the next row -/
def nxI (wb : Wb) (k : Int) (r : List Int) : List Int := (List.range wb.marks.length).map fun i => min (dueI (wb.dues[i]?.getD none) k) (prI wb k r i)
theorem nxI_len (k : Int) (r : List Int) : (nxI wb k r).length = wb.marks.length := by simp [nxI]
theorem nxI_get (k : Int) (r : List Int) {i : Nat} (hi : i < wb.marks.length) : (nxI wb k r)[i]? = some (min (dueI (wb.dues[i]?.getD none) k) (prI wb k r i)) := by
  simp [nxI, hi]
theorem comp2_map {α : Type} {i j : Nat} {e : M D} {l : Den.Loc} (hi : i < l.length) (hj : j < l.length) (g : α → D) (f : Nat → D) {p : List Int} {xs : List α} (h : ∀ (m : Nat) (x : α), xs[m]? = some x → e ((l.set i (some (.dat (.int (m : Int))))).set j (some (.dat (g x)))) p = .ok (f m) p) :
    comp2 i j mtrue e (enumD 0 (xs.map g)) l p = .ok ((List.range xs.length).map f) p := by
  rw [comp2_enum hi hj g (fun m _ => some (f m)) fun m x hx => ?_]
  · congr 1
    rw [List.filterMap_eq_map']
    refine List.ext_getElem? fun m => ?_
    simp only [List.getElem?_map, List.getElem?_zipIdx]
    by_cases hm : m < xs.length
    · simp [hm]
    · simp [hm]
  · have := h m x hx
    unfold turn
    simp only [Nat.zero_add, mbind_ev, mtrue_ev, bind_ok, if_true, this, mret_ev]
/-- the law's web, built by the later text -/
theorem built9_ev (V : Valid wb) (p : List Int) : D_law_built_k09 A [.lst (encW wb)] p = .ok (insW A wb) p := by
  have n2 := V.n2
  have l1 := V.l1
  have l2 := V.l2
  have c1 : c_law_built_k09_2 [dd (.lst (encW wb)), none] p = .ok (wb.first.map dI) p := by
    unfold c_law_built_k09_2
    rw [mcomp_ev (ds := wb.first.map dI) (p' := p) (by simp [mvar, enc0]) (by rw [List.length_map]; omega)]
    exact comp_mapL (by simp) dI dI fun ss hs => by simp [mvar, dI]
  have c2 : c_law_built_k09_1 [dd (.lst (encW wb)), none] p = .ok (wb.second.map dI) p := by
    unfold c_law_built_k09_1
    rw [mcomp_ev (ds := wb.second.map dI) (p' := p) (by simp [mvar, enc1]) (by rw [List.length_map]; omega)]
    exact comp_mapL (by simp) dI dI fun ss hs => by simp [mvar, dI]
  have hz : encG ⟨(false, wb.first.map fun s => (false, s)), (false, wb.second.map fun s => (false, s)), (false, wb.marks), (false, wb.dues.map fun d => (true, d))⟩ = encW wb := by
    have hd : (wb.dues.map fun d => (true, d)).map sqDue = wb.dues.map dDue := by
      rw [List.map_map]
      refine List.map_congr_left fun d _ => ?_
      rcases d with _ | ⟨_ | _, x⟩ <;> rfl
    have hs : ∀ l : List (List Int), (l.map fun s => (false, s)).map sqI = l.map dI := fun l => by
      rw [List.map_map]
      rfl
    simp only [encG, hd, hs]
    rfl
  have hw : Wg.wb ⟨(false, wb.first.map fun s => (false, s)), (false, wb.second.map fun s => (false, s)), (false, wb.marks), (false, wb.dues.map fun d => (true, d))⟩ = wb := by
    simp [Wg.wb, List.map_map, Function.comp_def]
  have hI := Web_init_ev (g := ⟨(false, wb.first.map fun s => (false, s)), (false, wb.second.map fun s => (false, s)), (false, wb.marks), (false, wb.dues.map fun d => (true, d))⟩) (by rw [hw]; exact V.g) A p
  rw [hz, hw] at hI
  have e4 : [D.lst (wb.first.map dI), .lst (wb.second.map dI), .lst (wb.marks.map .int), .lst (wb.dues.map dDue)] = encW wb := rfl
  simp [D_law_built_k09, denF, dn_law_built_k09, locOf, mmake, c1, c2, mvar, enc2, enc3, e4, hI]
  rfl
theorem law_price_all (V : Valid wb) {r : List Int} (hl : r.length = wb.marks.length) (k : Int) {i : Nat} (hi : i < wb.marks.length) (p : List Int) : D_law_price [.lst (encW wb), .int k, dI r, .int i] p = .ok (.int (prI wb k r i)) p := by
  obtain ⟨f, s, mk, h⟩ := here_ex V (i := (i : Int)) (by omega) (by omega)
  have e1 := h.hf
  have e2 := h.hs
  have e3 := h.hm
  rw [Int.toNat_natCast] at e1 e2 e3
  unfold prI
  rw [e1, e2, e3]
  by_cases hne : f = []
  · subst hne
    have := h.f2
    simp [D_law_price, denF, dn_law_price, b_law_price_1, locOf, mvar, enc0, this]
  · rw [law_price_ev V h hne hl k p]
    have : f.isEmpty = false := by cases f with
      | nil => exact absurd rfl hne
      | cons => rfl
    simp [this]
theorem law_next_ev (V : Valid wb) {r : List Int} (hl : r.length = wb.marks.length) (k : Int) (p : List Int) : D_law_next [.lst (encW wb), .int k, dI r] p = .ok (dI (nxI wb k r)) p := by
  have n2 := V.n2
  have l3 := V.l3
  have hrn : rng1 [D.int (r.length : Int)] = some (rngD 0 r.length) := by
    have := rng1_int (n := (r.length : Int)) (by omega)
    rwa [Int.toNat_natCast] at this
  have c1 : c_law_next_1 [dd (.lst (encW wb)), dd (.int k), dd (dI r), none] p = .ok ((nxI wb k r).map .int) p := by
    unfold c_law_next_1
    rw [mcomp_ev (ds := rngD 0 r.length) (p' := p) (by simp [mvar, hrn]) (by rw [rngD_len]; omega)]
    unfold rngD
    rw [comp_mapL (by simp) (fun (i : Nat) => D.int (0 + (i : Int))) (fun i => .int (min (dueI (wb.dues[i]?.getD none) k) (prI wb k r i))) fun i hi => ?_]
    · rw [hl]; unfold nxI; rw [List.map_map]; rfl
    · have hi' : i < wb.marks.length := by rw [← hl]; exact List.mem_range.mp hi
      have e := law_price_all V hl k hi' p
      have hd : i < wb.dues.length := by omega
      have e3 : atI (wb.dues.map dDue) (i : Int) = some (dDue wb.dues[i]) := atI_nat (by rw [List.getElem?_map, List.getElem?_eq_getElem hd]; rfl)
      simp [mvar, enc3, e3, due_at_ev, e, hd, fMin2_mn, -fMin2_int]
  unfold D_law_next
  rw [denF_ev (by rfl)]
  show outR (dn_law_next [dd (.lst (encW wb)), dd (.int k), dd (dI r), none] p) = _
  simp only [dn_law_next, sret_ev, mfreeze_ev, c1, bind_ok, toO_ok, outR_rt]
  rfl
end
end PL
namespace PL
open PySem L2 Den
section
variable (A : CA) {wb : Wb} {i : Int} {f s : List Int} {mk : Int}
end
end PL
namespace PL
open PySem L2 Den
section
variable (A : CA) {wb : Wb} {i : Int} {f s : List Int} {mk : Int}
end
end PL
namespace PL
open PySem L2 Den
section
variable {wb : Wb} {i : Int} {f s : List Int} {mk : Int} (A : CA)
end
end PL
namespace PL
open PySem L2 Den
section
variable {wb : Wb} {i : Int} {f s : List Int} {mk : Int} (A : CA)
end
end PL
namespace PL
open PySem L2 Den
theorem pow30 : fPow (.int 10) (.int 30) = some (.int 1000000000000000000000000000000) := by
  show (if (0 : Int) ≤ 30 ∧ (30 : Int).natAbs ≤ 1000000 ∧ (10 : Int).natAbs < 18446744073709551616 then some (D.int (10 ^ (30 : Int).toNat)) else none) = _
  rw [if_pos ⟨by decide, by decide, by decide⟩]
  rfl
section
variable (A : CA) {wb : Wb}
theorem whole_b (b : Bool) (p : List Int) : D_check_whole [.bl b] p = .err 0 p := check_whole_no _ (by simp) p 0 (.bl b) .bl rfl rfl rfl fun i hi => absurd hi (Nat.not_lt_zero i)
end
end PL
namespace PL
open PySem L2 Den
def RowLe (r r' : List Int) : Prop := ∀ i : Nat, r[i]?.getD 0 ≤ r'[i]?.getD 0
theorem RowLe.at {r r' : List Int} (h : RowLe r r') (x : Int) : rowAt r x ≤ rowAt r' x := h x.toNat
theorem lowI_mono {r r' : List Int} (h : RowLe r r') (f : List Int) : lowI r f ≤ lowI r' f := by
  by_cases hf : f = []
  · subst hf; exact Int.le_refl _
  · obtain ⟨⟨x, hx, e⟩, _⟩ := lowI_is (r := r') hf
    rw [← e]
    exact Int.le_trans ((lowI_is hf).2 x hx) (h.at x)
theorem highI_mono {r r' : List Int} (h : RowLe r r') (f : List Int) : highI r f ≤ highI r' f := by
  by_cases hf : f = []
  · subst hf; exact Int.le_refl _
  · obtain ⟨⟨x, hx, e⟩, _⟩ := highI_is (r := r) hf
    rw [← e]
    exact Int.le_trans (h.at x) ((highI_is hf).2 x hx)
theorem halfI_mono {m x y x' y' : Int} (hx : x ≤ x') (hy : y ≤ y') : halfI m x y ≤ halfI m x' y' := by
  unfold halfI
  split
  · split <;> split <;> omega
  · split <;> split <;> omega
theorem prI_mono {r r' : List Int} (h : RowLe r r') (wb : Wb) (k : Int) (i : Nat) : prI wb k r i ≤ prI wb k r' i := by
  unfold prI
  split
  · exact Int.le_refl _
  · exact halfI_mono (lowI_mono h _) (highI_mono h _)
theorem nxI_getD (wb : Wb) (k : Int) (r : List Int) (i : Nat) : (nxI wb k r)[i]?.getD 0 = if i < wb.marks.length then min (dueI (wb.dues[i]?.getD none) k) (prI wb k r i) else 0 := by
  by_cases hi : i < wb.marks.length
  · rw [nxI_get k r hi, if_pos hi]; rfl
  · rw [if_neg hi, List.getElem?_eq_none (by rw [nxI_len]; omega)]; rfl
theorem nxI_mono {r r' : List Int} (h : RowLe r r') (wb : Wb) (k : Int) : RowLe (nxI wb k r) (nxI wb k r') := fun i => by
  rw [nxI_getD, nxI_getD]
  split
  · have := prI_mono h wb k i; omega
  · exact Int.le_refl _
end PL
namespace PL
open PySem L2 Den
theorem rngN {n : Nat} (h : n ≤ 1000) : rng1 [D.int (n : Int)] = some (rngD 0 n) := by
  have := rng1_int (n := (n : Int)) (by omega)
  rwa [Int.toNat_natCast] at this
section
variable (A : CA) {wb : Wb}
end
end PL
namespace PL
open PySem L2 Den
abbrev lI (r : List Int) : D := .lst (r.map .int)
abbrev tI (r : List Int) : D := .tup (r.map .int)
theorem eqvAll_dec : ∀ r s : List Int, PyData.eqvAll (r.map .int) (s.map .int) = decide (r = s)
  | [], [] => by simp [PyData.eqvAll]
  | [], _ :: _ => by simp [PyData.eqvAll]
  | _ :: _, [] => by simp [PyData.eqvAll]
  | n :: r, m :: s => by
    have h := eqvAll_dec r s
    simp only [List.map_cons, PyData.eqvAll, PyData.eqv, h]
    by_cases e : n = m <;> by_cases e2 : r = s <;> simp [e, e2]
theorem eqv_lI (r s : List Int) (neg : Bool) : fEqD neg (lI r) (lI s) = some (.bl (if neg then !decide (r = s) else decide (r = s))) := by
  have e : ∀ r : List Int, pd (lI r) = some (.list (r.map .int)) := fun r => by simp [pd, pdL_ints]
  unfold fEqD
  rw [e, e]
  dsimp only
  rw [if_pos (by simp only [PyData.depth, depth_ints]; omega)]
  simp [PyData.eqv, eqvAll_dec]
theorem eqv_tI (r s : List Int) (neg : Bool) : fEqD neg (tI r) (tI s) = some (.bl (if neg then !decide (r = s) else decide (r = s))) := by
  have e : ∀ r : List Int, pd (tI r) = some (.tuple (r.map .int)) := fun r => by simp [pd, pdL_ints]
  unfold fEqD
  rw [e, e]
  dsimp only
  rw [if_pos (by simp only [PyData.depth, depth_ints]; omega)]
  simp [PyData.eqv, eqvAll_dec]
@[simp] theorem eq_lI (r s : List Int) : fEqD false (lI r) (lI s) = some (.bl (decide (r = s))) := by rw [eqv_lI]; rfl
@[simp] theorem ne_lI (r s : List Int) : fEqD true (lI r) (lI s) = some (.bl (!decide (r = s))) := by rw [eqv_lI]; rfl
@[simp] theorem eq_tI (r s : List Int) : fEqD false (tI r) (tI s) = some (.bl (decide (r = s))) := by rw [eqv_tI]; rfl
@[simp] theorem ne_tI (r s : List Int) : fEqD true (tI r) (tI s) = some (.bl (!decide (r = s))) := by rw [eqv_tI]; rfl
theorem rowAt_nat (r : List Int) (i : Nat) : rowAt r (i : Int) = r[i]?.getD 0 := by simp [rowAt]
theorem atI_row {r : List Int} {i : Nat} (h : i < r.length) : atI (r.map D.int) (i : Int) = some (.int (r[i]?.getD 0)) := atI_nat (by rw [List.getElem?_map, List.getElem?_eq_getElem h]; rfl)
theorem sappend_ev {i : Nat} {a : M D} {l : Den.Loc} {p : List Int} {ds : List D} (h : l[i]? = some (some (.cell ds))) (hl : ds.length < 1000) : sappend i a l p = (a l p).toO l fun x p' => .nx (l.set i (some (.cell (ds ++ [x])))) p' := by
  unfold sappend
  rw [h]
  dsimp only
  rw [if_pos hl, sbind_ev]
end PL
namespace PL
open PySem L2 Den
def insV (A : CA) (ns : List Int) : D := .ins A.Verdict ["_faults"] [tI ns]
section
variable (A : CA)
theorem Verdict_ev {d : D} {ns : List Int} (hd : seqOf d = some (ns.map .int)) (h0 : ∀ n ∈ ns, 0 ≤ n) (hl : ns.length < 64) (p : List Int) : D_Verdict_init A [d] p = .ok (["_faults"], [tI (sortSet ns)]) p := by
  have e := whole_list_ok hd (all_ints ns) (by rw [List.length_map]; omega) p
  have hn : ¬ ∃ n ∈ ns, n < 0 := fun ⟨n, h, z⟩ => by have := h0 n h; omega
  unfold D_Verdict_init
  simp only [e, bind_ok, intsOf_map]
  rw [if_neg hn, if_pos hl]
theorem mmakeV {d : D} {ns : List Int} {a : M (List D)} {l : Den.Loc} {p p' : List Int} (ha : a l p = .ok [d] p') (hd : seqOf d = some (ns.map .int)) (h0 : ∀ n ∈ ns, 0 ≤ n) (hl : ns.length < 64) : mmake A.Verdict (D_Verdict_init A) a l p = .ok (insV A (sortSet ns)) p' := by
  unfold mmake
  rw [mbind_ok ha, Verdict_ev A hd h0 hl]
  rfl
@[simp] theorem f_faults (ns : List Int) : fFld A.Verdict "_faults" (insV A ns) = some (tI ns) := by
  unfold insV
  rw [fld_ins]
  exact lk_eq
@[simp] theorem it_faults (ns : List Int) : itOwn A.Verdict "_faults" (insV A ns) = some (ns.map .int) := by
  have e : ([(("_faults" : Str), tI ns)] : List (Str × D)).lookup ("_faults" : Str) = some (tI ns) := lk_eq
  show (if A.Verdict = A.Verdict then (([(("_faults" : Str), tI ns)] : List (Str × D)).lookup ("_faults" : Str)).bind tupOf else none) = _
  rw [if_pos rfl, e]
  rfl
@[simp] theorem isV (ns : List Int) : fIsC A.Verdict [insV A ns, .cls A.Verdict] = some (.bl true) := by
  show (if A.Verdict = A.Verdict then (if A.Verdict = A.Verdict then some (D.bl true) else none) else none) = _
  rw [if_pos rfl, if_pos rfl]
end
end PL
namespace PL
open PySem L2 Den
def sumI (r : List Int) : Int := r.sum
theorem sum_le : ∀ {r s : List Int}, r.length = s.length → RowLe r s → sumI r ≤ sumI s ∧ (r ≠ s → sumI r < sumI s)
  | [], [], _, _ => ⟨Int.le_refl _, fun h => absurd rfl h⟩
  | [], _ :: _, h, _ => by simp at h
  | _ :: _, [], h, _ => by simp at h
  | a :: r, b :: s, h, hle => by
    have h0 : a ≤ b := by simpa using hle 0
    have ih := sum_le (r := r) (s := s) (by simpa using h) fun i => by simpa using hle (i + 1)
    have e1 : sumI (a :: r) = a + sumI r := by simp [sumI]
    have e2 : sumI (b :: s) = b + sumI s := by simp [sumI]
    rw [e1, e2]
    refine ⟨by omega, fun hne => ?_⟩
    by_cases e : r = s
    · subst e
      have : a ≠ b := fun z => hne (by rw [z])
      omega
    · have := ih.2 e
      omega
theorem sum_nonneg : ∀ {r : List Int}, (∀ x ∈ r, 0 ≤ x) → 0 ≤ sumI r
  | [], _ => Int.le_refl _
  | a :: r, h => by
    have := sum_nonneg (r := r) fun x hx => h x (List.mem_cons_of_mem _ hx)
    have := h a List.mem_cons_self
    have e1 : sumI (a :: r) = a + sumI r := by simp [sumI]
    omega
theorem sum_most : ∀ {r : List Int} {K : Int}, (∀ x ∈ r, x ≤ K) → sumI r ≤ r.length * K
  | [], _, _ => by simp [sumI]
  | a :: r, K, h => by
    have h1 := sum_most (r := r) (K := K) fun x hx => h x (List.mem_cons_of_mem _ hx)
    have := h a List.mem_cons_self
    have e1 : sumI (a :: r) = a + sumI r := by simp [sumI]
    rw [e1, List.length_cons, show ((r.length + 1 : Nat) : Int) * K = r.length * K + K by rw [Int.natCast_add, Int.add_mul]; simp]
    omega
def duesI (wb : Wb) (k : Int) : List Int := wb.dues.map fun d => dueI d k
def Lower (wb : Wb) (k : Int) (r : List Int) : Prop := r.length = wb.marks.length ∧ RowLe r (nxI wb k r)
theorem RowLe.refl (r : List Int) : RowLe r r := fun _ => Int.le_refl _
theorem RowLe.trans {r s t : List Int} (a : RowLe r s) (b : RowLe s t) : RowLe r t := fun i => Int.le_trans (a i) (b i)
theorem nxI_due (wb : Wb) (V : Valid wb) (k : Int) (r : List Int) : RowLe (nxI wb k r) (duesI wb k) := fun i => by
  rw [nxI_getD]
  have l3 := V.l3
  split
  · rename_i hi
    have hd : i < wb.dues.length := by omega
    have : (duesI wb k)[i]?.getD 0 = dueI (wb.dues[i]?.getD none) k := by simp [duesI, hd]
    rw [this]
    omega
  · have : (duesI wb k)[i]? = none := List.getElem?_eq_none (by simp [duesI]; omega)
    rw [this]; exact Int.le_refl _
theorem prI_nonneg {wb : Wb} {k : Int} (k0 : 0 ≤ k) {r : List Int} (h : ∀ x ∈ r, 0 ≤ x) (i : Nat) : 0 ≤ prI wb k r i := by
  have at0 : ∀ x : Int, 0 ≤ rowAt r x := fun x => by
    unfold rowAt
    cases e : r[x.toNat]? with
    | none => exact Int.le_refl _
    | some v => exact h v (List.mem_of_getElem? e)
  have hlo : ∀ ss, 0 ≤ lowI r ss := fun ss => by
    by_cases hs : ss = []
    · subst hs; exact Int.le_refl _
    · obtain ⟨⟨x, _, e⟩, _⟩ := lowI_is (r := r) hs
      rw [← e]; exact at0 x
  have hhi : ∀ ss, 0 ≤ highI r ss := fun ss => by
    by_cases hs : ss = []
    · subst hs; exact Int.le_refl _
    · obtain ⟨⟨x, _, e⟩, _⟩ := highI_is (r := r) hs
      rw [← e]; exact at0 x
  unfold prI
  split
  · omega
  · have a := hlo (wb.first[i]?.getD [])
    have b := hhi (wb.second[i]?.getD [])
    unfold halfI
    split <;> split <;> omega
theorem dueI_range {wb : Wb} (V : Valid wb) {k : Int} (k0 : 0 ≤ k) (i : Nat) : 0 ≤ dueI (wb.dues[i]?.getD none) k ∧ dueI (wb.dues[i]?.getD none) k ≤ k + 1 := by
  cases e : wb.dues[i]? with
  | none => simp [dueI]; omega
  | some d =>
    have := V.du d (List.mem_of_getElem? e)
    rcases d with _ | ⟨_ | _, x⟩
    · simp [dueI]; omega
    · have := this false x rfl
      simp only [Option.getD_some, dueI]; omega
    · have := this true x rfl
      simp only [Option.getD_some, dueI]; omega
theorem nxI_nonneg {wb : Wb} (V : Valid wb) {k : Int} (k0 : 0 ≤ k) {r : List Int} (h : ∀ x ∈ r, 0 ≤ x) : ∀ x ∈ nxI wb k r, 0 ≤ x := fun x hx => by
  obtain ⟨i, hi, rfl⟩ := List.mem_map.mp hx
  have := prI_nonneg (wb := wb) k0 h i
  have := dueI_range V k0 i
  omega
theorem mem_getD {r : List Int} {P : Int → Prop} (h : ∀ i : Nat, i < r.length → P (r[i]?.getD 0)) : ∀ x ∈ r, P x := fun x hx => by
  obtain ⟨i, hi⟩ := List.getElem?_of_mem hx
  have hl := (List.getElem?_eq_some_iff.mp hi).1
  have := h i hl
  rw [hi] at this
  exact this
/-- the stands at which a row is above its next row -/
def overI (wb : Wb) (k : Int) (r : List Int) : List Int := ((List.range r.length).filter fun i => decide ((nxI wb k r)[i]?.getD 0 < r[i]?.getD 0)).map fun i : Nat => (i : Int)
end PL
namespace PL
open PySem L2 Den
section
variable (A : CA) {wb : Wb}
def GoodRow (wb : Wb) (k : Int) (r : List Int) : Prop := ((r.length : Int) = wb.marks.length ∧ Parts r (k + 1)) ∧ overI wb k r = []
instance (wb : Wb) (k : Int) (r : List Int) : Decidable (GoodRow wb k r) := by unfold GoodRow; exact inferInstance
end
end PL
namespace PL
open PySem L2 Den
theorem duesI_len {wb : Wb} (V : Valid wb) (k : Int) : (duesI wb k).length = wb.marks.length := by simp [duesI, V.l3]
theorem duesI_get {wb : Wb} (V : Valid wb) (k : Int) {i : Nat} (hi : i < wb.marks.length) : (duesI wb k)[i]?.getD 0 = dueI (wb.dues[i]?.getD none) k := by
  have : i < wb.dues.length := by rw [V.l3]; exact hi
  simp [duesI, this]
theorem duesI_parts {wb : Wb} (V : Valid wb) {k : Int} (k0 : 0 ≤ k) : Parts (duesI wb k) (k + 1) := mem_getD (P := fun v => 0 ≤ v ∧ v ≤ k + 1) fun i hi => by
  rw [duesI_len V] at hi
  rw [duesI_get V k hi]
  exact dueI_range V k0 i
structure Falls (wb : Wb) (k : Int) (r : List Int) : Prop where
  len : r.length = wb.marks.length
  parts : Parts r (k + 1)
  le : RowLe (nxI wb k r) r
theorem nxI_parts {wb : Wb} (V : Valid wb) {k : Int} (k0 : 0 ≤ k) {r : List Int} (h : ∀ x ∈ r, 0 ≤ x) : Parts (nxI wb k r) (k + 1) := fun x hx => ⟨nxI_nonneg V k0 h x hx, by
  obtain ⟨i, hi, rfl⟩ := List.mem_map.mp hx
  have := dueI_range V k0 i
  omega⟩
theorem falls_next {wb : Wb} (V : Valid wb) {k : Int} (k0 : 0 ≤ k) (r : List Int) (h : Falls wb k r) : Falls wb k (nxI wb k r) := ⟨nxI_len k r, nxI_parts V k0 fun x hx => (h.parts x hx).1, nxI_mono h.le wb k⟩
theorem falls_dues {wb : Wb} (V : Valid wb) {k : Int} (k0 : 0 ≤ k) : Falls wb k (duesI wb k) := ⟨duesI_len V k, duesI_parts V k0, nxI_due wb V k _⟩
theorem turns_many {wb : Wb} {k : Int} (k0 : 0 ≤ k) {r : List Int} (hl : r.length = wb.marks.length) (h : ∀ x ∈ r, x ≤ k + 1) : sumI r < ((wb.marks.length * (k.toNat + 2) + 2 : Nat) : Int) := by
  have h1 := sum_most h
  have h2 : ((wb.marks.length * (k.toNat + 2) + 2 : Nat) : Int) = (wb.marks.length : Int) * (k + 2) + 2 := by
    rw [Int.natCast_add, Int.natCast_mul, Int.natCast_add, Int.toNat_of_nonneg k0]; rfl
  rw [h2, show (wb.marks.length : Int) * (k + 2) = (wb.marks.length : Int) * (k + 1) + wb.marks.length by rw [show k + 2 = (k + 1) + 1 by omega, Int.mul_add (wb.marks.length : Int) (k + 1) 1]; omega]
  rw [hl] at h1
  omega
def upI (r : List Int) (b : Nat → Bool) : List Int := (List.range r.length).map fun i => r[i]?.getD 0 + if b i then 1 else 0
section
variable (wb : Wb) (k : Int) (r : List Int)
def outB (lf : Nat → Bool) (i : Nat) : Bool := lf i && decide (prI wb k (upI r lf) i ≤ r[i]?.getD 0)
def lfB : Nat → Nat → Bool
  | 0 => fun i => decide (r[i]?.getD 0 < dueI (wb.dues[i]?.getD none) k)
  | j + 1 => fun i => lfB j i && !outB wb k r (lfB j) i
def rkB : Nat → Nat → Int
  | 0 => fun _ => 0
  | j + 1 => fun i => if outB wb k r (lfB wb k r j) i then (j : Int) + 1 else rkB j i
end
section
variable {wb : Wb} {k : Int} {r : List Int}
def ranksI (wb : Wb) (k : Int) (r : List Int) : List Int := (List.range r.length).map fun i => rkB wb k r r.length i
end
end PL
namespace PL
open PySem L2 Den
section
variable (A : CA) {wb : Wb}
end
end PL
namespace PL
open PySem L2 Den
section
variable (A : CA) {wb : Wb}
end
end PL
namespace PL
open PySem L2 Den
end PL
namespace PL
open PySem L2 Den
section
variable (A : CA) {wb : Wb}
end
end PL
namespace PL
open PySem L2 Den
/-- the stands below n for which b holds -/
def setI (n : Nat) (b : Nat → Bool) : List Int := ((List.range n).filter b).map fun i : Nat => (i : Int)
theorem setI_congr {n : Nat} {b c : Nat → Bool} (h : ∀ i < n, b i = c i) : setI n b = setI n c := by
  unfold setI
  congr 1
  exact List.filter_congr fun i hi => h i (List.mem_range.mp hi)
section
variable {wb : Wb}
end
end PL
namespace PL
open PySem L2 Den
abbrev OI := Option Int
def dO : OI → D
  | none => .non
  | some i => .int i
@[simp] theorem isNon_dO (x : OI) : isNon (dO x) = x.isNone := by cases x <;> rfl
end PL
namespace PL
open PySem L2 Den
section
variable {wb : Wb} {i : Int} {f s : List Int} {mk : Int}
structure HsOk (wb : Wb) (hs : List (List OI)) (b : Nat) : Prop where
  len : hs.length = wb.marks.length
  each : ∀ h ∈ hs, h ≠ [] ∧ h.length ≤ b
end
end PL
namespace PL
open PySem L2 Den
section
variable (A : CA) {wb : Wb}
end
end PL
namespace PL
open PySem L2 Den
section
variable (wb : Wb)
/-- whether the stand may stay in z -/
def keepB (z : Nat → Bool) (i : Nat) : Bool := ((wb.first[i]?.getD []).all fun x => z x.toNat) && ((wb.first[i]?.getD []).isEmpty || decide (wb.marks[i]?.getD 0 = 1) || (wb.second[i]?.getD []).any fun x => z x.toNat)
def noDue (i : Nat) : Bool := (wb.dues[i]?.getD none).isNone
structure Stays (z : Nat → Bool) : Prop where
  sub : ∀ i < wb.marks.length, z i = true → noDue wb i = true
  keep : ∀ i < wb.marks.length, z i = true → keepB wb z i = true
end
section
variable {wb : Wb}
/-- one set is the greatest -/
structure Greatest (wb : Wb) (z : Nat → Bool) : Prop where
  stays : Stays wb z
  most : ∀ y, Stays wb y → ∀ i < wb.marks.length, y i = true → z i = true
theorem Greatest.uniq {z y : Nat → Bool} (a : Greatest wb z) (b : Greatest wb y) : setI wb.marks.length z = setI wb.marks.length y := setI_congr fun i hi => by
  cases e : z i with
  | true => exact (b.most z a.stays i hi e).symm
  | false =>
    cases e2 : y i with
    | false => rfl
    | true => have := a.most y b.stays i hi e2; rw [e] at this; cases this
end
section
variable (A : CA) {wb : Wb}
end
end PL
namespace PL
open PySem L2 Den
section
variable {wb : Wb}
end
end PL
namespace PL
open PySem L2 Den
section
variable {wb : Wb}
end
end PL
namespace PL
open PySem L2 Den
section
variable {wb : Wb}
end
section
variable (A : CA) {wb : Wb}
end
end PL
namespace PL
open PySem L2 Den
@[simp] theorem f_gd (A : CA) (wb : Wb) : fFld A.Web "_greatest_due" (insW A wb) = some (gdD wb) := by
  unfold insW
  rw [fld_ins]
  refine (lk_ne (by decide +kernel)).trans ?_
  refine (lk_ne (by decide +kernel)).trans ?_
  refine (lk_ne (by decide +kernel)).trans ?_
  refine (lk_ne (by decide +kernel)).trans ?_
  refine (lk_ne (by decide +kernel)).trans ?_
  refine (lk_ne (by decide +kernel)).trans ?_
  refine (lk_ne (by decide +kernel)).trans ?_
  exact lk_eq
end PL
namespace PL
open PySem L2 Den
section
variable {wb : Wb}
end
end PL
namespace PL
open PySem L2 Den
def lineS (n : Nat) : List (List Int) := [] :: ((List.range (n - 1)).map fun j : Nat => [(1 : Int) + (j : Int) - 1, 1 + (j : Int) + 1]) ++ [[]]
def lineW (n : Nat) (mk : Int) : Wb := ⟨lineS n, lineS n, List.replicate (n + 1) mk, some (true, 0) :: List.replicate n none⟩
theorem lineS_len {n : Nat} (h : 1 ≤ n) : (lineS n).length = n + 1 := by
  simp [lineS]
  omega
theorem lineS_in {n : Nat} (h : 1 ≤ n) : ∀ ss ∈ lineS n, ss.length < 60 ∧ ∀ x ∈ ss, 0 ≤ x ∧ x < ((n + 1 : Nat) : Int) := fun ss hs => by
  unfold lineS at hs
  rcases List.mem_append.mp hs with hs | hs
  · rcases List.mem_cons.mp hs with rfl | hs
    · exact ⟨by simp, fun x hx => by cases hx⟩
    · obtain ⟨j, hj, rfl⟩ := List.mem_map.mp hs
      have hj := List.mem_range.mp hj
      refine ⟨by simp, fun x hx => ?_⟩
      rcases List.mem_cons.mp hx with rfl | hx
      · omega
      · rw [List.mem_singleton.mp hx]; omega
  · rw [List.mem_singleton.mp hs]
    exact ⟨by simp, fun x hx => by cases hx⟩
theorem lineW_valid {n : Nat} (h1 : 1 ≤ n) (h2 : n ≤ 59) {mk : Int} (hm : mk = 1 ∨ mk = 2) : Valid (lineW n mk) := by
  have hl : (lineW n mk).marks.length = n + 1 := by simp [lineW]
  refine ⟨by omega, by omega, by rw [hl]; exact lineS_len h1, by rw [hl]; exact lineS_len h1, by rw [hl]; simp [lineW], fun ss hs => by rw [hl]; exact lineS_in h1 ss hs, fun ss hs => by rw [hl]; exact lineS_in h1 ss hs, fun i a b ha hb => ?_, fun m hm' => ?_, fun d hd b x e => ?_⟩
  · have : (lineS n)[i]? = some a := ha
    have hb : (lineS n)[i]? = some b := hb
    rw [this] at hb
    cases hb
    rfl
  · rw [List.eq_of_mem_replicate hm']; exact hm
  · rcases List.mem_cons.mp hd with rfl | hd
    · cases e; omega
    · rw [List.eq_of_mem_replicate hd] at e; cases e
/-- the lists that the method hands on -/
def lineG (n : Nat) (mk : Int) : Wg := ⟨(false, (lineS n).map fun s => (false, s)), (false, (lineS n).map fun s => (false, s)), (false, List.replicate (n + 1) mk), (false, (some (true, 0) :: List.replicate n none).map fun d => (true, d))⟩
theorem lineG_wb (n : Nat) (mk : Int) : (lineG n mk).wb = lineW n mk := by
  simp [lineG, Wg.wb, lineW, List.map_map, Function.comp_def]
theorem lineG_valid {n : Nat} (h1 : 1 ≤ n) (h2 : n ≤ 59) {mk : Int} (hm : mk = 1 ∨ mk = 2) : ValidG (lineG n mk).wb := by
  rw [lineG_wb]
  have V := lineW_valid h1 h2 hm
  exact ⟨V.n1, V.n2, V.l1, V.l2, V.l3, fun ss hs => ⟨by have := (V.s1 ss hs).1; omega, (V.s1 ss hs).2⟩, fun ss hs => ⟨by have := (V.s2 ss hs).1; omega, (V.s2 ss hs).2⟩, V.both, V.mks, fun d hd b x e => by have := V.du d hd b x e; omega⟩
theorem check_plain_ev (n mk e : Int) (p : List Int) : D_check_plain [.int n, .int mk, .int e] p = if 1 ≤ n then (if mk = 1 ∨ mk = 2 then (if n + e ≤ 60 then .ok .non p else .err 3 p) else .err 1 p) else .err 1 p := by
  have e1 := whole2 n mk p
  have e2 := check_least_ev n 1 p
  have e4 := check_most_ev (n + e) 60 p
  unfold D_check_plain
  rw [denF_ev (by rfl)]
  show outR (dn_check_plain [dd (.int n), dd (.int mk), dd (.int e)] p) = _
  by_cases c1 : 1 ≤ n
  · rw [if_pos c1] at e2 ⊢
    by_cases c2 : mk = 1 ∨ mk = 2
    · have e3 := one_or_two_ok c2 p
      rw [if_pos c2]
      by_cases c3 : n + e ≤ 60
      · rw [if_pos c3] at e4 ⊢
        simp [dn_check_plain, b_check_plain_1, b_check_plain_2, b_check_plain_3, b_check_plain_4, mvar, e1, e2, e3, e4]
      · rw [if_neg c3] at e4 ⊢
        simp [dn_check_plain, b_check_plain_1, b_check_plain_2, b_check_plain_3, b_check_plain_4, mvar, e1, e2, e3, e4]
    · have e3 := one_or_two_no c2 p
      rw [if_neg c2]
      simp [dn_check_plain, b_check_plain_1, b_check_plain_2, b_check_plain_3, mvar, e1, e2, e3]
  · rw [if_neg c1] at e2 ⊢
    simp [dn_check_plain, b_check_plain_1, b_check_plain_2, mvar, e1, e2]
theorem web_line_ev (A : CA) {n : Nat} (h1 : 1 ≤ n) (h2 : n ≤ 59) {mk : Int} (hm : mk = 1 ∨ mk = 2) (p : List Int) : D_Web_line A [.cls A.Web, .int (n : Int), .int mk] p = .ok (insW A (lineW n mk)) p := by
  have e1 := check_plain_ev (n : Int) mk 1 p
  rw [if_pos (by omega), if_pos hm, if_pos (by omega)] at e1
  show denD 3 6 (D.int 1) (dn_Web_line A) _ p = _
  unfold denD
  rw [if_neg (by simp), denF_ev (by rfl)]
  show outR (dn_Web_line A [dd (.cls A.Web), dd (.int (n : Int)), dd (.int mk), none, none, none] p) = _
  have T1 : b_Web_line_1 [dd (.cls A.Web), dd (.int (n : Int)), dd (.int mk), none, none, none] p = .nx [dd (.cls A.Web), dd (.int (n : Int)), dd (.int mk), none, none, none] p := by
    simp [b_Web_line_1, mvar, e1]
  have c1 : c_Web_line_1 [dd (.cls A.Web), dd (.int (n : Int)), dd (.int mk), none, none, none] p = .ok (((List.range (n - 1)).map fun j : Nat => [(1 : Int) + (j : Int) - 1, 1 + (j : Int) + 1]).map dI) p := by
    unfold c_Web_line_1
    have er : rng2 [.int 1, .int (n : Int)] = some (rngD 1 (n - 1)) := by
      rw [rng2_int (by decide) (by omega)]
      congr 2
      omega
    rw [mcomp_ev (ds := rngD 1 (n - 1)) (p' := p) (by simp [mvar, er]) (by rw [rngD_len]; omega)]
    unfold rngD
    rw [comp_mapL (by simp) (fun j : Nat => D.int (1 + (j : Int))) (fun j : Nat => dI [(1 : Int) + (j : Int) - 1, 1 + (j : Int) + 1]) (fun j _ => by simp [mvar, dI]), List.map_map]
    rfl
  have T2 : sasg (mfreeze c_Web_line_1) (gset 3) [dd (.cls A.Web), dd (.int (n : Int)), dd (.int mk), none, none, none] p = .nx [dd (.cls A.Web), dd (.int (n : Int)), dd (.int mk), dd (.lst (((List.range (n - 1)).map fun j : Nat => [(1 : Int) + (j : Int) - 1, 1 + (j : Int) + 1]).map dI)), none, none] p := by
    simp [c1, -List.map_map]
  have ew : D.lst [] :: (((List.range (n - 1)).map fun j : Nat => [(1 : Int) + (j : Int) - 1, 1 + (j : Int) + 1]).map dI) ++ [D.lst []] = (lineS n).map dI := by
    simp [lineS, dI]
  have T3 : b_Web_line_3 [dd (.cls A.Web), dd (.int (n : Int)), dd (.int mk), dd (.lst (((List.range (n - 1)).map fun j : Nat => [(1 : Int) + (j : Int) - 1, 1 + (j : Int) + 1]).map dI)), none, none] p = .nx [dd (.cls A.Web), dd (.int (n : Int)), dd (.int mk), dd (.lst (((List.range (n - 1)).map fun j : Nat => [(1 : Int) + (j : Int) - 1, 1 + (j : Int) + 1]).map dI)), none, dd (.lst ((lineS n).map dI))] p := by
    rw [← ew]
    have hz : (((List.range (n - 1)).map fun j : Nat => [(1 : Int) + (j : Int) - 1, 1 + (j : Int) + 1]).map dI).length + 2 ≤ 1000 := by simp; omega
    obtain ⟨L, hL⟩ : ∃ L, L = (((List.range (n - 1)).map fun j : Nat => [(1 : Int) + (j : Int) - 1, 1 + (j : Int) + 1]).map dI) := ⟨_, rfl⟩
    rw [← hL] at hz ⊢
    have hz2 : L.length + 1 + 1 ≤ 1000 := by omega
    simp [b_Web_line_3, mvar, astar, hz2]
  have r1 : fRep (.lst [.int mk]) (.int ((n : Int) + 1)) = some (dI (List.replicate (n + 1) mk)) := by
    show (if _ then _ else _) = _
    rw [if_pos (by omega)]
    simp only [dI, List.map_replicate]
    congr 3
  have r2 : fRep (.lst [.non]) (.int (n : Int)) = some (.lst (List.replicate n .non)) := by
    show (if _ then _ else _) = _
    rw [if_pos (by omega)]
    simp
  have r3 : fCat (.lst [.tup [.str "chips", .int 0]]) (.lst (List.replicate n .non)) = some (.lst ((some (true, 0) :: List.replicate n none).map dDue)) := by
    show (if _ then _ else _) = _
    rw [if_pos (by simp; omega)]
    simp [dDue]
  have eg : [.lst ((lineS n).map dI), .lst ((lineS n).map dI), dI (List.replicate (n + 1) mk), .lst ((some (true, 0) :: List.replicate n none).map dDue)] = encG (lineG n mk) := by
    simp only [encG, lineG, sqD, sqI, List.map_map, Function.comp_def]
    simp [dI, sqDue, sqD, dDue]
  have ei := Web_init_ev (lineG_valid h1 h2 hm) A p
  rw [← eg, lineG_wb] at ei
  unfold dn_Web_line
  rw [seq_nx T1, seq_nx T2, seq_nx T3]
  unfold b_Web_line_4
  rw [sret_ev, mmakeV_ev (by rfl)]
  simp only [mmake, mbind_ev, acons_ev, mvar, List.getElem?_cons_succ, List.getElem?_cons_zero, bind_ok, op2_ev, mfreeze_ev, mshort_ev, mtupd_ev, anil_ev, mret_ev, fAdd_int, mlift_some, List.length_cons, List.length_nil, Nat.reduceAdd, Nat.reduceLeDiff, if_true, r1, r2, r3, ei, toO_ok, outR_rt]
  rfl
end PL
namespace PL
open PySem L2 Den
theorem loop_hit {α : Type} {i : Nat} {body : MS} (F : Option L → Den.Loc) {p : List Int} (hF : ∀ o d, gset i d (F o) = some (F (some (.dat d)))) (g : α → D) (b : α → Bool) (v : α → D) : ∀ {xs : List α}, (∀ x ∈ xs, body (F (some (.dat (g x)))) p = if b x = true then .rt (v x) p else .nx (F (some (.dat (g x)))) p) → ∀ o,
    (xs.find? b = none ∧ ∃ o', loop (gset i) body (xs.map g) (F o) p = .nx (F o') p) ∨ (∃ x, xs.find? b = some x ∧ loop (gset i) body (xs.map g) (F o) p = .rt (v x) p)
  | [], _, o => .inl ⟨rfl, o, rfl⟩
  | x :: xs, h, o => by
    have hx := h x List.mem_cons_self
    by_cases hb : b x = true
    · rw [if_pos hb] at hx
      refine .inr ⟨x, by rw [List.find?_cons, hb], ?_⟩
      show loop (gset i) body (g x :: xs.map g) (F o) p = _
      unfold loop
      rw [hF]
      simp only [hx]
    · rw [if_neg hb] at hx
      have hb' : b x = false := by simpa using hb
      rcases loop_hit F hF g b v (xs := xs) (fun y hy => h y (List.mem_cons_of_mem _ hy)) (some (.dat (g x))) with ⟨h1, o', e⟩ | ⟨y, h1, e⟩
      · refine .inl ⟨by rw [List.find?_cons, hb', h1], o', ?_⟩
        show loop (gset i) body (g x :: xs.map g) (F o) p = _
        unfold loop
        rw [hF]
        simp only [hx]
        exact e
      · refine .inr ⟨y, by rw [List.find?_cons, hb', h1], ?_⟩
        show loop (gset i) body (g x :: xs.map g) (F o) p = _
        unfold loop
        rw [hF]
        simp only [hx]
        exact e
theorem rng_nat (n : Nat) : rngD 0 n = (List.range n).map fun j : Nat => D.int (j : Int) := by simp [rngD]
def bitsB (n : Nat) (v : Int) : List Bool := (List.range n).map fun p : Nat => decide (v ≤ (p : Int))
def bD (n : Nat) (v : Int) : List D := (bitsB n v).map .bl
theorem bD_len (n : Nat) (v : Int) : (bD n v).length = n := by simp [bD, bitsB]
theorem bD_at {n : Nat} {v i : Int} (h0 : 0 ≤ i) (h1 : i < (n : Int)) : atI (bD n v) i = some (.bl (decide (v ≤ i))) := by
  refine atI_nat' h0 ?_
  have : i.toNat < n := by omega
  simp [bD, bitsB, this, Int.toNat_of_nonneg h0]
def opD (n : Nat) (x y : Int) : D := .tup [.lst (bD n x), .lst (bD n y)]
theorem is_good_ev {mk P a q x y : Int} {n : Nat} (h0 : 0 ≤ P - a) (ha : 0 ≤ a) (hq : 0 ≤ q) (hP : 0 ≤ P) (hn : P + q < (n : Int)) (p : List Int) : D_is_good [.int mk, .int P, .int a, .int q, opD n x y] p = .ok (.bl (decide (Gd mk x y P a q))) p := by
  have B := bought_ev mk P a q p
  unfold D_is_good
  rw [denF_ev (by rfl)]
  by_cases c : q < a ∨ (a = q ∧ mk = 1)
  · have e : bgt mk P a q = [1, P - a] := if_pos c
    have g : Gd mk x y P a q ↔ x ≤ P - a := by unfold Gd; rw [if_pos c]
    have t := bD_at (v := x) h0 (show P - a < (n : Int) by omega)
    rw [e] at B
    simp [gset2, dn_is_good, b_is_good_1, b_is_good_2, locOf, mvar, B, opD, t, g]
  · have e : bgt mk P a q = [2, P + q] := if_neg c
    have g : Gd mk x y P a q ↔ y ≤ P + q := by unfold Gd; rw [if_neg c]
    have t := bD_at (v := y) (show 0 ≤ P + q by omega) hn
    rw [e] at B
    simp [gset2, dn_is_good, b_is_good_1, b_is_good_2, locOf, mvar, B, opD, t, g]
/-- below the price the other hand has a bid against all -/
theorem bid_against {mk x y k P : Int} (hm : mk = 1 ∨ mk = 2) (hx0 : 0 ≤ x) (hyk : y ≤ k + 1) (h0 : 0 ≤ P) (hk : P ≤ k) (h : ¬ halfI mk x y ≤ P) : ∃ q : Nat, (q : Int) ≤ k - P ∧ ∀ a, 0 ≤ a → a ≤ P → ¬ Gd mk x y P a q := by
  unfold halfI at h
  rcases hm with rfl | rfl
  · simp only [if_true] at h
    refine ⟨(P - x + 1).toNat, ?_, fun a a0 a1 => ?_⟩
    · split at h <;> omega
    · unfold Gd
      simp only [and_true]
      split at h <;> split <;> omega
  · rw [if_neg (by decide)] at h
    refine ⟨(P - x).toNat, ?_, fun a a0 a1 => ?_⟩
    · split at h <;> omega
    · unfold Gd
      have : ¬ ((2 : Int) = 1) := by decide
      simp only [this, and_false, or_false]
      split at h <;> split <;> omega
theorem any_range (n : Nat) (b : Nat → Bool) : ((List.range n).map b).any id = true ↔ ∃ a < n, b a = true := by simp
theorem all_range (n : Nat) (b : Nat → Bool) : ((List.range n).map b).all id = true ↔ ∀ a < n, b a = true := by simp
abbrev SFo (mk k P x y : Int) (n : Nat) (w : Str) (o5 o6 : Option L) : Den.Loc := [some (.dat (.int mk)), some (.dat (.int k)), some (.dat (.int P)), some (.dat (opD n x y)), some (.dat (.str w)), o5, o6]
section
variable {mk k P x y : Int} {n : Nat} {w : Str}
theorem comp_good1 (h0 : 0 ≤ P) (hk : P ≤ k) (k9 : k ≤ 900) (hn : (n : Int) = k + 1) {q : Nat} (hq : (q : Int) ≤ k - P) (o6 : Option L) (p : List Int) :
    c_forced_1 (SFo mk k P x y n w (some (.dat (.int q))) o6) p = .ok (((List.range (P + 1).toNat).map fun a : Nat => decide (Gd mk x y P a q)).map .bl) p := by
  unfold c_forced_1
  have hr := rng1_int (n := P + 1) (by omega)
  rw [rng_nat] at hr
  rw [mcomp_ev (ds := (List.range (P + 1).toNat).map fun j : Nat => D.int (j : Int)) (p' := p) (by simp [mvar, hr]) (by simp; omega), List.map_map]
  exact comp_mapL (by simp) (fun j : Nat => D.int (j : Int)) (fun a : Nat => .bl (decide (Gd mk x y P a q))) fun a ha => by
    have ha := List.mem_range.mp ha
    simp [mvar, is_good_ev (mk := mk) (x := x) (y := y) (P := P) (a := (a : Int)) (q := (q : Int)) (n := n) (by omega) (by omega) (by omega) h0 (by omega) p]
theorem comp_good2 (h0 : 0 ≤ P) (hk : P ≤ k) (k9 : k ≤ 900) (hn : (n : Int) = k + 1) {a : Nat} (ha : (a : Int) ≤ P) (o5 : Option L) (p : List Int) :
    c_forced_2 (SFo mk k P x y n w o5 (some (.dat (.int a)))) p = .ok (((List.range (k - P + 1).toNat).map fun q : Nat => decide (Gd mk x y P a q)).map .bl) p := by
  unfold c_forced_2
  have hr := rng1_int (n := k - P + 1) (by omega)
  rw [rng_nat] at hr
  rw [mcomp_ev (ds := (List.range (k - P + 1).toNat).map fun j : Nat => D.int (j : Int)) (p' := p) (by simp [mvar, hr]) (by simp; omega), List.map_map]
  exact comp_mapL (by simp) (fun j : Nat => D.int (j : Int)) (fun q : Nat => .bl (decide (Gd mk x y P a q))) fun q hq => by
    have hq := List.mem_range.mp hq
    simp [mvar, is_good_ev (mk := mk) (x := x) (y := y) (P := P) (a := (a : Int)) (q := (q : Int)) (n := n) (by omega) (by omega) (by omega) h0 (by omega) p]
theorem forced_ev (hm : mk = 1 ∨ mk = 2) (hx0 : 0 ≤ x) (hy0 : 0 ≤ y) (hyk : y ≤ k + 1) (h0 : 0 ≤ P) (hk : P ≤ k) (k9 : k ≤ 900) (hn : (n : Int) = k + 1) (p : List Int) :
    D_forced [.int mk, .int k, .int P, opD n x y, .str w] p = .ok (.bl (decide (halfI mk x y ≤ P))) p := by
  have hA : halfI mk x y ≤ P → ∃ a : Nat, (a : Int) ≤ P ∧ ∀ q, 0 ≤ q → q ≤ k - P → Gd mk x y P a q := fun h => by
    have B := bid1_serves hm hx0 hy0 hyk h0 hk h
    have b0 : 0 ≤ bid1 mk y P := by unfold bid1; omega
    refine ⟨(bid1 mk y P).toNat, by omega, ?_⟩
    rw [Int.toNat_of_nonneg b0]
    exact B.2.1
  have hB := bid_against (x := x) (y := y) hm hx0 hyk h0 hk
  unfold D_forced
  rw [denF_ev (by rfl)]
  show outR (dn_forced (SFo mk k P x y n w none none) p) = _
  unfold dn_forced
  have hr1 := rng1_int (n := k - P + 1) (by omega)
  rw [rng_nat] at hr1
  have hr2 := rng1_int (n := P + 1) (by omega)
  rw [rng_nat] at hr2
  by_cases hw : w = "second"
  · subst hw
    have T1 : b_forced_1 (SFo mk k P x y n "second" none none) p = .rt (.bl (decide (halfI mk x y ≤ P))) p := by
      have e0 : mtest (op2 fEq (mvar 4) (mret (D.str "second"))) (SFo mk k P x y n "second" none none) p = .ok true p := by simp [mvar, fEq_str]
      unfold b_forced_1
      rw [sif_t e0]
      rcases loop_hit (i := 5) (body := L_forced_1t1) (fun o => SFo mk k P x y n "second" o none) (p := p) (fun _ _ => rfl) (fun j : Nat => D.int (j : Int)) (fun q : Nat => !((List.range (P + 1).toNat).map fun a : Nat => decide (Gd mk x y P a q)).any id) (fun _ => .bl false) (xs := List.range (k - P + 1).toNat) (fun q hq => by
        have hq := List.mem_range.mp hq
        have e := comp_good1 (mk := mk) (x := x) (y := y) (n := n) (w := "second") h0 hk k9 hn (q := q) (by omega) none p
        unfold L_forced_1t1
        rw [sif_ev]
        simp only [mnot_ev, mtru_ev, opn_ev, acons_ev, anil_ev, mfreeze_ev, e, bind_ok, fAny_bls, mlift_some, truOf_bl, toO_ok]
        split <;> simp) none with ⟨hf, o', e⟩ | ⟨q, hf, e⟩
      · have hall : halfI mk x y ≤ P := by
          refine Classical.byContradiction fun hc => ?_
          obtain ⟨q, q1, q2⟩ := hB hc
          have := List.find?_eq_none.mp hf q (List.mem_range.mpr (by omega))
          simp only [Bool.not_eq_true, Bool.not_eq_false', any_range, decide_eq_true_eq] at this
          obtain ⟨a, a1, a2⟩ := this
          exact q2 a (by omega) (by omega) a2
        have e2 : b_forced_1t1 (SFo mk k P x y n "second" none none) p = .nx (SFo mk k P x y n "second" o' none) p := by
          unfold b_forced_1t1
          rw [sfor_ev]
          simp only [mbind_ev, acons_ev, op2_ev, mvar, mret_ev, List.getElem?_cons_succ, List.getElem?_cons_zero, bind_ok, fSub_int, fAdd_int, mlift_some, anil_ev, hr1, toO_ok]
          exact e
        rw [seq_nx e2]
        simp [hall]
      · have hq := List.find?_some hf
        have hqm := List.mem_range.mp (List.mem_of_find?_eq_some hf)
        have hno : ¬ halfI mk x y ≤ P := fun h => by
          obtain ⟨a, a1, a2⟩ := hA h
          have : ((List.range (P + 1).toNat).map fun a : Nat => decide (Gd mk x y P a q)).any id = true := (any_range _ _).mpr ⟨a, by omega, decide_eq_true (a2 q (by omega) (by omega))⟩
          rw [this] at hq
          cases hq
        have e2 : b_forced_1t1 (SFo mk k P x y n "second" none none) p = .rt (.bl false) p := by
          unfold b_forced_1t1
          rw [sfor_ev]
          simp only [mbind_ev, acons_ev, op2_ev, mvar, mret_ev, List.getElem?_cons_succ, List.getElem?_cons_zero, bind_ok, fSub_int, fAdd_int, mlift_some, anil_ev, hr1, toO_ok]
          exact e
        rw [sseq_ev, e2]
        simp [hno]
    rw [sseq_ev, T1]
    rfl
  · have T1 : b_forced_1 (SFo mk k P x y n w none none) p = .nx (SFo mk k P x y n w none none) p := by
      have e0 : mtest (op2 fEq (mvar 4) (mret (D.str "second"))) (SFo mk k P x y n w none none) p = .ok false p := by simp [mvar, fEq_str, hw]
      unfold b_forced_1
      rw [sif_f e0]
      rfl
    rw [seq_nx T1]
    rcases loop_hit (i := 6) (body := L_forced_2) (fun o => SFo mk k P x y n w none o) (p := p) (fun _ _ => rfl) (fun j : Nat => D.int (j : Int)) (fun a : Nat => ((List.range (k - P + 1).toNat).map fun q : Nat => decide (Gd mk x y P a q)).all id) (fun _ => .bl true) (xs := List.range (P + 1).toNat) (fun a ha => by
        have ha := List.mem_range.mp ha
        have e := comp_good2 (mk := mk) (x := x) (y := y) (n := n) (w := w) h0 hk k9 hn (a := a) (by omega) none p
        unfold L_forced_2
        rw [sif_ev]
        simp only [mtru_ev, opn_ev, acons_ev, anil_ev, mfreeze_ev, e, bind_ok, fAll_bls, mlift_some, truOf_bl, toO_ok]
        split <;> simp) none with ⟨hf, o', e⟩ | ⟨a, hf, e⟩
    · have hno : ¬ halfI mk x y ≤ P := fun h => by
        obtain ⟨a, a1, a2⟩ := hA h
        have := List.find?_eq_none.mp hf a (List.mem_range.mpr (by omega))
        exact this ((all_range _ _).mpr fun q hq => decide_eq_true (a2 q (by omega) (by omega)))
      have e2 : b_forced_2 (SFo mk k P x y n w none none) p = .nx (SFo mk k P x y n w none o') p := by
        unfold b_forced_2
        rw [sfor_ev]
        simp only [mbind_ev, acons_ev, op2_ev, mvar, mret_ev, List.getElem?_cons_succ, List.getElem?_cons_zero, bind_ok, fAdd_int, mlift_some, anil_ev, hr2, toO_ok]
        exact e
      rw [seq_nx e2]
      simp [hno]
    · have ha := List.find?_some hf
      have ham := List.mem_range.mp (List.mem_of_find?_eq_some hf)
      have hall : halfI mk x y ≤ P := by
        refine Classical.byContradiction fun hc => ?_
        obtain ⟨q, q1, q2⟩ := hB hc
        have := (all_range _ _).mp ha q (by omega)
        exact q2 a (by omega) (by omega) (of_decide_eq_true this)
      have e2 : b_forced_2 (SFo mk k P x y n w none none) p = .rt (.bl true) p := by
        unfold b_forced_2
        rw [sfor_ev]
        simp only [mbind_ev, acons_ev, op2_ev, mvar, mret_ev, List.getElem?_cons_succ, List.getElem?_cons_zero, bind_ok, fAdd_int, mlift_some, anil_ev, hr2, toO_ok]
        exact e
      rw [sseq_ev, e2]
      simp [hall]
end
end PL
namespace PL
open PySem L2 Den
def lvD (n : Nat) (r : List Int) : D := .tup (r.map fun v => .tup (bD n v))
theorem lvD_at {n : Nat} {r : List Int} {x : Int} (h0 : 0 ≤ x) (h1 : x < (r.length : Int)) : fIx (lvD n r) (.int x) = some (.tup (bD n (rowAt r x))) := by
  have hx : x.toNat < r.length := by omega
  refine atI_nat' h0 ?_
  rw [List.getElem?_map, List.getElem?_eq_getElem hx]
  simp [rowAt, hx]
theorem bD_top {n : Nat} {k v : Int} (hn : (n : Int) = k + 1) : bD n (min v (k + 1)) = bD n v := by
  unfold bD bitsB
  rw [List.map_map, List.map_map]
  refine List.map_congr_left fun p hp => ?_
  have := List.mem_range.mp hp
  simp only [Function.comp]
  congr 1
  exact decide_eq_decide.mpr (by omega)
section
variable (A : CA) {wb : Wb}
theorem claimable_ev (V : Valid wb) {k : Int} (k0 : 0 ≤ k) (k9 : k ≤ 900) {n : Nat} (hn : (n : Int) = k + 1) (p : List Int) : D_claimable A [insW A wb, .int k] p = .ok (lvD n (wb.dues.map fun d => dueI d k)) p := by
  have e := dues_at_ev A V k p
  have n2 := V.n2
  have l3 := V.l3
  have hr := rng1_int (n := k + 1) (by omega)
  rw [show (k + 1).toNat = n by omega, rng_nat] at hr
  have in1 : ∀ (v : Int) o2, c_claimable_1 [dd (insW A wb), dd (.int k), o2, dd (.int v)] p = .ok (bD n v) p := fun v o2 => by
    unfold c_claimable_1
    rw [mcomp_ev (ds := (List.range n).map fun j : Nat => D.int (j : Int)) (p' := p) (by simp [mvar, hr]) (by simp; omega)]
    unfold bD bitsB
    rw [List.map_map]
    exact comp_mapL (by simp) (fun j : Nat => D.int (j : Int)) (fun j : Nat => D.bl (decide (v ≤ (j : Int)))) fun j hj => by simp [mvar]
  have c2 : c_claimable_2 A [dd (insW A wb), dd (.int k), none, none] p = .ok ((wb.dues.map fun d => dueI d k).map fun v => .tup (bD n v)) p := by
    unfold c_claimable_2
    rw [mcomp_ev (ds := (wb.dues.map fun d => dueI d k).map D.int) (p' := p) (by simp [mvar, e]) (by rw [List.length_map, List.length_map]; omega)]
    exact comp_mapL (by simp) D.int (fun v => .tup (bD n v)) fun v hv => by simp [in1]
  unfold D_claimable
  rw [denF_ev (by rfl)]
  show outR (dn_claimable A [dd (insW A wb), dd (.int k), none, none] p) = _
  simp [dn_claimable, c2, lvD]
abbrev SB (wb : Wb) (k : Int) (n : Nat) (r : List Int) (w : Str) (i : Int) (due : Int) (o6 o7 o8 o9 o10 o11 o12 : Option L) : Den.Loc := [dd (insW A wb), dd (.int k), dd (lvD n r), dd (.str w), dd (.int i), dd (.tup (bD n due)), o6, o7, o8, o9, o10, o11, o12]
theorem stand_behind_ev (V : Valid wb) {k : Int} (k0 : 0 ≤ k) (k9 : k ≤ 900) {n : Nat} (hn : (n : Int) = k + 1) {r : List Int} (hl : r.length = wb.marks.length) (hp : Parts r (k + 1)) (w : Str) (due : Int) {i : Nat} (hi : i < wb.marks.length) (p : List Int) :
    D_stand_behind A [insW A wb, .int k, lvD n r, .str w, .int i, .tup (bD n due)] p = .ok (.tup (bD n (min due (prI wb k r i)))) p := by
  obtain ⟨f, s, mk, h⟩ := here_ex V (i := (i : Int)) (by omega) (by omega)
  have e1 := h.hf
  have e2 := h.hs
  have e3 := h.hm
  rw [Int.toNat_natCast] at e1 e2 e3
  have f1 := h.f1
  have s1 := h.s1
  have m1 := h.m1
  unfold D_stand_behind
  rw [denF_ev (by rfl)]
  show outR (dn_stand_behind A (SB A wb k n r w i due none none none none none none none) p) = _
  unfold dn_stand_behind
  have hpr : prI wb k r i = if f.isEmpty then k + 1 else halfI mk (lowI r f) (highI r s) := by
    unfold prI
    rw [e1, e2, e3]
    rfl
  by_cases hne : f = []
  · subst hne
    have T1 : b_stand_behind_1 A (SB A wb k n r w i due none none none none none none none) p = .rt (.tup (bD n due)) p := by
      have : (sortSet ([] : List Int)) = [] := rfl
      simp [b_stand_behind_1, mvar, f1, this]
    rw [sseq_ev, T1, hpr]
    show R.ok _ _ = R.ok (D.tup (bD n (min due (k + 1)))) p
    rw [bD_top hn]
  · have hsne := h.ne V hne
    have hb : (sortSet f).isEmpty = false := by
      cases e : sortSet f with
      | nil => exact absurd e (sortSet_ne hne)
      | cons => rfl
    have hf60 := (V.s1 f (List.mem_of_getElem? h.hf)).1
    have hs60 := (V.s2 s (List.mem_of_getElem? h.hs)).1
    have hf6 := len_sortSet f
    have hs6 := len_sortSet s
    have hr := rng1_int (n := k + 1) (by omega)
    rw [show (k + 1).toNat = n by omega, rng_nat] at hr
    have hlow := lowI_is (r := r) hne
    have hhigh := highI_is (r := r) hsne
    have in1 : ∀ (j : Nat) (o7 o6 : Option L), j < n → c_stand_behind_2 A (SB A wb k n r w i due o6 o7 (dd (.int j)) none none none none) p = .ok (((sortSet f).map fun x => decide (rowAt r x ≤ (j : Int))).map .bl) p := fun j o7 o6 hj => by
      unfold c_stand_behind_2
      rw [mcomp_ev (ds := (sortSet f).map D.int) (p' := p) (by simp [mvar, f1]) (by rw [List.length_map]; omega), List.map_map]
      exact comp_mapL (by simp) D.int (fun x => D.bl (decide (rowAt r x ≤ (j : Int)))) fun x hx => by
        have := h.fin V x (mem_sortSet.mp hx)
        simp [mvar, lvD_at this.1 (show x < (r.length : Int) by omega), bD_at (v := rowAt r x) (n := n) (i := (j : Int)) (by omega) (by omega)]
    have in2 : ∀ (j : Nat) (o7 o6 : Option L), j < n → c_stand_behind_5 A (SB A wb k n r w i due o6 o7 (dd (.int j)) none none none none) p = .ok (((sortSet s).map fun x => decide (rowAt r x ≤ (j : Int))).map .bl) p := fun j o7 o6 hj => by
      unfold c_stand_behind_5
      rw [mcomp_ev (ds := (sortSet s).map D.int) (p' := p) (by simp [mvar, s1]) (by rw [List.length_map]; omega), List.map_map]
      exact comp_mapL (by simp) D.int (fun x => D.bl (decide (rowAt r x ≤ (j : Int)))) fun x hx => by
        have := h.sin V x (mem_sortSet.mp hx)
        simp [mvar, lvD_at this.1 (show x < (r.length : Int) by omega), bD_at (v := rowAt r x) (n := n) (i := (j : Int)) (by omega) (by omega)]
    let gD : D := .lst ((List.range n).map fun j : Nat => .lst (((sortSet f).map fun x => decide (rowAt r x ≤ (j : Int))).map .bl))
    let kD : D := .lst ((List.range n).map fun j : Nat => .lst (((sortSet s).map fun x => decide (rowAt r x ≤ (j : Int))).map .bl))
    have T1 : b_stand_behind_1 A (SB A wb k n r w i due none none none none none none none) p = .nx (SB A wb k n r w i due none none none none none none none) p := by
      simp [b_stand_behind_1, mvar, f1, hb]
    have T2 : b_stand_behind_2 A (SB A wb k n r w i due none none none none none none none) p = .nx (SB A wb k n r w i due (dd gD) none none none none none none) p := by
      have c : c_stand_behind_3 A (SB A wb k n r w i due none none none none none none none) p = .ok ((List.range n).map fun j : Nat => .lst (((sortSet f).map fun x => decide (rowAt r x ≤ (j : Int))).map .bl)) p := by
        unfold c_stand_behind_3
        rw [mcomp_ev (ds := (List.range n).map fun j : Nat => D.int (j : Int)) (p' := p) (by simp [mvar, hr]) (by simp; omega)]
        exact comp_mapL (by simp) (fun j : Nat => D.int (j : Int)) (fun j : Nat => .lst (((sortSet f).map fun x => decide (rowAt r x ≤ (j : Int))).map .bl)) fun j hj => by
          rw [mfreeze_ev]
          show (c_stand_behind_2 A (SB A wb k n r w i due none none (dd (.int j)) none none none none) p).bind _ = _
          rw [in1 j none none (List.mem_range.mp hj)]
          rfl
      unfold b_stand_behind_2
      rw [sasg_ev, mfreeze_ev, c]
      rfl
    have T3 : b_stand_behind_3 A (SB A wb k n r w i due (dd gD) none none none none none none) p = .nx (SB A wb k n r w i due (dd gD) none none (dd kD) none none none) p := by
      have c : c_stand_behind_6 A (SB A wb k n r w i due (dd gD) none none none none none none) p = .ok ((List.range n).map fun j : Nat => .lst (((sortSet s).map fun x => decide (rowAt r x ≤ (j : Int))).map .bl)) p := by
        unfold c_stand_behind_6
        rw [mcomp_ev (ds := (List.range n).map fun j : Nat => D.int (j : Int)) (p' := p) (by simp [mvar, hr]) (by simp; omega)]
        exact comp_mapL (by simp) (fun j : Nat => D.int (j : Int)) (fun j : Nat => .lst (((sortSet s).map fun x => decide (rowAt r x ≤ (j : Int))).map .bl)) fun j hj => by
          rw [mfreeze_ev]
          show (c_stand_behind_5 A (SB A wb k n r w i due (dd gD) none (dd (.int j)) none none none none) p).bind _ = _
          rw [in2 j none (dd gD) (List.mem_range.mp hj)]
          rfl
      unfold b_stand_behind_3
      rw [sasg_ev, mfreeze_ev, c]
      rfl
    have T4 : b_stand_behind_4 (SB A wb k n r w i due (dd gD) none none (dd kD) none none none) p = .nx (SB A wb k n r w i due (dd gD) none none (dd kD) (dd (opD n (lowI r f) (highI r s))) none none) p := by
      have c8 : c_stand_behind_8 (SB A wb k n r w i due (dd gD) none none (dd kD) none none none) p = .ok (bD n (lowI r f)) p := by
        unfold c_stand_behind_8
        rw [mcomp_ev (ds := (List.range n).map fun j : Nat => .lst (((sortSet f).map fun x => decide (rowAt r x ≤ (j : Int))).map .bl)) (p' := p) (by simp [mvar, gD]) (by simp; omega)]
        unfold bD bitsB
        rw [List.map_map]
        exact comp_mapL (by simp) (fun j : Nat => .lst (((sortSet f).map fun x => decide (rowAt r x ≤ (j : Int))).map .bl)) (fun j : Nat => D.bl (decide (lowI r f ≤ (j : Int)))) fun j hj => by
          have : (((sortSet f).map fun x => decide (rowAt r x ≤ (j : Int))).any id) = decide (lowI r f ≤ (j : Int)) := by
            rw [Bool.eq_iff_iff]
            simp only [List.any_eq_true, List.mem_map, decide_eq_true_eq, id]
            constructor
            · rintro ⟨_, ⟨x, hx, rfl⟩, hb⟩
              have := hlow.2 x (mem_sortSet.mp hx)
              have := of_decide_eq_true hb
              omega
            · intro hb
              obtain ⟨x, hx, ex⟩ := hlow.1
              exact ⟨_, ⟨x, mem_sortSet.mpr hx, rfl⟩, decide_eq_true (by omega)⟩
          simp only [opn_ev, acons_ev, anil_ev, mvar]
          simp [fAny_bls, -List.map_map, this]
      have c7 : c_stand_behind_7 (SB A wb k n r w i due (dd gD) none none (dd kD) none none none) p = .ok (bD n (highI r s)) p := by
        unfold c_stand_behind_7
        rw [mcomp_ev (ds := (List.range n).map fun j : Nat => .lst (((sortSet s).map fun x => decide (rowAt r x ≤ (j : Int))).map .bl)) (p' := p) (by simp [mvar, kD]) (by simp; omega)]
        unfold bD bitsB
        rw [List.map_map]
        exact comp_mapL (by simp) (fun j : Nat => .lst (((sortSet s).map fun x => decide (rowAt r x ≤ (j : Int))).map .bl)) (fun j : Nat => D.bl (decide (highI r s ≤ (j : Int)))) fun j hj => by
          have : (((sortSet s).map fun x => decide (rowAt r x ≤ (j : Int))).all id) = decide (highI r s ≤ (j : Int)) := by
            rw [Bool.eq_iff_iff]
            simp only [List.all_eq_true, List.mem_map, decide_eq_true_eq, id]
            constructor
            · intro hb
              obtain ⟨x, hx, ex⟩ := hhigh.1
              have := of_decide_eq_true (hb _ ⟨x, mem_sortSet.mpr hx, rfl⟩)
              omega
            · rintro hb _ ⟨x, hx, rfl⟩
              have := hhigh.2 x (mem_sortSet.mp hx)
              exact decide_eq_true (by omega)
          simp only [opn_ev, acons_ev, anil_ev, mvar]
          simp [fAll_bls, -List.map_map, this]
      unfold b_stand_behind_4
      rw [sasg_ev]
      simp only [mtupd_ev, mshort_ev, acons_ev, mfreeze_ev, c8, c7, anil_ev, bind_ok]
      rfl
    have hlo := hlow.1
    have hhi := hhigh.1
    have x0 : 0 ≤ lowI r f := by
      obtain ⟨x, hx, ex⟩ := hlo
      have := h.fin V x hx
      rw [← ex]
      unfold rowAt
      rw [List.getElem?_eq_getElem (by omega)]
      exact (hp _ (List.getElem_mem _)).1
    have y0 : 0 ≤ highI r s ∧ highI r s ≤ k + 1 := by
      obtain ⟨x, hx, ex⟩ := hhi
      have := h.sin V x hx
      rw [← ex]
      unfold rowAt
      rw [List.getElem?_eq_getElem (by omega)]
      exact hp _ (List.getElem_mem _)
    have T5 : b_stand_behind_5 A (SB A wb k n r w i due (dd gD) none none (dd kD) (dd (opD n (lowI r f) (highI r s))) none none) p = .rt (.tup (bD n (min due (halfI mk (lowI r f) (highI r s))))) p := by
      have c9 : c_stand_behind_9 A (SB A wb k n r w i due (dd gD) none none (dd kD) (dd (opD n (lowI r f) (highI r s))) none none) p = .ok (bD n (min due (halfI mk (lowI r f) (highI r s)))) p := by
        unfold c_stand_behind_9
        rw [mcomp2_ev (ds := enumD 0 (bD n due)) (p' := p) (by simp [mvar, enumS]) (by rw [enumD_len, bD_len]; omega)]
        have := comp2_map (i := 8) (j := 12) (e := vor (mvar 12) (mcall D_forced (acons (op2 fIx (mfld A.Web "_marks" (mvar 0)) (mvar 4)) (acons (mvar 1) (acons (mvar 8) (acons (mvar 10) (acons (mvar 3) anil))))))) (l := SB A wb k n r w i due (dd gD) none none (dd kD) (dd (opD n (lowI r f) (highI r s))) none none) (by simp) (by simp) (fun b : Bool => D.bl b) (fun j => D.bl (decide (min due (halfI mk (lowI r f) (highI r s)) ≤ (j : Int)))) (p := p) (xs := bitsB n due) fun m b hb => by
          have hm : m < n := by
            have := (List.getElem?_eq_some_iff.mp hb).1
            simpa [bitsB] using this
          have eb : b = decide (due ≤ (m : Int)) := by
            simp [bitsB, hm] at hb
            exact hb.symm
          have F := forced_ev (w := w) (h.mk2 V) x0 y0.1 y0.2 (P := (m : Int)) (by omega) (by omega) k9 hn p
          by_cases hd : due ≤ (m : Int)
          · have g : min due (halfI mk (lowI r f) (highI r s)) ≤ (m : Int) := by omega
            simp [mvar, eb, hd, g]
          · have g : (min due (halfI mk (lowI r f) (highI r s)) ≤ (m : Int)) ↔ halfI mk (lowI r f) (highI r s) ≤ (m : Int) := by omega
            simp [mvar, eb, hd, m1, F, g]
        rw [show bD n due = (bitsB n due).map .bl from rfl, this]
        unfold bD bitsB
        rw [List.map_map, List.length_map, List.length_range]
        rfl
      unfold b_stand_behind_5
      rw [sret_ev, opn_ev, acons_ev, mfreeze_ev, c9]
      rfl
    rw [seq_nx T1, seq_nx T2, seq_nx T3, seq_nx T4, T5, hpr]
    have : f.isEmpty = false := by cases f with
      | nil => exact absurd rfl hne
      | cons => rfl
    simp [this]
end
end PL
namespace PL
open PySem L2 Den
section
variable {wb : Wb}
end
end PL
namespace PL
open PySem L2 Den
section
variable {row sl f s : List Int}
end
section
variable {wb : Wb} {k m : Int} {row sl rk : List Int}
end
end PL
namespace PL
open PySem L2 Den
section
variable (A : CA) {wb : Wb}
end
end PL
namespace PL
open PySem L2 Den
section
variable (A : CA) {wb : Wb}
end
end PL
namespace PL
open PySem L2 Den
section
variable {wb : Wb}
end
end PL
namespace PL
open PySem L2 Den
section
variable {wb : Wb}
structure Case where
  k : Int
  row : List Int
  rk : List Int
  m : Int
  sl : List Int
  sp : Option Int
structure GoodC (wb : Wb) (c : Case) : Prop where
  k0 : 0 ≤ c.k
  k1 : c.k ≤ 100
  m0 : 1 ≤ c.m
  m1 : c.m ≤ 20
  l1 : c.row.length = wb.marks.length
  l2 : c.rk.length = wb.marks.length
  l3 : c.sl.length = wb.marks.length
  p1 : ∀ x ∈ c.row, 0 ≤ x
  p2 : ∀ x ∈ c.rk, 0 ≤ x
  p3 : ∀ x ∈ c.sl, 0 ≤ x
  own : ∀ s, c.sp = some s → s = 0 ∨ s > 3 → Lower wb c.k c.row ∧ c.rk = ranksI wb c.k c.row ∧ ∀ i < c.row.length, lfB wb c.k c.row c.row.length i = false
end
end PL
namespace PL
open PySem L2 Den
theorem mixc_ev {i : Nat} {a : M D} {l : Den.Loc} {p q : List Int} {ds : List D} {j : Nat} {d : D} (hc : l[i]? = some (some (.cell ds))) (ha : a l p = .ok (.int (j : Int)) q) (hj : ds[j]? = some d) : mixc i a l p = .ok d q := by
  unfold mixc
  rw [cellOf_ev hc]
  dsimp only
  rw [mbind_ok ha]
  show mlift (atI ds (j : Int)) l q = _
  rw [atI_nat hj]
  rfl
section
variable {wb : Wb}
end
end PL
namespace PL
open PySem L2 Den
theorem pdL_bls : ∀ l : List Bool, pdL (l.map D.bl) = some (l.map .bool)
  | [] => rfl
  | b :: l => by simp [pdL, pd, pdL_bls l]
theorem depth_bls : ∀ l : List Bool, PyData.depthAll (l.map .bool) = 0
  | [] => rfl
  | b :: l => by simp [PyData.depthAll, PyData.depth, depth_bls l]
theorem eqv_bool (a b : Bool) : PyData.eqv (.bool a) (.bool b) = decide (a = b) := by cases a <;> cases b <;> rfl
theorem eqvAll_bls : ∀ r s : List Bool, PyData.eqvAll (r.map .bool) (s.map .bool) = decide (r = s)
  | [], [] => by simp [PyData.eqvAll]
  | [], _ :: _ => by simp [PyData.eqvAll]
  | _ :: _, [] => by simp [PyData.eqvAll]
  | n :: r, m :: s => by
    have h := eqvAll_bls r s
    simp only [List.map_cons, PyData.eqvAll, eqv_bool, h]
    by_cases e : n = m <;> by_cases e2 : r = s <;> simp [e, e2]
theorem pdL_lv : ∀ l : List (List Bool), pdL (l.map fun r => .tup (r.map .bl)) = some (l.map fun r => .tuple (r.map .bool))
  | [] => rfl
  | r :: l => by simp [pdL, pd, pdL_bls, pdL_lv l]
theorem depth_lv : ∀ l : List (List Bool), PyData.depthAll (l.map fun r => .tuple (r.map .bool)) ≤ 2
  | [] => by simp [PyData.depthAll]
  | r :: l => by
    have := depth_lv l
    simp only [List.map_cons, PyData.depthAll, PyData.depth, depth_bls]
    omega
theorem eqvAll_lv : ∀ l m : List (List Bool), PyData.eqvAll (l.map fun r => .tuple (r.map .bool)) (m.map fun r => .tuple (r.map .bool)) = decide (l = m)
  | [], [] => by simp [PyData.eqvAll]
  | [], _ :: _ => by simp [PyData.eqvAll]
  | _ :: _, [] => by simp [PyData.eqvAll]
  | r :: l, s :: m => by
    have h := eqvAll_lv l m
    simp only [List.map_cons, PyData.eqvAll, PyData.eqv, h, eqvAll_bls]
    by_cases e : r = s <;> by_cases e2 : l = m <;> simp [e, e2]
theorem bits_inj {n : Nat} {v w : Int} (h1 : 0 ≤ v ∧ v ≤ n) (h2 : 0 ≤ w ∧ w ≤ n) (h : bitsB n v = bitsB n w) : v = w := by
  have at_ : ∀ (u : Int) (j : Nat), j < n → (bitsB n u)[j]? = some (decide (u ≤ (j : Int))) := fun u j hj => by simp [bitsB, hj]
  rcases Int.lt_trichotomy v w with c | c | c
  · exfalso
    have a := at_ v v.toNat (by omega)
    have b := at_ w v.toNat (by omega)
    rw [h, b] at a
    have := Option.some.inj a
    rw [decide_eq_decide] at this
    omega
  · exact c
  · exfalso
    have a := at_ v w.toNat (by omega)
    have b := at_ w w.toNat (by omega)
    rw [h, b] at a
    have := Option.some.inj a
    rw [decide_eq_decide] at this
    omega
theorem lv_inj {n : Nat} : ∀ {r s : List Int}, Parts r n → Parts s n → r.map (bitsB n) = s.map (bitsB n) → r = s
  | [], [], _, _, _ => rfl
  | [], _ :: _, _, _, h => by cases h
  | _ :: _, [], _, _, h => by cases h
  | v :: r, w :: s, h1, h2, h => by
    rw [List.map_cons, List.map_cons] at h
    injection h with a b
    rw [bits_inj (h1 v List.mem_cons_self) (h2 w List.mem_cons_self) a, lv_inj (fun x hx => h1 x (List.mem_cons_of_mem _ hx)) (fun x hx => h2 x (List.mem_cons_of_mem _ hx)) b]
theorem ne_lv {n : Nat} {k : Int} (hn : (n : Int) = k + 1) {r s : List Int} (h1 : Parts r (k + 1)) (h2 : Parts s (k + 1)) : fEqD true (lvD n r) (lvD n s) = some (.bl (!decide (r = s))) := by
  have e0 : ∀ l : List (List Bool), pd (.tup (l.map fun r => .tup (r.map .bl))) = some (.tuple (l.map fun r => .tuple (r.map .bool))) := fun l => by simp [pd, pdL_lv]
  have e1 : ∀ r : List Int, lvD n r = .tup ((r.map (bitsB n)).map fun b => .tup (b.map .bl)) := fun r => by simp [lvD, bD]
  rw [← hn] at h1 h2
  unfold fEqD
  rw [e1, e1, e0, e0]
  dsimp only
  have d1 := depth_lv (r.map (bitsB n))
  have d2 := depth_lv (s.map (bitsB n))
  rw [if_pos (by simp only [PyData.depth]; omega)]
  have : (r.map (bitsB n) = s.map (bitsB n)) ↔ r = s := ⟨lv_inj h1 h2, fun h => by rw [h]⟩
  simp only [PyData.eqv, eqvAll_lv, if_true, this]
section
variable (A : CA) {wb : Wb}
theorem level_behind_ev (V : Valid wb) {k : Int} (k0 : 0 ≤ k) (k9 : k ≤ 900) {n : Nat} (hn : (n : Int) = k + 1) {r : List Int} (hl : r.length = wb.marks.length) (hp : Parts r (k + 1)) (w : Str) (p : List Int) :
    D_level_behind A [insW A wb, .int k, lvD n r, .str w] p = .ok (lvD n (nxI wb k r)) p := by
  have n2 := V.n2
  have l3 := V.l3
  have e := claimable_ev A V k0 k9 hn p
  have T1 : b_level_behind_1 A [dd (insW A wb), dd (.int k), dd (lvD n r), dd (.str w), none, none] p = .nx [dd (insW A wb), dd (.int k), dd (lvD n r), dd (.str w), dd (lvD n (wb.dues.map fun d => dueI d k)), none] p := by
    simp [b_level_behind_1, mvar, e]
  have hrn := rngN (n := wb.marks.length) (by omega)
  rw [rng_nat] at hrn
  have c : c_level_behind_1 A [dd (insW A wb), dd (.int k), dd (lvD n r), dd (.str w), dd (lvD n (wb.dues.map fun d => dueI d k)), none] p = .ok ((nxI wb k r).map fun v => .tup (bD n v)) p := by
    unfold c_level_behind_1
    rw [mcomp_ev (ds := (List.range wb.marks.length).map fun j : Nat => D.int (j : Int)) (p' := p) (by simp [mvar, hrn]) (by simp; omega)]
    unfold nxI
    rw [List.map_map]
    exact comp_mapL (by simp) (fun j : Nat => D.int (j : Int)) _ fun j hj => by
      have hj := List.mem_range.mp hj
      have a := lvD_at (n := n) (r := wb.dues.map fun d => dueI d k) (x := (j : Int)) (by omega) (by rw [List.length_map, l3]; omega)
      have d : rowAt (wb.dues.map fun d => dueI d k) (j : Int) = dueI (wb.dues[j]?.getD none) k := by
        rw [rowAt_nat, List.getElem?_map, List.getElem?_eq_getElem (by omega)]
        simp
      rw [d] at a
      simp [mvar, a, stand_behind_ev A V k0 k9 hn hl hp w (dueI (wb.dues[j]?.getD none) k) hj p]
  unfold D_level_behind
  rw [denF_ev (by rfl)]
  show outR (dn_level_behind A [dd (insW A wb), dd (.int k), dd (lvD n r), dd (.str w), none, none] p) = _
  unfold dn_level_behind
  rw [seq_nx T1]
  unfold b_level_behind_2
  rw [sret_ev, opn_ev, acons_ev, mfreeze_ev, c]
  rfl
end
def rowT (wb : Wb) (k : Int) : Nat → List Int
  | 0 => duesI wb k
  | t + 1 => nxI wb k (rowT wb k t)
structure Rest (wb : Wb) (k : Int) (T : Nat) : Prop where
  eq : rowT wb k (T + 1) = rowT wb k T
  ne : ∀ t < T, rowT wb k (t + 1) ≠ rowT wb k t
  lt : T < wb.marks.length * (k.toNat + 2) + 2
section
variable {wb : Wb} {k : Int}
theorem rowT_falls (V : Valid wb) (k0 : 0 ≤ k) : ∀ t, Falls wb k (rowT wb k t)
  | 0 => falls_dues V k0
  | t + 1 => falls_next V k0 _ (rowT_falls V k0 t)
theorem rowT_sum (V : Valid wb) (k0 : 0 ≤ k) : ∀ m, (∀ t < m, rowT wb k (t + 1) ≠ rowT wb k t) → sumI (rowT wb k m) + m ≤ sumI (duesI wb k)
  | 0, _ => by simp [rowT]
  | m + 1, h => by
    have ih := rowT_sum V k0 m fun t ht => h t (by omega)
    have f := rowT_falls V k0 m
    have g := rowT_falls V k0 (m + 1)
    have := (sum_le (r := rowT wb k (m + 1)) (s := rowT wb k m) (by rw [f.len, g.len]) f.le).2 (h m (Nat.lt_succ_self m))
    omega
theorem rest_or (wb : Wb) (k : Int) : ∀ m, (∀ t < m, rowT wb k (t + 1) ≠ rowT wb k t) ∨ ∃ T < m, rowT wb k (T + 1) = rowT wb k T ∧ ∀ t < T, rowT wb k (t + 1) ≠ rowT wb k t
  | 0 => .inl fun t ht => absurd ht (Nat.not_lt_zero t)
  | m + 1 => by
    rcases rest_or wb k m with h | ⟨T, h1, h2⟩
    · by_cases c : rowT wb k (m + 1) = rowT wb k m
      · exact .inr ⟨m, Nat.lt_succ_self m, c, h⟩
      · refine .inl fun t ht => ?_
        rcases Nat.lt_succ_iff_lt_or_eq.mp ht with h3 | h3
        · exact h t h3
        · subst h3; exact c
    · exact .inr ⟨T, by omega, h2⟩
theorem rest_ex (V : Valid wb) (k0 : 0 ≤ k) : ∃ T, Rest wb k T := by
  rcases rest_or wb k (wb.marks.length * (k.toNat + 2) + 2) with h | ⟨T, h1, h2, h3⟩
  · exfalso
    have a := rowT_sum V k0 _ h
    have b := turns_many (wb := wb) k0 (duesI_len V k) fun x hx => (duesI_parts V k0 x hx).2
    have c := sum_nonneg fun x hx => ((rowT_falls V k0 (wb.marks.length * (k.toNat + 2) + 2)).parts x hx).1
    omega
  · exact ⟨T, h2, h3, h1⟩
theorem Rest.after {T : Nat} (R : Rest wb k T) : ∀ d, rowT wb k (T + d) = rowT wb k T
  | 0 => rfl
  | d + 1 => by
    show nxI wb k (rowT wb k (T + d)) = _
    rw [R.after d]
    exact R.eq
theorem mlenc_ev {i : Nat} {l : Den.Loc} {p : List Int} {ds : List D} (h : l[i]? = some (some (.cell ds))) : mlenc i l p = .ok (.int (ds.length : Int)) p := by
  simp [mlenc, Den.cellOf, h]
abbrev SLo (wb : Wb) (k : Int) (c : List D) (o4 o5 : Option L) : Den.Loc := [dd (.lst (encW wb)), dd (.int k), some (.cell c), none, o4, o5]
theorem law_rounds_ev (V : Valid wb) (k0 : 0 ≤ k) (k9 : k ≤ 8) (hw : wb.marks.length ≤ 7) {T : Nat} (R : Rest wb k T) (p : List Int) : D_law_rounds [.lst (encW wb), .int k] p = .ok (.lst ((List.range (T + 1)).map fun t => dI (rowT wb k t))) p := by
  have l3 := V.l3
  have hT : T < 90 := by
    have := R.lt
    have a : wb.marks.length * (k.toNat + 2) ≤ 7 * 10 := Nat.mul_le_mul hw (by omega)
    omega
  have T1 : b_law_rounds_1 [dd (.lst (encW wb)), dd (.int k), none, none, none, none] p = .nx (SLo wb k [dI (rowT wb k 0)] none none) p := by
    have c1 : c_law_rounds_1 [dd (.lst (encW wb)), dd (.int k), none, none, none, none] p = .ok ((duesI wb k).map .int) p := by
      unfold c_law_rounds_1
      rw [mcomp_ev (ds := wb.dues.map dDue) (p' := p) (by simp [mvar, enc3]) (by rw [List.length_map]; omega)]
      unfold duesI
      rw [List.map_map]
      exact comp_mapL (by simp) dDue (fun d => .int (dueI d k)) fun d _ => by simp [mvar, due_at_ev]
    simp [b_law_rounds_1, c1, rowT, dI]
  have last : ∀ (t : Nat) (o4 o5 : Option L) (q : List Int), mixc 2 (op2 fSub (mlenc 2) (mret (D.int 1))) (SLo wb k ((List.range (t + 1)).map fun t => dI (rowT wb k t)) o4 o5) q = .ok (dI (rowT wb k t)) q := fun t o4 o5 q => by
    refine mixc_ev (j := t) rfl ?_ (by simp)
    rw [op2_ev, mlenc_ev (ds := (List.range (t + 1)).map fun t => dI (rowT wb k t)) rfl]
    simp
  have after : ∀ (t : Nat) (o4 o5 : Option L) (q : List Int), b_law_rounds_2l1 (SLo wb k ((List.range (t + 1)).map fun t => dI (rowT wb k t)) o4 o5) q = .nx (SLo wb k ((List.range (t + 1)).map fun t => dI (rowT wb k t)) o4 (dd (dI (rowT wb k (t + 1))))) q := fun t o4 o5 q => by
    have e := law_next_ev V (rowT_falls V k0 t).len k q
    unfold b_law_rounds_2l1
    rw [sasg_ev, mcall_ev, acons_ev, mvar_ev (d := .lst (encW wb)) rfl, bind_ok, acons_ev, mvar_ev (d := .int k) rfl, bind_ok, acons_ev, last, bind_ok, anil_ev]
    simp only [bind_ok, e, toO_ok]
    rfl
  have test : ∀ (t : Nat) (o4 : Option L) (q : List Int), mtest (op2 (fEqD false) (mvar 5) (mixc 2 (op2 fSub (mlenc 2) (mret (D.int 1))))) (SLo wb k ((List.range (t + 1)).map fun t => dI (rowT wb k t)) o4 (dd (dI (rowT wb k (t + 1))))) q = .ok (decide (rowT wb k (t + 1) = rowT wb k t)) q := fun t o4 q => by
    rw [mtest_ev, op2_ev, mvar_ev (d := dI (rowT wb k (t + 1))) rfl, bind_ok, last, bind_ok]
    have := eq_lI (rowT wb k (t + 1)) (rowT wb k t)
    show (mlift (fEqD false (lI _) (lI _)) _ _).bind _ = _
    rw [this]
    rfl
  have hm := R.lt
  have hcount : ((wb.marks.length : Int) * (k + 2) + 2).toNat = wb.marks.length * (k.toNat + 2) + 2 := by
    have : ((wb.marks.length * (k.toNat + 2) + 2 : Nat) : Int) = (wb.marks.length : Int) * (k + 2) + 2 := by
      rw [Int.natCast_add, Int.natCast_mul, Int.natCast_add, Int.toNat_of_nonneg k0]; rfl
    rw [← this, Int.toNat_natCast]
  have hsmall : (wb.marks.length : Int) * (k + 2) ≤ 70 := by
    have : (wb.marks.length : Int) * (k + 2) ≤ 7 * 10 := Int.mul_le_mul (by omega) (by omega) (by omega) (by omega)
    omega
  have hpos : 0 ≤ (wb.marks.length : Int) * (k + 2) := Int.mul_nonneg (by omega) (by omega)
  have hr := rng1_int (n := (wb.marks.length : Int) * (k + 2) + 2) (by omega)
  rw [hcount] at hr
  have e := loop_find (tg := gset 4) (body := L_law_rounds_2) (r := .lst ((List.range (T + 1)).map fun t => dI (rowT wb k t))) (q := p)
    (fun (j : Nat) (l : Den.Loc) (q : List Int) => q = p ∧ ∃ o4 o5, l = SLo wb k ((List.range (j + 1)).map fun t => dI (rowT wb k t)) o4 o5)
    (ds := rngD 0 (wb.marks.length * (k.toNat + 2) + 2)) (k := 0) (m := T) (l := SLo wb k [dI (rowT wb k 0)] none none) (p := p) (by rw [rngD_len]; exact hm) ⟨rfl, none, none, rfl⟩ (fun j d l q hj hd hI => by
      obtain ⟨rfl, o4, o5, rfl⟩ := hI
      rw [Nat.zero_add]
      refine ⟨SLo wb k ((List.range (j + 1)).map fun t => dI (rowT wb k t)) (dd d) o5, rfl, SLo wb k ((List.range (j + 1 + 1)).map fun t => dI (rowT wb k t)) (dd d) (dd (dI (rowT wb k (j + 1)))), q, ?_, rfl, _, _, rfl⟩
      unfold L_law_rounds_2
      rw [seq_nx (after j _ _ q)]
      have t := test j (dd d) q
      rw [decide_eq_false (R.ne j hj)] at t
      have T2 : b_law_rounds_2l2 (SLo wb k ((List.range (j + 1)).map fun t => dI (rowT wb k t)) (dd d) (dd (dI (rowT wb k (j + 1))))) q = .nx (SLo wb k ((List.range (j + 1)).map fun t => dI (rowT wb k t)) (dd d) (dd (dI (rowT wb k (j + 1))))) q := by
        unfold b_law_rounds_2l2
        rw [sif_f t]
        rfl
      rw [seq_nx T2, sappend_ev (ds := (List.range (j + 1)).map fun t => dI (rowT wb k t)) rfl (by simp; omega), mvar_ev (d := dI (rowT wb k (j + 1))) rfl, toO_ok]
      rw [List.range_succ (n := j + 1), List.map_append]
      rfl) (fun d l q hd hI => by
      obtain ⟨rfl, o4, o5, rfl⟩ := hI
      rw [Nat.zero_add]
      refine ⟨SLo wb k ((List.range (T + 1)).map fun t => dI (rowT wb k t)) (dd d) o5, rfl, ?_⟩
      unfold L_law_rounds_2
      rw [seq_nx (after T _ _ q)]
      have t := test T (dd d) q
      rw [decide_eq_true R.eq] at t
      unfold b_law_rounds_2l2
      rw [sseq_ev, sif_t t]
      simp [sgive, mvar])
  unfold D_law_rounds
  rw [denF_ev (by rfl)]
  show outR (dn_law_rounds [dd (.lst (encW wb)), dd (.int k), none, none, none, none] p) = _
  unfold dn_law_rounds
  rw [seq_nx T1]
  have T2 : b_law_rounds_2 (SLo wb k [dI (rowT wb k 0)] none none) p = .rt (.lst ((List.range (T + 1)).map fun t => dI (rowT wb k t))) p := by
    have m2 : fMul (.int (wb.marks.length : Int)) (.int (k + 2)) = some (.int ((wb.marks.length : Int) * (k + 2))) := fMul_int (.inl (by omega))
    have q1 : fLen [.lst (wb.dues.map dDue)] = some (.int (wb.marks.length : Int)) := by rw [fLen_lst, List.length_map, l3]
    unfold b_law_rounds_2
    rw [sfor_ev]
    simp only [mbind_ev, acons_ev, op2_ev, opn_ev, mvar, mret_ev, List.getElem?_cons_succ, List.getElem?_cons_zero, bind_ok, fIx_lst, enc3, anil_ev, mlift_some, q1, fAdd_int, m2, hr, toO_ok]
    exact e
  rw [sseq_ev, T2]
  rfl
end
end PL
namespace PL
open PySem L2 Den
def stepD : Option Int → D
  | none => .non
  | some m => .int m
def stopT (T : Nat) : Option Int → Nat
  | none => T
  | some m => min T m.toNat
def goes : Option Int → Nat → Bool
  | none, _ => true
  | some m, t => decide ((t : Int) < m)
abbrev KnownWay (w : Str) : Prop := w = "sealed" ∨ w = "first" ∨ w = "second"
theorem way_known {w : Str} (h : KnownWay w) : fInG true [(V.str "sealed"), (V.str "first"), (V.str "second")] (.str w) = some (.bl false) := by
  rcases h with rfl | rfl | rfl <;> rfl
theorem way_third : fInG true [(V.str "sealed"), (V.str "first"), (V.str "second")] (.str "third") = some (.bl true) := rfl
theorem saug_ev {i : Nat} {f : Int → Int → Int} {a : M D} {l : Den.Loc} {p q : List Int} {x y : Int} (h : l[i]? = some (dd (.int x))) (ha : a l p = .ok (.int y) q) : saug i f a l p = .nx (l.set i (dd (.int (f x y)))) q := by
  unfold saug
  simp [Den.intAt, h, ha, sbind_ev]
section
variable (A : CA) {wb : Wb}
abbrev SWo (wb : Wb) (kD st w : D) (o4 o5 o6 : Option L) : Den.Loc := [dd (insW A wb), dd kD, dd st, dd w, o4, o5, o6]
theorem won_while (V : Valid wb) {k : Int} (k0 : 0 ≤ k) (k9 : k ≤ 900) {n : Nat} (hn : (n : Int) = k + 1) {T : Nat} (R : Rest wb k T) (st : Option Int) (hst : ∀ m, st = some m → 0 ≤ m) (w : Str) (p : List Int) : ∀ (d t : Nat), t + d = stopT T st →
    whileN (mand (mtest (op2 (fEqD true) (mvar 5) (mvar 4))) (mor (mtest (op2 fIsN (mvar 2) (mret D.non))) (mtest (op2 fLt (mvar 6) (mvar 2))))) (W_won_states_12 A) (d + 1) (SWo A wb (.int k) (stepD st) (.str w) (dd (lvD n (rowT wb k t))) (dd (lvD n (rowT wb k (t + 1)))) (dd (.int t))) p
      = .nx (SWo A wb (.int k) (stepD st) (.str w) (dd (lvD n (rowT wb k (stopT T st)))) (dd (lvD n (rowT wb k (stopT T st + 1)))) (dd (.int (stopT T st : Nat)))) p := by
  have hle : stopT T st ≤ T := by cases st <;> simp [stopT]; omega
  have test : ∀ t : Nat, (mand (mtest (op2 (fEqD true) (mvar 5) (mvar 4))) (mor (mtest (op2 fIsN (mvar 2) (mret D.non))) (mtest (op2 fLt (mvar 6) (mvar 2))))) (SWo A wb (.int k) (stepD st) (.str w) (dd (lvD n (rowT wb k t))) (dd (lvD n (rowT wb k (t + 1)))) (dd (.int t))) p = .ok (!decide (rowT wb k (t + 1) = rowT wb k t) && goes st t) p := fun t => by
    have e := ne_lv hn (rowT_falls V k0 (t + 1)).parts (rowT_falls V k0 t).parts
    by_cases c : rowT wb k (t + 1) = rowT wb k t
    · rw [decide_eq_true c] at e
      rw [decide_eq_true c]
      simp [mvar, e]
    · rw [decide_eq_false c] at e
      rw [decide_eq_false c]
      cases st with
      | none => simp [mvar, e, stepD, goes]
      | some m => simp [mvar, e, stepD, Den.isNon, goes]
  intro d
  induction d with
  | zero =>
    intro t ht
    have ht' : t = stopT T st := ht
    subst ht'
    have hf : (!decide (rowT wb k (stopT T st + 1) = rowT wb k (stopT T st)) && goes st (stopT T st)) = false := by
      cases st with
      | none => simp [stopT, R.eq]
      | some m =>
        have m0 := hst m rfl
        by_cases c : T ≤ m.toNat
        · have : stopT T (some m) = T := by simp [stopT]; omega
          rw [this, R.eq]
          simp
        · have : stopT T (some m) = m.toNat := by simp [stopT]; omega
          rw [this]
          have : ¬ ((m.toNat : Nat) : Int) < m := by omega
          have : goes (some m) m.toNat = false := decide_eq_false this
          rw [this, Bool.and_false]
    unfold whileN
    rw [sbind_ev, test, hf]
    rfl
  | succ d ih =>
    intro t ht
    have hlt : t < stopT T st := by omega
    have htr : (!decide (rowT wb k (t + 1) = rowT wb k t) && goes st t) = true := by
      rw [decide_eq_false (R.ne t (by omega))]
      cases st with
      | none => rfl
      | some m =>
        have : stopT T (some m) ≤ m.toNat := by simp [stopT]; omega
        have : (t : Int) < m := by omega
        simp [goes, this]
    unfold whileN
    rw [sbind_ev, test, htr, toO_ok, if_pos rfl]
    have B : W_won_states_12 A (SWo A wb (.int k) (stepD st) (.str w) (dd (lvD n (rowT wb k t))) (dd (lvD n (rowT wb k (t + 1)))) (dd (.int t))) p = .nx (SWo A wb (.int k) (stepD st) (.str w) (dd (lvD n (rowT wb k (t + 1)))) (dd (lvD n (rowT wb k (t + 1 + 1)))) (dd (.int ((t + 1 : Nat) : Int)))) p := by
      have e := level_behind_ev A V k0 k9 hn (rowT_falls V k0 (t + 1)).len (rowT_falls V k0 (t + 1)).parts w p
      have b1 : sasg (mvar 5) (gset 4) (SWo A wb (.int k) (stepD st) (.str w) (dd (lvD n (rowT wb k t))) (dd (lvD n (rowT wb k (t + 1)))) (dd (.int t))) p = .nx (SWo A wb (.int k) (stepD st) (.str w) (dd (lvD n (rowT wb k (t + 1)))) (dd (lvD n (rowT wb k (t + 1)))) (dd (.int t))) p := by
        rw [sasg_ev, mvar_ev (d := lvD n (rowT wb k (t + 1))) rfl]
        rfl
      have b2 : b_won_states_12w2 A (SWo A wb (.int k) (stepD st) (.str w) (dd (lvD n (rowT wb k (t + 1)))) (dd (lvD n (rowT wb k (t + 1)))) (dd (.int t))) p = .nx (SWo A wb (.int k) (stepD st) (.str w) (dd (lvD n (rowT wb k (t + 1)))) (dd (lvD n (rowT wb k (t + 1 + 1)))) (dd (.int t))) p := by
        unfold b_won_states_12w2
        rw [sasg_ev, mcall_ev]
        simp only [acons_ev, anil_ev, mvar, List.getElem?_cons_succ, List.getElem?_cons_zero, bind_ok, e, toO_ok]
        rfl
      unfold W_won_states_12
      rw [seq_nx b1, seq_nx b2, saug_ev (x := (t : Int)) (y := 1) rfl rfl]
      rfl
    rw [B]
    exact ih (t + 1) (by omega)
theorem web_size8 (k : Int) (hw : wb.marks.length ≤ 8) (p : List Int) : D_check_listing_size A [insW A wb, .int k] p = if k ≤ 12 then .ok .non p else .err 3 p := by
  have e1 := check_most_ev (wb.marks.length : Int) 8 p
  have e2 := check_most_ev k 12 p
  rw [if_pos (by omega)] at e1
  by_cases c : k ≤ 12
  · rw [if_pos c] at e2 ⊢
    simp [D_check_listing_size, denF, dn_check_listing_size, b_check_listing_size_1, b_check_listing_size_2, locOf, mvar, e1, e2]
  · rw [if_neg c] at e2 ⊢
    simp [D_check_listing_size, denF, dn_check_listing_size, b_check_listing_size_1, b_check_listing_size_2, locOf, mvar, e1, e2]
theorem web_size9 (k : Int) (hw : 9 ≤ wb.marks.length) (p : List Int) : D_check_listing_size A [insW A wb, .int k] p = .err 3 p := by
  have e1 := check_most_ev (wb.marks.length : Int) 8 p
  rw [if_neg (by omega)] at e1
  simp [D_check_listing_size, denF, dn_check_listing_size, b_check_listing_size_1, b_check_listing_size_2, locOf, mvar, e1]
theorem won1 (kD st w : D) (p : List Int) : b_won_states_01 A (SWo A wb kD st w none none none) p = .nx (SWo A wb kD st w none none none) p := by
  simp [b_won_states_01, mvar, check_web_ok]
theorem won2 (k : Int) (st w : D) (p : List Int) : b_won_states_02 (SWo A wb (.int k) st w none none none) p = .nx (SWo A wb (.int k) st w none none none) p := by
  simp [b_won_states_02, mvar, whole1]
theorem won3 (kD : D) (st : Option Int) (w : D) (p : List Int) : b_won_states_03 (SWo A wb kD (stepD st) w none none none) p = .nx (SWo A wb kD (stepD st) w none none none) p := by
  cases st with
  | none => simp [b_won_states_03, mvar, stepD, Den.isNon]
  | some m => simp [b_won_states_03, mvar, stepD, Den.isNon, whole1]
theorem won4 (kD st : D) (w : Str) (p : List Int) : b_won_states_04 (SWo A wb kD st (.str w) none none none) p = .nx (SWo A wb kD st (.str w) none none none) p := by
  have e : fIs1 [D.str w, D.ty Ty.str] = some (.bl true) := rfl
  simp [b_won_states_04, mvar, e]
theorem won5 {k : Int} (k0 : 0 ≤ k) (st w : D) (p : List Int) : b_won_states_05 (SWo A wb (.int k) st w none none none) p = .nx (SWo A wb (.int k) st w none none none) p := by
  have e := check_least_ev k 0 p
  rw [if_pos k0] at e
  simp [b_won_states_05, mvar, e]
theorem won6 (kD : D) (st : Option Int) (hst : ∀ m, st = some m → 0 ≤ m) (w : D) (p : List Int) : b_won_states_06 (SWo A wb kD (stepD st) w none none none) p = .nx (SWo A wb kD (stepD st) w none none none) p := by
  cases st with
  | none => simp [b_won_states_06, mvar, stepD, Den.isNon]
  | some m =>
    have e := check_least_ev m 0 p
    rw [if_pos (hst m rfl)] at e
    simp [b_won_states_06, mvar, stepD, Den.isNon, e]
theorem won7 (kD st : D) {w : Str} (h : KnownWay w) (p : List Int) : b_won_states_07 (SWo A wb kD st (.str w) none none none) p = .nx (SWo A wb kD st (.str w) none none none) p := by
  simp [b_won_states_07, mvar, way_known h]
theorem won_ev (V : Valid wb) (hw : wb.marks.length ≤ 8) {k : Int} (k0 : 0 ≤ k) (k12 : k ≤ 12) {n : Nat} (hn : (n : Int) = k + 1) {T : Nat} (R : Rest wb k T) (st : Option Int) (hst : ∀ m, st = some m → 0 ≤ m) {w : Str} (hy : KnownWay w) (p : List Int) :
    D4_won_states A [insW A wb, .int k, stepD st, .str w] p = .ok (lvD n (rowT wb k (stopT T st))) p := by
  have C := claimable_ev A V k0 (by omega) hn p
  have S := web_size8 A k hw p
  rw [if_pos k12] at S
  have B := level_behind_ev A V k0 (by omega) hn (rowT_falls V k0 0).len (rowT_falls V k0 0).parts w p
  have T8 : b_won_states_08 A (SWo A wb (.int k) (stepD st) (.str w) none none none) p = .nx (SWo A wb (.int k) (stepD st) (.str w) none none none) p := by simp [b_won_states_08, mvar, S]
  have T9 : b_won_states_09 A (SWo A wb (.int k) (stepD st) (.str w) none none none) p = .nx (SWo A wb (.int k) (stepD st) (.str w) (dd (lvD n (rowT wb k 0))) none none) p := by
    unfold b_won_states_09
    rw [sasg_ev, mcall_ev]
    simp only [acons_ev, anil_ev, mvar, List.getElem?_cons_succ, List.getElem?_cons_zero, bind_ok, C, toO_ok]
    rfl
  have T10 : b_won_states_10 A (SWo A wb (.int k) (stepD st) (.str w) (dd (lvD n (rowT wb k 0))) none none) p = .nx (SWo A wb (.int k) (stepD st) (.str w) (dd (lvD n (rowT wb k 0))) (dd (lvD n (rowT wb k 1))) none) p := by
    unfold b_won_states_10
    rw [sasg_ev, mcall_ev]
    simp only [acons_ev, anil_ev, mvar, List.getElem?_cons_succ, List.getElem?_cons_zero, bind_ok, B, toO_ok]
    rfl
  have T12 := swhile_ev (won_while A V k0 (by omega) hn R st hst w p (stopT T st) 0 (Nat.zero_add _)) (fun z => nomatch z)
  unfold D4_won_states
  rw [denF_ev (by rfl)]
  show outR (dn_won_states A (SWo A wb (.int k) (stepD st) (.str w) none none none) p) = _
  unfold dn_won_states
  rw [seq_nx (won1 A _ _ _ p), seq_nx (won2 A _ _ _ p), seq_nx (won3 A _ _ _ p), seq_nx (won4 A _ _ _ p), seq_nx (won5 A k0 _ _ p), seq_nx (won6 A _ st hst _ p), seq_nx (won7 A _ _ hy p), seq_nx T8, seq_nx T9, seq_nx T10]
  have T11 : sasg (mret (D.int 0)) (gset 6) (SWo A wb (.int k) (stepD st) (.str w) (dd (lvD n (rowT wb k 0))) (dd (lvD n (rowT wb k 1))) none) p = .nx (SWo A wb (.int k) (stepD st) (.str w) (dd (lvD n (rowT wb k 0))) (dd (lvD n (rowT wb k (0 + 1)))) (dd (.int ((0 : Nat) : Int)))) p := by simp
  rw [seq_nx T11, seq_nx (show b_won_states_12 A _ p = _ from T12), sret_ev, mvar_ev (d := lvD n (rowT wb k (stopT T st))) rfl]
  rfl
end
end PL
namespace PL
open PySem L2 Den
def hitB (wb : Wb) (k : Int) (i : Nat) (P : Int) (t : Nat) : Bool := decide ((rowT wb k t)[i]?.getD 0 ≤ P)
theorem find_range {b : Nat → Bool} : ∀ {n : Nat}, (List.range n).find? b = none → ∀ t < n, b t = false := fun h t ht => by
  have := List.find?_eq_none.mp h t (List.mem_range.mpr ht)
  simpa using this
theorem find_range_some {b : Nat → Bool} : ∀ {n t : Nat}, (List.range n).find? b = some t → t < n ∧ b t = true ∧ ∀ j < t, b j = false := fun {n t} h => by
  have h1 := List.find?_some h
  have h2 := List.mem_range.mp (List.mem_of_find?_eq_some h)
  refine ⟨h2, h1, fun j hj => ?_⟩
  obtain ⟨-, as, bs, e, hb⟩ := List.find?_eq_some_iff_append.mp h
  have hl : as.length = t := by
    have a : (List.range n)[as.length]? = some t := by rw [e]; simp
    have h3 : as.length < n := by
      have := congrArg List.length e
      simp at this
      omega
    rw [List.getElem?_range h3] at a
    exact Option.some.inj a
  have : j ∈ as := by
    have a : (List.range n)[j]? = as[j]? := by rw [e, List.getElem?_append_left (by omega)]
    rw [List.getElem?_range (by omega)] at a
    exact List.mem_of_getElem? a.symm
  simpa using hb j this
def hitD (wb : Wb) (k : Int) (T i : Nat) (P : Int) : D := match (List.range (T + 1)).find? (hitB wb k i P) with
  | some t => .int (t : Int)
  | none => .non
theorem law_level_ev {wb : Wb} (V : Valid wb) {k : Int} (k0 : 0 ≤ k) {T : Nat} (hT : T < 900) {i : Nat} (hi : i < wb.marks.length) (P : Int) (p : List Int) :
    D_law_level [.lst ((List.range (T + 1)).map fun t => dI (rowT wb k t)), .int i, .int P] p = .ok (hitD wb k T i P) p := by
  have hr := rngN (n := T + 1) (by omega)
  rw [rng_nat] at hr
  unfold D_law_level
  rw [denF_ev (by rfl)]
  show outR (dn_law_level [dd (.lst ((List.range (T + 1)).map fun t => dI (rowT wb k t))), dd (.int i), dd (.int P), none] p) = _
  have h := loop_hit (i := 3) (body := L_law_level_1) (fun o => [dd (.lst ((List.range (T + 1)).map fun t => dI (rowT wb k t))), dd (.int i), dd (.int P), o]) (p := p) (fun _ _ => rfl) (fun j : Nat => D.int (j : Int)) (hitB wb k i P) (fun j => .int (j : Int)) (xs := List.range (T + 1)) (fun t ht => by
    have ht := List.mem_range.mp ht
    have e1 : atI ((List.range (T + 1)).map fun t => dI (rowT wb k t)) (t : Int) = some (dI (rowT wb k t)) := atI_nat (by simp [ht])
    have e2 : fIx (dI (rowT wb k t)) (.int (i : Int)) = some (.int ((rowT wb k t)[i]?.getD 0)) := atI_row (by rw [(rowT_falls V k0 t).len]; exact hi)
    unfold L_law_level_1 hitB
    rw [sif_ev]
    simp only [mtest_ev, op2_ev, mvar, List.getElem?_cons_succ, List.getElem?_cons_zero, bind_ok, fIx_lst, e1, mlift_some, e2, fGe_int, boolOf_bl, toO_ok]
    by_cases c : (rowT wb k t)[i]?.getD 0 ≤ P
    · simp [c, mvar]
    · simp [c]) none
  have e0 : ∀ o, b_law_level_1 [dd (.lst ((List.range (T + 1)).map fun t => dI (rowT wb k t))), dd (.int i), dd (.int P), none] p = o ↔ loop (gset 3) L_law_level_1 ((List.range (T + 1)).map fun j : Nat => D.int (j : Int)) [dd (.lst ((List.range (T + 1)).map fun t => dI (rowT wb k t))), dd (.int i), dd (.int P), none] p = o := fun o => by
    unfold b_law_level_1
    rw [sfor_ev]
    have q : fLen [.lst ((List.range (T + 1)).map fun t => dI (rowT wb k t))] = some (.int ((T + 1 : Nat) : Int)) := by rw [fLen_lst, List.length_map, List.length_range]
    simp only [mbind_ev, acons_ev, opn_ev, mvar, List.getElem?_cons_succ, List.getElem?_cons_zero, bind_ok, anil_ev, q, mlift_some, hr, toO_ok]
  unfold dn_law_level hitD
  rcases h with ⟨hf, o', e⟩ | ⟨t, hf, e⟩
  · rw [hf, seq_nx ((e0 _).mpr e)]
    rfl
  · rw [hf, sseq_ev, (e0 _).mpr e]
    rfl
section
variable (A : CA) {wb : Wb}
abbrev SVo (wb : Wb) (k : Int) (i : Nat) (P : Int) (o4 o5 o6 : Option L) : Den.Loc := [dd (insW A wb), dd (.int k), dd (.int i), dd (.int P), o4, o5, o6]
theorem level_test (V : Valid wb) {k : Int} (k0 : 0 ≤ k) {n : Nat} (hn : (n : Int) = k + 1) {i : Nat} (hi : i < wb.marks.length) {P : Int} (h0 : 0 ≤ P) (hk : P ≤ k) (o5 o6 : Option L) (t : Nat) (p : List Int) :
    mtru (op2 fIx (op2 fIx (mvar 4) (mvar 2)) (mvar 3)) (SVo A wb k i P (dd (lvD n (rowT wb k t))) o5 o6) p = .ok (hitB wb k i P t) p := by
  have e1 : fIx (lvD n (rowT wb k t)) (.int (i : Int)) = some (.tup (bD n ((rowT wb k t)[i]?.getD 0))) := by
    rw [lvD_at (by omega) (by rw [(rowT_falls V k0 t).len]; omega), rowAt_nat]
  have e2 : fIx (.tup (bD n ((rowT wb k t)[i]?.getD 0))) (.int P) = some (.bl (decide ((rowT wb k t)[i]?.getD 0 ≤ P))) := bD_at h0 (by omega)
  rw [mtru_ev, op2_ev, op2_ev, mvar_ev (d := lvD n (rowT wb k t)) rfl, bind_ok, mvar_ev (d := .int (i : Int)) rfl, bind_ok, e1, mlift_some, bind_ok, mvar_ev (d := .int P) rfl, bind_ok, e2, mlift_some, bind_ok, truOf_bl]
  rfl
theorem level_while (V : Valid wb) {k : Int} (k0 : 0 ≤ k) (k9 : k ≤ 900) {n : Nat} (hn : (n : Int) = k + 1) {T : Nat} (R : Rest wb k T) {i : Nat} (hi : i < wb.marks.length) {P : Int} (h0 : 0 ≤ P) (hk : P ≤ k) (s : Nat) (hs : s ≤ T) (hb : ∀ j < s, hitB wb k i P j = false) (he : s = T ∨ hitB wb k i P s = true) (p : List Int) : ∀ (d t : Nat), t + d = s →
    whileN (mand (mtest (op2 (fEqD true) (mvar 5) (mvar 4))) (mnot (mtru (op2 fIx (op2 fIx (mvar 4) (mvar 2)) (mvar 3))))) (W_level_of_6 A) (d + 1) (SVo A wb k i P (dd (lvD n (rowT wb k t))) (dd (lvD n (rowT wb k (t + 1)))) (dd (.int t))) p
      = .nx (SVo A wb k i P (dd (lvD n (rowT wb k s))) (dd (lvD n (rowT wb k (s + 1)))) (dd (.int (s : Nat)))) p := by
  have test : ∀ t : Nat, (mand (mtest (op2 (fEqD true) (mvar 5) (mvar 4))) (mnot (mtru (op2 fIx (op2 fIx (mvar 4) (mvar 2)) (mvar 3))))) (SVo A wb k i P (dd (lvD n (rowT wb k t))) (dd (lvD n (rowT wb k (t + 1)))) (dd (.int t))) p = .ok (!decide (rowT wb k (t + 1) = rowT wb k t) && !hitB wb k i P t) p := fun t => by
    have e := ne_lv hn (rowT_falls V k0 (t + 1)).parts (rowT_falls V k0 t).parts
    have l := level_test A V k0 hn hi h0 hk (dd (lvD n (rowT wb k (t + 1)))) (dd (.int t)) t p
    have q : mtest (op2 (fEqD true) (mvar 5) (mvar 4)) (SVo A wb k i P (dd (lvD n (rowT wb k t))) (dd (lvD n (rowT wb k (t + 1)))) (dd (.int t))) p = .ok (!decide (rowT wb k (t + 1) = rowT wb k t)) p := by
      simp [mvar, e]
    rw [mand_ev, q, bind_ok, mnot_ev, l]
    cases (!decide (rowT wb k (t + 1) = rowT wb k t)) <;> rfl
  intro d
  induction d with
  | zero =>
    intro t ht
    have ht' : t = s := ht
    subst ht'
    have hf : (!decide (rowT wb k (t + 1) = rowT wb k t) && !hitB wb k i P t) = false := by
      rcases he with rfl | he
      · rw [R.eq]; simp
      · rw [he]; simp
    unfold whileN
    rw [sbind_ev, test, hf]
    rfl
  | succ d ih =>
    intro t ht
    have htr : (!decide (rowT wb k (t + 1) = rowT wb k t) && !hitB wb k i P t) = true := by
      rw [decide_eq_false (R.ne t (by omega)), hb t (by omega)]
      rfl
    unfold whileN
    rw [sbind_ev, test, htr, toO_ok, if_pos rfl]
    have B : W_level_of_6 A (SVo A wb k i P (dd (lvD n (rowT wb k t))) (dd (lvD n (rowT wb k (t + 1)))) (dd (.int t))) p = .nx (SVo A wb k i P (dd (lvD n (rowT wb k (t + 1)))) (dd (lvD n (rowT wb k (t + 1 + 1)))) (dd (.int ((t + 1 : Nat) : Int)))) p := by
      have e := level_behind_ev A V k0 k9 hn (rowT_falls V k0 (t + 1)).len (rowT_falls V k0 (t + 1)).parts "sealed" p
      have b1 : sasg (mvar 5) (gset 4) (SVo A wb k i P (dd (lvD n (rowT wb k t))) (dd (lvD n (rowT wb k (t + 1)))) (dd (.int t))) p = .nx (SVo A wb k i P (dd (lvD n (rowT wb k (t + 1)))) (dd (lvD n (rowT wb k (t + 1)))) (dd (.int t))) p := by
        rw [sasg_ev, mvar_ev (d := lvD n (rowT wb k (t + 1))) rfl]
        rfl
      have b2 : b_level_of_6w2 A (SVo A wb k i P (dd (lvD n (rowT wb k (t + 1)))) (dd (lvD n (rowT wb k (t + 1)))) (dd (.int t))) p = .nx (SVo A wb k i P (dd (lvD n (rowT wb k (t + 1)))) (dd (lvD n (rowT wb k (t + 1 + 1)))) (dd (.int t))) p := by
        unfold b_level_of_6w2
        rw [sasg_ev, mcall_ev]
        simp only [acons_ev, anil_ev, mvar, mret_ev, List.getElem?_cons_succ, List.getElem?_cons_zero, bind_ok, e, toO_ok]
        rfl
      unfold W_level_of_6
      rw [seq_nx b1, seq_nx b2, saug_ev (x := (t : Int)) (y := 1) rfl rfl]
      rfl
    rw [B]
    exact ih (t + 1) (by omega)
theorem level_of_ev (V : Valid wb) (hw : wb.marks.length ≤ 8) {k : Int} (k0 : 0 ≤ k) (k12 : k ≤ 12) {n : Nat} (hn : (n : Int) = k + 1) {T : Nat} (R : Rest wb k T) {i : Nat} (hi : i < wb.marks.length) {P : Int} (h0 : 0 ≤ P) (hk : P ≤ k) (p : List Int) :
    D_level_of A [insW A wb, .int k, .int i, .int P] p = .ok (hitD wb k T i P) p := by
  have C := claimable_ev A V k0 (by omega) hn p
  have S := web_size8 A k hw p
  rw [if_pos k12] at S
  have B := level_behind_ev A V k0 (by omega) hn (rowT_falls V k0 0).len (rowT_falls V k0 0).parts "sealed" p
  have SR := state_range_ev A (wb := wb) k (i : Int) P p
  rw [if_pos ⟨k0, ⟨by omega, by omega⟩, h0, hk⟩] at SR
  have CS : D_check_state A [insW A wb, .int k, .int (i : Int), .int P] p = .ok .non p := by
    simp [D_check_state, denF, dn_check_state, b_check_state_1, b_check_state_2, b_check_state_3, locOf, mvar, check_web_ok, whole3, SR]
  have T1 : b_level_of_1 A (SVo A wb k i P none none none) p = .nx (SVo A wb k i P none none none) p := by simp [b_level_of_1, mvar, CS]
  have T2 : b_level_of_2 A (SVo A wb k i P none none none) p = .nx (SVo A wb k i P none none none) p := by simp [b_level_of_2, mvar, S]
  have T3 : b_level_of_3 A (SVo A wb k i P none none none) p = .nx (SVo A wb k i P (dd (lvD n (rowT wb k 0))) none none) p := by
    unfold b_level_of_3
    rw [sasg_ev, mcall_ev]
    simp only [acons_ev, anil_ev, mvar, List.getElem?_cons_succ, List.getElem?_cons_zero, bind_ok, C, toO_ok]
    rfl
  have T4 : b_level_of_4 A (SVo A wb k i P (dd (lvD n (rowT wb k 0))) none none) p = .nx (SVo A wb k i P (dd (lvD n (rowT wb k 0))) (dd (lvD n (rowT wb k 1))) none) p := by
    unfold b_level_of_4
    rw [sasg_ev, mcall_ev]
    simp only [acons_ev, anil_ev, mvar, mret_ev, List.getElem?_cons_succ, List.getElem?_cons_zero, bind_ok, B, toO_ok]
    rfl
  have T5 : sasg (mret (D.int 0)) (gset 6) (SVo A wb k i P (dd (lvD n (rowT wb k 0))) (dd (lvD n (rowT wb k 1))) none) p = .nx (SVo A wb k i P (dd (lvD n (rowT wb k 0))) (dd (lvD n (rowT wb k (0 + 1)))) (dd (.int ((0 : Nat) : Int)))) p := by simp
  unfold D_level_of
  rw [denF_ev (by rfl)]
  show outR (dn_level_of A (SVo A wb k i P none none none) p) = _
  unfold dn_level_of
  rw [seq_nx T1, seq_nx T2, seq_nx T3, seq_nx T4, seq_nx T5]
  unfold hitD
  cases hf : (List.range (T + 1)).find? (hitB wb k i P) with
  | none =>
    have hno := find_range hf
    have T6 := swhile_ev (level_while A V k0 (by omega) hn R hi h0 hk T (Nat.le_refl T) (fun j hj => hno j (by omega)) (.inl rfl) p T 0 (Nat.zero_add _)) (fun z => nomatch z)
    rw [seq_nx (show b_level_of_6 A _ p = _ from T6)]
    have l := level_test A V k0 hn hi h0 hk (dd (lvD n (rowT wb k (T + 1)))) (dd (.int (T : Int))) T p
    rw [hno T (by omega)] at l
    unfold b_level_of_7
    rw [sret_ev, mif_ev, l]
    rfl
  | some t =>
    obtain ⟨h1, h2, h3⟩ := find_range_some hf
    have T6 := swhile_ev (level_while A V k0 (by omega) hn R hi h0 hk t (by omega) h3 (.inr h2) p t 0 (Nat.zero_add _)) (fun z => nomatch z)
    rw [seq_nx (show b_level_of_6 A _ p = _ from T6)]
    have l := level_test A V k0 hn hi h0 hk (dd (lvD n (rowT wb k (t + 1)))) (dd (.int (t : Int))) t p
    rw [h2] at l
    unfold b_level_of_7
    rw [sret_ev, mif_ev, l]
    rfl
end
theorem fNe_self_bl (b : Bool) : fNe (.bl b) (.bl b) = some (.bl false) := by cases b <;> rfl
theorem law_states_ev {n : Nat} {k : Int} (hn : (n : Int) = k + 1) (k0 : 0 ≤ k) (k9 : k ≤ 900) {r : List Int} (hl : r.length ≤ 900) (p : List Int) : D_law_states [lvD n r, .int k, dI r] p = .ok (.bl true) p := by
  have hr1 := rngN (n := r.length) (by omega)
  have hr2 := rng1_int (n := k + 1) (by omega)
  rw [show (k + 1).toNat = n by omega] at hr2
  have t1 : ∀ ds : List D, fIs1 [.tup ds, D.ty Ty.tup] = some (.bl true) := fun _ => rfl
  have t2 : ∀ b : Bool, fIs1 [.bl b, D.ty Ty.bl] = some (.bl true) := fun _ => rfl
  have q1 : fLen [lvD n r] = some (.int (r.length : Int)) := by unfold lvD; rw [fLen_tup, List.length_map]
  have q2 : fLen [dI r] = some (.int (r.length : Int)) := by unfold dI; rw [fLen_lst, List.length_map]
  have T1 : b_law_states_1 [dd (lvD n r), dd (.int k), dd (dI r), none, none] p = .nx [dd (lvD n r), dd (.int k), dd (dI r), none, none] p := by
    have t := t1 (r.map fun v => .tup (bD n v))
    unfold b_law_states_1
    rw [sif_ev]
    simp only [mor_ev, mnot_ev, mtru_ev, opn_ev, acons_ev, anil_ev, mtest_ev, op2_ev, mvar, mret_ev, List.getElem?_cons_succ, List.getElem?_cons_zero, bind_ok, q1, q2, mlift_some, fNe_int, boolOf_bl, show fIs1 [lvD n r, D.ty Ty.tup] = some (.bl true) from t, truOf_bl]
    simp
  have inner : ∀ (i : Nat) (o4 : Option L), i < r.length → ∃ o4', b_law_states_2l2 [dd (lvD n r), dd (.int k), dd (dI r), dd (.int (i : Int)), o4] p = .nx [dd (lvD n r), dd (.int k), dd (dI r), dd (.int (i : Int)), o4'] p := fun i o4 hi => by
    have e1 : fIx (lvD n r) (.int (i : Int)) = some (.tup (bD n (r[i]?.getD 0))) := by rw [lvD_at (by omega) (by omega), rowAt_nat]
    have e2 : fIx (dI r) (.int (i : Int)) = some (.int (r[i]?.getD 0)) := atI_row hi
    obtain ⟨o', e⟩ := loop_env (i := 4) (body := L_law_states_2l2) (fun o => [dd (lvD n r), dd (.int k), dd (dI r), dd (.int (i : Int)), o]) (p := p) (fun _ _ => rfl) (ds := rngD 0 n) (fun d hd => by
      obtain ⟨j, hj, rfl⟩ := rngD_mem hd
      rw [Int.zero_add]
      have e3 : fIx (.tup (bD n (r[i]?.getD 0))) (.int (j : Int)) = some (.bl (decide (r[i]?.getD 0 ≤ (j : Int)))) := bD_at (by omega) (by omega)
      unfold L_law_states_2l2
      rw [sif_ev]
      simp only [mor_ev, mnot_ev, mtru_ev, opn_ev, acons_ev, anil_ev, mtest_ev, op2_ev, mvar, mret_ev, List.getElem?_cons_succ, List.getElem?_cons_zero, bind_ok, e1, e2, e3, mlift_some, t2, truOf_bl, fGe_int, fNe_self_bl, boolOf_bl]
      simp) o4
    refine ⟨o', ?_⟩
    unfold b_law_states_2l2
    rw [sfor_ev]
    simp only [mbind_ev, acons_ev, op2_ev, mvar, mret_ev, List.getElem?_cons_succ, List.getElem?_cons_zero, bind_ok, anil_ev, fAdd_int, mlift_some, hr2, toO_ok]
    exact e
  obtain ⟨l', q, e, rfl, o3, o4, rfl⟩ := loop_run (tg := gset 3) (body := sseq b_law_states_2l1 b_law_states_2l2)
    (fun (_ : Nat) (l : Den.Loc) (q : List Int) => q = p ∧ ∃ o3 o4, l = [dd (lvD n r), dd (.int k), dd (dI r), o3, o4])
    (ds := rngD 0 r.length) (k := 0) (l := [dd (lvD n r), dd (.int k), dd (dI r), none, none]) (p := p) ⟨rfl, _, _, rfl⟩ (fun j d l q hd hI => by
      obtain ⟨rfl, o3, o4, rfl⟩ := hI
      obtain ⟨hj, rfl⟩ := rngD_get hd
      rw [Int.zero_add]
      obtain ⟨o4', e⟩ := inner j o4 hj
      refine ⟨[dd (lvD n r), dd (.int k), dd (dI r), dd (.int (j : Int)), o4], rfl, _, _, .inl ?_, rfl, dd (.int (j : Int)), o4', rfl⟩
      have e1 : fIx (lvD n r) (.int (j : Int)) = some (.tup (bD n (r[j]?.getD 0))) := by rw [lvD_at (by omega) (by omega), rowAt_nat]
      have q3 : fLen [.tup (bD n (r[j]?.getD 0))] = some (.int (n : Int)) := by rw [fLen_tup, bD_len]
      have B : b_law_states_2l1 [dd (lvD n r), dd (.int k), dd (dI r), dd (.int (j : Int)), o4] q = .nx [dd (lvD n r), dd (.int k), dd (dI r), dd (.int (j : Int)), o4] q := by
        unfold b_law_states_2l1
        rw [sif_ev]
        simp only [mor_ev, mnot_ev, mtru_ev, opn_ev, acons_ev, anil_ev, mtest_ev, op2_ev, mvar, mret_ev, List.getElem?_cons_succ, List.getElem?_cons_zero, bind_ok, e1, q3, mlift_some, t1, truOf_bl, fAdd_int, fNe_int, boolOf_bl, hn]
        simp
      rw [seq_nx B]
      exact e)
  have T2 : b_law_states_2 [dd (lvD n r), dd (.int k), dd (dI r), none, none] q = .nx [dd (lvD n r), dd (.int k), dd (dI r), o3, o4] q := by
    unfold b_law_states_2
    rw [sfor_ev]
    simp only [mbind_ev, acons_ev, opn_ev, mvar, List.getElem?_cons_succ, List.getElem?_cons_zero, bind_ok, anil_ev, q2, mlift_some, hr1, toO_ok]
    exact e
  unfold D_law_states
  rw [denF_ev (by rfl)]
  show outR (dn_law_states [dd (lvD n r), dd (.int k), dd (dI r), none, none] q) = _
  unfold dn_law_states
  rw [seq_nx T1, seq_nx T2]
  simp
end PL
namespace PL
open PySem L2 Den
section
variable (A : CA) {wb : Wb}
theorem check_web_non (p : List Int) : D_check_web A [.non] p = .err 0 p := by
  have e : fIsC A.Web [.non, .cls A.Web] = some (.bl false) := if_pos rfl
  simp [D_check_web, denF, dn_check_web, locOf, mvar, e]
theorem code10_err {wd k st w : D} {p : List Int} {c : Nat} (h : D4_won_states A [wd, k, st, w] p = .err c p) (hc : c = 0 ∨ c = 1 ∨ c = 3) : D_law_code_k10 A [wd, k, st, w] p = .ok (.int (if c = 0 then 1 else if c = 1 then 2 else 3)) p := by
  rcases hc with rfl | rfl | rfl
  · simp [D_law_code_k10, denF, dn_law_code_k10, b_law_code_k10_2, locOf, mvar, stry, handle, h, noE]
  · simp [D_law_code_k10, denF, dn_law_code_k10, b_law_code_k10_2, locOf, mvar, stry, handle, h, noE]
  · simp [D_law_code_k10, denF, dn_law_code_k10, b_law_code_k10_2, locOf, mvar, stry, handle, h, noE]
theorem code10_ok {wd k st w d : D} {p : List Int} (h : D4_won_states A [wd, k, st, w] p = .ok d p) : D_law_code_k10 A [wd, k, st, w] p = .ok (.int 0) p := by
  simp [D_law_code_k10, denF, dn_law_code_k10, b_law_code_k10_2, locOf, mvar, stry, handle, h, noE]
theorem lcode_err {wd k st w : D} {p : List Int} {c : Nat} (h : D_level_of A [wd, k, st, w] p = .err c p) (hc : c = 0 ∨ c = 1 ∨ c = 3) : D_law_level_code A [wd, k, st, w] p = .ok (.int (if c = 0 then 1 else if c = 1 then 2 else 3)) p := by
  rcases hc with rfl | rfl | rfl
  · simp [D_law_level_code, denF, dn_law_level_code, b_law_level_code_2, locOf, mvar, stry, handle, h, noE]
  · simp [D_law_level_code, denF, dn_law_level_code, b_law_level_code_2, locOf, mvar, stry, handle, h, noE]
  · simp [D_law_level_code, denF, dn_law_level_code, b_law_level_code_2, locOf, mvar, stry, handle, h, noE]
theorem won_web (k st w : D) (p : List Int) : D4_won_states A [.non, k, st, w] p = .err 0 p := by
  unfold D4_won_states
  rw [denF_ev (by rfl)]
  unfold dn_won_states
  have T : b_won_states_01 A (locOf 7 [.non, k, st, w]) p = .err 0 (locOf 7 [.non, k, st, w]) p := by simp [b_won_states_01, locOf, mvar, check_web_non]
  rw [sseq_ev, T]
  rfl
theorem won_start {kD st w : D} {p : List Int} : D4_won_states A [insW A wb, kD, st, w] p = outR (dn_won_states A (SWo A wb kD st w none none none) p) := denF_ev (by rfl)
theorem won_third {k : Int} (k0 : 0 ≤ k) (p : List Int) : D4_won_states A [insW A wb, .int k, .non, .str "third"] p = .err 1 p := by
  rw [won_start]
  show outR (dn_won_states A (SWo A wb (.int k) (stepD none) (.str "third") none none none) p) = _
  unfold dn_won_states
  have T : b_won_states_07 (SWo A wb (.int k) (stepD none) (.str "third") none none none) p = .err 1 (SWo A wb (.int k) (stepD none) (.str "third") none none none) p := by simp [b_won_states_07, mvar, way_third]
  rw [seq_nx (won1 A _ (stepD none) _ p), seq_nx (won2 A _ _ _ p), seq_nx (won3 A _ none _ p), seq_nx (won4 A _ _ _ p), seq_nx (won5 A k0 _ _ p), seq_nx (won6 A _ none (fun _ h => nomatch h) _ p), sseq_ev, T]
  rfl
theorem won_steps {k : Int} (k0 : 0 ≤ k) (w : Str) (p : List Int) : D4_won_states A [insW A wb, .int k, .int (-1), .str w] p = .err 1 p := by
  rw [won_start]
  show outR (dn_won_states A (SWo A wb (.int k) (stepD (some (-1))) (.str w) none none none) p) = _
  unfold dn_won_states
  have e := check_least_ev (-1) 0 p
  rw [if_neg (by omega)] at e
  have T : b_won_states_06 (SWo A wb (.int k) (stepD (some (-1))) (.str w) none none none) p = .err 1 (SWo A wb (.int k) (stepD (some (-1))) (.str w) none none none) p := by simp [b_won_states_06, mvar, stepD, Den.isNon, e]
  rw [seq_nx (won1 A _ (stepD (some (-1))) _ p), seq_nx (won2 A _ _ _ p), seq_nx (won3 A _ (some (-1)) _ p), seq_nx (won4 A _ _ _ p), seq_nx (won5 A k0 _ _ p), sseq_ev, T]
  rfl
theorem won_k {k : Int} (k0 : k < 0) (w : Str) (p : List Int) : D4_won_states A [insW A wb, .int k, .non, .str w] p = .err 1 p := by
  rw [won_start]
  show outR (dn_won_states A (SWo A wb (.int k) (stepD none) (.str w) none none none) p) = _
  unfold dn_won_states
  have e := check_least_ev k 0 p
  rw [if_neg (by omega)] at e
  have T : b_won_states_05 (SWo A wb (.int k) (stepD none) (.str w) none none none) p = .err 1 (SWo A wb (.int k) (stepD none) (.str w) none none none) p := by simp [b_won_states_05, mvar, e]
  rw [seq_nx (won1 A _ (stepD none) _ p), seq_nx (won2 A _ _ _ p), seq_nx (won3 A _ none _ p), seq_nx (won4 A _ _ _ p), sseq_ev, T]
  rfl
theorem won_true (k : Int) (w : D) (p : List Int) : D4_won_states A [insW A wb, .int k, .bl true, w] p = .err 0 p := by
  rw [won_start]
  unfold dn_won_states
  have T : b_won_states_03 (SWo A wb (.int k) (.bl true) w none none none) p = .err 0 (SWo A wb (.int k) (.bl true) w none none none) p := by simp [b_won_states_03, mvar, Den.isNon, whole_b]
  rw [seq_nx (won1 A _ _ _ p), seq_nx (won2 A _ _ _ p), sseq_ev, T]
  rfl
theorem won_way (k : Int) (p : List Int) : D4_won_states A [insW A wb, .int k, .non, .non] p = .err 0 p := by
  rw [won_start]
  show outR (dn_won_states A (SWo A wb (.int k) (stepD none) .non none none none) p) = _
  unfold dn_won_states
  have e : fIs1 [.non, D.ty Ty.str] = some (.bl false) := rfl
  have T : b_won_states_04 (SWo A wb (.int k) (stepD none) .non none none none) p = .err 0 (SWo A wb (.int k) (stepD none) .non none none none) p := by simp [b_won_states_04, mvar, e]
  rw [seq_nx (won1 A _ (stepD none) _ p), seq_nx (won2 A _ _ _ p), seq_nx (won3 A _ none _ p), sseq_ev, T]
  rfl
theorem won_size {k : Int} (k0 : 0 ≤ k) (st : Option Int) (hst : ∀ m, st = some m → 0 ≤ m) {w : Str} (hy : KnownWay w) {p : List Int} (h : D_check_listing_size A [insW A wb, .int k] p = .err 3 p) : D4_won_states A [insW A wb, .int k, stepD st, .str w] p = .err 3 p := by
  rw [won_start]
  unfold dn_won_states
  have T : b_won_states_08 A (SWo A wb (.int k) (stepD st) (.str w) none none none) p = .err 3 (SWo A wb (.int k) (stepD st) (.str w) none none none) p := by simp [b_won_states_08, mvar, h]
  rw [seq_nx (won1 A _ _ _ p), seq_nx (won2 A _ _ _ p), seq_nx (won3 A _ _ _ p), seq_nx (won4 A _ _ _ p), seq_nx (won5 A k0 _ _ p), seq_nx (won6 A _ st hst _ p), seq_nx (won7 A _ _ hy p), sseq_ev, T]
  rfl
theorem lev_start {kD i P : D} {p : List Int} : D_level_of A [insW A wb, kD, i, P] p = outR (dn_level_of A [dd (insW A wb), dd kD, dd i, dd P, none, none, none] p) := denF_ev (by rfl)
theorem lev_err {kD i P : D} {p : List Int} {c : Nat} (h : D_check_state A [insW A wb, kD, i, P] p = .err c p) : D_level_of A [insW A wb, kD, i, P] p = .err c p := by
  rw [lev_start]
  unfold dn_level_of
  have T : b_level_of_1 A [dd (insW A wb), dd kD, dd i, dd P, none, none, none] p = .err c [dd (insW A wb), dd kD, dd i, dd P, none, none, none] p := by simp [b_level_of_1, mvar, h]
  rw [sseq_ev, T]
  rfl
theorem state_ev (k i P : Int) (p : List Int) : D_check_state A [insW A wb, .int k, .int i, .int P] p = if 0 ≤ k ∧ (0 ≤ i ∧ i ≤ (wb.marks.length : Int) - 1) ∧ 0 ≤ P ∧ P ≤ k then .ok .non p else .err 1 p := by
  have SR := state_range_ev A (wb := wb) k i P p
  by_cases c : 0 ≤ k ∧ (0 ≤ i ∧ i ≤ (wb.marks.length : Int) - 1) ∧ 0 ≤ P ∧ P ≤ k
  · rw [if_pos c] at SR ⊢
    simp [D_check_state, denF, dn_check_state, b_check_state_1, b_check_state_2, b_check_state_3, locOf, mvar, check_web_ok, whole3, SR]
  · rw [if_neg c] at SR ⊢
    simp [D_check_state, denF, dn_check_state, b_check_state_1, b_check_state_2, b_check_state_3, locOf, mvar, check_web_ok, whole3, SR]
theorem lev_range {k i P : Int} (h : ¬ (0 ≤ k ∧ (0 ≤ i ∧ i ≤ (wb.marks.length : Int) - 1) ∧ 0 ≤ P ∧ P ≤ k)) (p : List Int) : D_level_of A [insW A wb, .int k, .int i, .int P] p = .err 1 p := lev_err A (by rw [state_ev, if_neg h])
theorem lev_size {k i P : Int} (h : 0 ≤ k ∧ (0 ≤ i ∧ i ≤ (wb.marks.length : Int) - 1) ∧ 0 ≤ P ∧ P ≤ k) {p : List Int} (hs : D_check_listing_size A [insW A wb, .int k] p = .err 3 p) : D_level_of A [insW A wb, .int k, .int i, .int P] p = .err 3 p := by
  have C := state_ev A (wb := wb) k i P p
  rw [if_pos h] at C
  rw [lev_start]
  unfold dn_level_of
  have T : b_level_of_1 A [dd (insW A wb), dd (.int k), dd (.int i), dd (.int P), none, none, none] p = .nx [dd (insW A wb), dd (.int k), dd (.int i), dd (.int P), none, none, none] p := by simp [b_level_of_1, mvar, C]
  have T2 : b_level_of_2 A [dd (insW A wb), dd (.int k), dd (.int i), dd (.int P), none, none, none] p = .err 3 [dd (insW A wb), dd (.int k), dd (.int i), dd (.int P), none, none, none] p := by simp [b_level_of_2, mvar, hs]
  rw [seq_nx T, sseq_ev, T2]
  rfl
theorem lev_str (k i : Int) (s : Str) (p : List Int) : D_level_of A [insW A wb, .int k, .int i, .str s] p = .err 0 p := by
  refine lev_err A ?_
  have e : D_check_whole [.int k, .int i, .str s] p = .err 0 p := check_whole_no _ (by simp) p 2 (.str s) .str rfl rfl rfl fun j hj d hd => by
    match j, hj with
    | 0, _ => exact ⟨k, (Option.some.inj hd).symm⟩
    | 1, _ => exact ⟨i, (Option.some.inj hd).symm⟩
  simp [D_check_state, denF, dn_check_state, b_check_state_1, b_check_state_2, b_check_state_3, locOf, mvar, check_web_ok, e]
theorem line_dfl {n : Nat} (h1 : 1 ≤ n) (h2 : n ≤ 59) (p : List Int) : D_Web_line A [.cls A.Web, .int (n : Int)] p = .ok (insW A (lineW n 1)) p := by
  rw [← web_line_ev A h1 h2 (mk := 1) (.inl rfl) p]
  rfl
def ringW (mk : Int) : Wb := ⟨[[0]], [[0]], [mk], [none]⟩
theorem ringW_valid {mk : Int} (hm : mk = 1 ∨ mk = 2) : Valid (ringW mk) := by
  refine ⟨by simp [ringW], by simp [ringW], rfl, rfl, rfl, ?_, ?_, ?_, ?_, ?_⟩
  · intro ss hs
    have : ss = [0] := by simpa [ringW] using hs
    subst this
    exact ⟨by simp, fun x hx => by have : x = 0 := by simpa using hx
                                   subst this
                                   simp [ringW]⟩
  · intro ss hs
    have : ss = [0] := by simpa [ringW] using hs
    subst this
    exact ⟨by simp, fun x hx => by have : x = 0 := by simpa using hx
                                   subst this
                                   simp [ringW]⟩
  · intro i a b h1 h2
    have e : (ringW mk).first = (ringW mk).second := rfl
    rw [e, h2] at h1
    rw [Option.some.inj h1]
  · intro m h
    have : m = mk := by simpa [ringW] using h
    subst this
    exact hm
  · intro d hd b x e
    have : d = none := by simpa [ringW] using hd
    subst this
    cases e
theorem ring_rest {mk : Int} (hm : mk = 1 ∨ mk = 2) : Rest (ringW mk) 12 0 := by
  rcases hm with rfl | rfl
  · exact ⟨by decide, fun t ht => absurd ht (Nat.not_lt_zero t), by decide⟩
  · exact ⟨by decide, fun t ht => absurd ht (Nat.not_lt_zero t), by decide⟩
def ringG (mk : Int) : Wg := ⟨(false, [(false, [0])]), (false, [(false, [0])]), (false, [mk]), (false, [(true, none)])⟩
theorem ring_ev {mk : Int} (hm : mk = 1 ∨ mk = 2) (p : List Int) : D_Web_ring A [.cls A.Web, .int 1, .int mk] p = .ok (insW A (ringW mk)) p := by
  have e1 := check_plain_ev 1 mk 0 p
  rw [if_pos (by omega), if_pos hm, if_pos (by omega)] at e1
  show denD 3 5 (D.int 1) (dn_Web_ring A) _ p = _
  unfold denD
  rw [if_neg (by simp), denF_ev (by rfl)]
  show outR (dn_Web_ring A [dd (.cls A.Web), dd (.int 1), dd (.int mk), none, none] p) = _
  have T1 : b_Web_ring_1 [dd (.cls A.Web), dd (.int 1), dd (.int mk), none, none] p = .nx [dd (.cls A.Web), dd (.int 1), dd (.int mk), none, none] p := by
    simp [b_Web_ring_1, mvar, e1]
  have c1 : c_Web_ring_1 [dd (.cls A.Web), dd (.int 1), dd (.int mk), none, none] p = .ok [.lst [.int 0]] p := by
    unfold c_Web_ring_1
    have er : rng1 [.int 1] = some [.int 0] := rfl
    have em : fMod (.int 1) (.int 1) = some (.int 0) := rfl
    rw [mcomp_ev (ds := [.int 0]) (p' := p) (by simp [mvar, er]) (by simp)]
    rw [Den.comp_map (by simp) (fun _ => D.lst [.int 0]) (fun d hd => by
      have : d = .int 0 := by simpa using hd
      subst this
      simp [mvar, em])]
    rfl
  have T2 : sasg (mfreeze c_Web_ring_1) (gset 3) [dd (.cls A.Web), dd (.int 1), dd (.int mk), none, none] p = .nx [dd (.cls A.Web), dd (.int 1), dd (.int mk), dd (.lst [.lst [.int 0]]), none] p := by
    rw [sasg_ev, mfreeze_ev, c1]
    rfl
  have r1 : fRep (.lst [.int mk]) (.int 1) = some (.lst [.int mk]) := rfl
  have r2 : fRep (.lst [.non]) (.int 1) = some (.lst [.non]) := rfl
  have V := ringW_valid hm
  have VG : ValidG (ringG mk).wb := by
    have e : (ringG mk).wb = ringW mk := rfl
    rw [e]
    exact ⟨V.n1, V.n2, V.l1, V.l2, V.l3, fun ss hs => ⟨by have := (V.s1 ss hs).1; omega, (V.s1 ss hs).2⟩, fun ss hs => ⟨by have := (V.s2 ss hs).1; omega, (V.s2 ss hs).2⟩, V.both, V.mks, fun d hd b x e => by have := V.du d hd b x e; omega⟩
  have ei := Web_init_ev VG A p
  have eg : [.lst [.lst [.int 0]], .lst [.lst [.int 0]], .lst [.int mk], .lst [.non]] = encG (ringG mk) := by
    simp [encG, ringG, sqD, sqI, sqDue, dDue]
  rw [← eg, show (ringG mk).wb = ringW mk from rfl] at ei
  unfold dn_Web_ring
  rw [seq_nx T1, seq_nx T2]
  unfold b_Web_ring_3
  rw [sret_ev, mmakeV_ev (by rfl)]
  simp only [mmake, mbind_ev, acons_ev, mvar, List.getElem?_cons_succ, List.getElem?_cons_zero, bind_ok, op2_ev, mfreeze_ev, mshort_ev, mtupd_ev, anil_ev, mret_ev, fAdd_int, mlift_some, List.length_cons, List.length_nil, Nat.reduceAdd, Nat.reduceLeDiff, if_true, r1, r2, ei, toO_ok, outR_rt]
  rfl
end
end PL
namespace PL
open PySem L2 Den
section
variable (A : CA) {wb : Wb}
abbrev SRe (wb : Wb) (k : Int) (w : Str) : Den.Loc := [dd (insW A wb), dd (.int k), dd (.int wb.marks.length), dd (.str w)]
theorem refusals10_ev (V : Valid wb) (hw : wb.marks.length ≤ 8) {k : Int} (k0 : 0 ≤ k) {w : Str} (hy : KnownWay w) (p : List Int) : D_law_refusals_k10 A [insW A wb, .int k, .int wb.marks.length, .str w] p = .ok (.bl true) p := by
  have n1 := V.n1
  have m1 : fSub (.int 0) (.int 1) = some (.int (-1)) := rfl
  have c01a := code10_err A (won_third A (wb := wb) k0 p) (.inr (.inl rfl))
  have c01b := code10_err A (won_steps A (wb := wb) k0 w p) (.inr (.inl rfl))
  have c02a := code10_err A (won_k A (wb := wb) (k := -1) (by omega) "third" p) (.inr (.inl rfl))
  have c02b := code10_err A (won_steps A (wb := wb) (k := 13) (by omega) w p) (.inr (.inl rfl))
  have s13 := web_size8 A (wb := wb) 13 hw p
  rw [if_neg (by omega)] at s13
  have c03a := code10_err A (won_size A (wb := wb) (k := 13) (by omega) none (fun _ h => nomatch h) hy s13) (.inr (.inr rfl))
  have c03b := code10_err A (won_true A (wb := wb) (-1) (.str w) p) (.inl rfl)
  have c04a := code10_err A (won_way A (wb := wb) 13 p) (.inl rfl)
  have c04b := code10_err A (won_web A (.int k) .non (.str "third") p) (.inl rfl)
  have L8 := line_dfl A (n := 8) (by omega) (by omega) p
  have L7 := line_dfl A (n := 7) (by omega) (by omega) p
  have V7 := lineW_valid (n := 7) (by omega) (by omega) (mk := 1) (.inl rfl)
  have z8 : (lineW 8 1).marks.length = 9 := by simp [lineW]
  have z7 : (lineW 7 1).marks.length = 8 := by simp [lineW]
  have s9 := web_size9 A (wb := lineW 8 1) 0 (by omega) p
  have c05a := code10_err A (won_size A (wb := lineW 8 1) (k := 0) (by omega) (some 0) (fun m h => by cases h; omega) hy s9) (.inr (.inr rfl))
  obtain ⟨T7, R7⟩ := rest_ex V7 (k := 0) (by omega)
  have c05b := code10_ok A (won_ev A V7 (by omega) (k := 0) (by omega) (by omega) (n := 1) (by omega) R7 (some 0) (fun m h => by cases h; omega) hy p)
  have c06a := lcode_err A (lev_size A (wb := lineW 8 1) (k := 0) (i := 8) (P := 0) ⟨by omega, ⟨by omega, by omega⟩, by omega, by omega⟩ s9) (.inr (.inr rfl))
  have c06b := lcode_err A (lev_size A (wb := wb) (k := 13) (i := 0) (P := 13) ⟨by omega, ⟨by omega, by omega⟩, by omega, by omega⟩ s13) (.inr (.inr rfl))
  have c07a := lcode_err A (lev_range A (wb := wb) (k := k) (i := -1) (P := 0) (by omega) p) (.inr (.inl rfl))
  have c07b := lcode_err A (lev_range A (wb := wb) (k := k) (i := 0) (P := -1) (by omega) p) (.inr (.inl rfl))
  have c08 := lcode_err A (lev_range A (wb := wb) (k := -1) (i := 0) (P := 0) (by omega) p) (.inr (.inl rfl))
  have c09a := lcode_err A (lev_range A (wb := wb) (k := k) (i := wb.marks.length) (P := 0) (by omega) p) (.inr (.inl rfl))
  have c09b := lcode_err A (lev_range A (wb := wb) (k := k) (i := 0) (P := k + 1) (by omega) p) (.inr (.inl rfl))
  have c10a := lcode_err A (lev_str A (wb := wb) 13 wb.marks.length "0" p) (.inl rfl)
  have c10b := lcode_err A (lev_range A (wb := wb) (k := 13) (i := 0) (P := 14) (by omega) p) (.inr (.inl rfl))
  simp only [stepD] at c03a c05a c05b
  simp only [if_true, show ¬ (1 : Nat) = 0 by decide, show ¬ (3 : Nat) = 0 by decide, show ¬ (3 : Nat) = 1 by decide, if_false] at c01a c01b c02a c02b c03a c03b c04a c04b c05a c06a c06b c07a c07b c08 c09a c09b c10a c10b
  have T1 : b_law_refusals_k10_01 A (SRe A wb k w) p = .nx (SRe A wb k w) p := by simp [b_law_refusals_k10_01, mvar, m1, c01a, c01b]
  have T2 : b_law_refusals_k10_02 A (SRe A wb k w) p = .nx (SRe A wb k w) p := by simp [b_law_refusals_k10_02, mvar, m1, c02a, c02b]
  have T3 : b_law_refusals_k10_03 A (SRe A wb k w) p = .nx (SRe A wb k w) p := by simp [b_law_refusals_k10_03, mvar, m1, c03a, c03b]
  have T4 : b_law_refusals_k10_04 A (SRe A wb k w) p = .nx (SRe A wb k w) p := by simp [b_law_refusals_k10_04, mvar, m1, c04a, c04b]
  have T5 : b_law_refusals_k10_05 A (SRe A wb k w) p = .nx (SRe A wb k w) p := by
    have l8 : D_Web_line A [.cls A.Web, .int 8] p = .ok (insW A (lineW 8 1)) p := L8
    have l7 : D_Web_line A [.cls A.Web, .int 7] p = .ok (insW A (lineW 7 1)) p := L7
    simp [b_law_refusals_k10_05, mvar, l8, l7, c05a, c05b]
  have T6 : b_law_refusals_k10_06 A (SRe A wb k w) p = .nx (SRe A wb k w) p := by
    have l8 : D_Web_line A [.cls A.Web, .int 8] p = .ok (insW A (lineW 8 1)) p := L8
    simp [b_law_refusals_k10_06, mvar, l8, c06a, c06b]
  have T7 : b_law_refusals_k10_07 A (SRe A wb k w) p = .nx (SRe A wb k w) p := by simp [b_law_refusals_k10_07, mvar, m1, c07a, c07b]
  have T8 : b_law_refusals_k10_08 A (SRe A wb k w) p = .nx (SRe A wb k w) p := by simp [b_law_refusals_k10_08, mvar, m1, c08]
  have T9 : b_law_refusals_k10_09 A (SRe A wb k w) p = .nx (SRe A wb k w) p := by simp [b_law_refusals_k10_09, mvar, c09a, c09b]
  unfold D_law_refusals_k10
  rw [denF_ev (by rfl)]
  show outR (dn_law_refusals_k10 A (SRe A wb k w) p) = _
  unfold dn_law_refusals_k10
  rw [seq_nx T1, seq_nx T2, seq_nx T3, seq_nx T4, seq_nx T5, seq_nx T6, seq_nx T7, seq_nx T8, seq_nx T9]
  simp [b_law_refusals_k10_10, mvar, c10a, c10b]
end
end PL
namespace PL
open PySem L2 Den
theorem won_plain2 (A : CA) (a b : D) (p : List Int) : D_won_states A [a, b] p = D4_won_states A [a, b, .non, .str "sealed"] p := by
  show denK 4 7 .non (.str "sealed") (dn_won_states A) [a, b] p = denF 4 7 (dn_won_states A) [a, b, .non, .str "sealed"] p
  unfold denK
  rw [if_pos (by rfl)]
  rfl
theorem won_plain3 (A : CA) (a b c : D) (p : List Int) : D_won_states A [a, b, c] p = D4_won_states A [a, b, c, .str "sealed"] p := by
  show denK 4 7 .non (.str "sealed") (dn_won_states A) [a, b, c] p = denF 4 7 (dn_won_states A) [a, b, c, .str "sealed"] p
  unfold denK
  rw [if_neg (by simp), if_pos (by rfl)]
  rfl
theorem ways_ev {v : Int} (h0 : 0 ≤ v) (h1 : v < 3) : ∃ w, KnownWay w ∧ atI [D.str "sealed", D.str "first", D.str "second"] v = some (.str w) := by
  have : v = 0 ∨ v = 1 ∨ v = 2 := by omega
  rcases this with rfl | rfl | rfl
  · exact ⟨_, .inl rfl, rfl⟩
  · exact ⟨_, .inr (.inl rfl), rfl⟩
  · exact ⟨_, .inr (.inr rfl), rfl⟩
abbrev S10 (o2 o3 o4 o5 o6 o7 o8 o9 o10 o11 o12 o13 o14 o15 o16 o17 : Option L) : Den.Loc := [none, dd .pot, o2, o3, o4, o5, o6, o7, o8, o9, o10, o11, o12, o13, o14, o15, o16, o17]
section
variable (A : CA)
theorem turn10 {wb : Wb} (V : Valid wb) (hw : wb.marks.length ≤ 8) {k : Int} (k0 : 0 ≤ k) (k12 : k ≤ 12) {T : Nat} (hT : T < 900) (R : Rest wb k T) (o6 o8 o9 o10 o11 o12 o13 o14 o15 o16 : Option L) (q : List Int) :
    ∃ o13' o14' o15' o16' q', L_law_k10_14 A (S10 (dd (.lst (encW wb))) (dd (.int wb.marks.length)) (dd (.int k)) (dd (.lst ((List.range (T + 1)).map fun t => dI (rowT wb k t)))) o6 (dd (insW A wb)) o8 o9 o10 o11 o12 o13 o14 o15 o16 none) q
      = .nx (S10 (dd (.lst (encW wb))) (dd (.int wb.marks.length)) (dd (.int k)) (dd (.lst ((List.range (T + 1)).map fun t => dI (rowT wb k t)))) o6 (dd (insW A wb)) o8 o9 o10 o11 o12 o13' o14' o15' o16' none) q' := by
  have n1 := V.n1
  obtain ⟨i, q1, e1, i0, i1⟩ := draw_ev (wb.marks.length : Int) (by omega) q
  obtain ⟨P, q2, e2, P0, P1⟩ := draw_ev (k + 1) (by omega) q1
  obtain ⟨j, rfl⟩ := Int.eq_ofNat_of_zero_le i0
  have e3 := level_of_ev A V hw k0 k12 (n := (k + 1).toNat) (by omega) R (i := j) (by omega) P0 (by omega) q2
  have e4 := law_level_ev V k0 hT (i := j) (by omega) P q2
  obtain ⟨rows, hrows⟩ : ∃ L, L = (List.range (T + 1)).map fun t => dI (rowT wb k t) := ⟨_, rfl⟩
  rw [← hrows] at e4 ⊢
  have T1 : ∀ o13 o14 o15 o16, b_law_k10_14l1 (S10 (dd (.lst (encW wb))) (dd (.int wb.marks.length)) (dd (.int k)) (dd (.lst rows)) o6 (dd (insW A wb)) o8 o9 o10 o11 o12 o13 o14 o15 o16 none) q = .nx (S10 (dd (.lst (encW wb))) (dd (.int wb.marks.length)) (dd (.int k)) (dd (.lst rows)) o6 (dd (insW A wb)) o8 o9 o10 o11 o12 (dd (.int (j : Int))) o14 o15 o16 none) q1 := fun _ _ _ _ => by
    simp [b_law_k10_14l1, mvar, e1]
  have T2 : ∀ o13 o14 o15 o16, b_law_k10_14l2 (S10 (dd (.lst (encW wb))) (dd (.int wb.marks.length)) (dd (.int k)) (dd (.lst rows)) o6 (dd (insW A wb)) o8 o9 o10 o11 o12 o13 o14 o15 o16 none) q1 = .nx (S10 (dd (.lst (encW wb))) (dd (.int wb.marks.length)) (dd (.int k)) (dd (.lst rows)) o6 (dd (insW A wb)) o8 o9 o10 o11 o12 o13 (dd (.int P)) o15 o16 none) q2 := fun _ _ _ _ => by
    simp [b_law_k10_14l2, mvar, e2]
  have T3 : ∀ o15 o16, b_law_k10_14l3 A (S10 (dd (.lst (encW wb))) (dd (.int wb.marks.length)) (dd (.int k)) (dd (.lst rows)) o6 (dd (insW A wb)) o8 o9 o10 o11 o12 (dd (.int (j : Int))) (dd (.int P)) o15 o16 none) q2 = .nx (S10 (dd (.lst (encW wb))) (dd (.int wb.marks.length)) (dd (.int k)) (dd (.lst rows)) o6 (dd (insW A wb)) o8 o9 o10 o11 o12 (dd (.int (j : Int))) (dd (.int P)) (dd (hitD wb k T j P)) o16 none) q2 := fun _ _ => by
    simp [b_law_k10_14l3, mvar, e3]
  have T4 : ∀ o15 o16, b_law_k10_14l4 (S10 (dd (.lst (encW wb))) (dd (.int wb.marks.length)) (dd (.int k)) (dd (.lst rows)) o6 (dd (insW A wb)) o8 o9 o10 o11 o12 (dd (.int (j : Int))) (dd (.int P)) o15 o16 none) q2 = .nx (S10 (dd (.lst (encW wb))) (dd (.int wb.marks.length)) (dd (.int k)) (dd (.lst rows)) o6 (dd (insW A wb)) o8 o9 o10 o11 o12 (dd (.int (j : Int))) (dd (.int P)) o15 (dd (hitD wb k T j P)) none) q2 := fun _ _ => by
    simp [b_law_k10_14l4, mvar, e4]
  have T5 : b_law_k10_14l5 (S10 (dd (.lst (encW wb))) (dd (.int wb.marks.length)) (dd (.int k)) (dd (.lst rows)) o6 (dd (insW A wb)) o8 o9 o10 o11 o12 (dd (.int (j : Int))) (dd (.int P)) (dd (hitD wb k T j P)) (dd (hitD wb k T j P)) none) q2 = .nx (S10 (dd (.lst (encW wb))) (dd (.int wb.marks.length)) (dd (.int k)) (dd (.lst rows)) o6 (dd (insW A wb)) o8 o9 o10 o11 o12 (dd (.int (j : Int))) (dd (.int P)) (dd (hitD wb k T j P)) (dd (hitD wb k T j P)) none) q2 := by
    unfold hitD
    cases (List.range (T + 1)).find? (hitB wb k j P) with
    | none => simp [b_law_k10_14l5, mvar, Den.isNon]
    | some t => simp [b_law_k10_14l5, mvar, Den.isNon, is_integer_int]
  refine ⟨dd (.int (j : Int)), dd (.int P), dd (hitD wb k T j P), dd (hitD wb k T j P), q2, ?_⟩
  unfold L_law_k10_14
  rw [seq_nx (T1 _ _ _ _), seq_nx (T2 _ _ _ _), seq_nx (T3 _ _), seq_nx (T4 _ _), T5]
theorem law_k10_run (p : List Int) : ∃ q, dn_law_k10 A (S10 none none none none none none none none none none none none none none none none) p = .rt (.bl true) q := by
  obtain ⟨wb, p1, e1, V, hw5, hw7⟩ := web_ev 5 (by decide) false p
  obtain ⟨k, p2, e2, k0, k5⟩ := draw_ev 5 (by decide) p1
  have n1 := V.n1
  have l1 := V.l1
  obtain ⟨T, R⟩ := rest_ex V k0
  have hT : T < 90 := by
    have := R.lt
    have a : wb.marks.length * (k.toNat + 2) ≤ 7 * 10 := Nat.mul_le_mul hw7 (by omega)
    omega
  have e4 := law_rounds_ev V k0 (by omega) hw7 R p2
  obtain ⟨v, p3, e8, v0, v3⟩ := draw_ev 3 (by decide) p2
  obtain ⟨w, hy, ew⟩ := ways_ev v0 v3
  obtain ⟨lv, p4, e9, lv0, lv1⟩ := draw_ev ((T : Int) + 1 + 2) (by omega) p3
  obtain ⟨v', p5, e13, v0', v3'⟩ := draw_ev 3 (by decide) p4
  obtain ⟨w', hy', ew'⟩ := ways_ev v0' v3'
  have hn : (((k + 1).toNat : Nat) : Int) = k + 1 := by omega
  have W1 := won_ev A V (by omega) k0 (by omega) hn R (some lv) (fun m h => by cases h; exact lv0) hy p4
  have W2 := won_ev A V (by omega) k0 (by omega) hn R none (fun m h => nomatch h) (w := "sealed") (.inl rfl) p4
  have W3 := won_ev A V (by omega) k0 (by omega) hn R none (fun m h => nomatch h) hy' p5
  simp only [stepD] at W1 W2 W3
  have hl : ∀ t, (rowT wb k t).length ≤ 900 := fun t => by rw [(rowT_falls V k0 t).len]; omega
  have L1 := law_states_ev hn k0 (by omega) (hl (stopT T (some lv))) p4
  have L2' := law_states_ev hn k0 (by omega) (hl T) p4
  have L3 := law_states_ev hn k0 (by omega) (hl T) p5
  obtain ⟨rows, hrows⟩ : ∃ L, L = (List.range (T + 1)).map fun t => dI (rowT wb k t) := ⟨_, rfl⟩
  have hat : ∀ t : Nat, t ≤ T → atI rows (t : Int) = some (dI (rowT wb k t)) := fun t ht => by
    rw [hrows]
    exact atI_nat (by rw [List.getElem?_map, List.getElem?_range (by omega)]; rfl)
  have hlen : fLen [.lst rows] = some (.int ((T : Int) + 1)) := by
    rw [fLen_lst, hrows, List.length_map, List.length_range]
    rfl
  have hTT : ((T : Int) + 1 - 1) = (T : Int) := by omega
  have hmin : atI rows (min lv (T : Int)) = some (dI (rowT wb k (stopT T (some lv)))) := by
    have : min lv (T : Int) = ((stopT T (some lv) : Nat) : Int) := by simp only [stopT]; omega
    rw [this]
    exact hat _ (by simp only [stopT]; omega)
  rw [← hrows] at e4
  let sW : Option L := dd (.lst (encW wb))
  let sN : Option L := dd (.int (wb.marks.length : Int))
  let sk : Option L := dd (.int k)
  let sR : Option L := dd (.lst rows)
  let sL : Option L := dd (dI (rowT wb k T))
  let sB : Option L := dd (insW A wb)
  let sY : Option L := dd (.lst [D.str "sealed", D.str "first", D.str "second"])
  let sy : Option L := dd (.str w)
  let sl : Option L := dd (.int lv)
  let sd : Option L := dd (dI (rowT wb k (stopT T (some lv))))
  have B := built9_ev A V p2
  have T1 : b_law_k10_01 (S10 none none none none none none none none none none none none none none none none) p = .nx (S10 sW none none none none none none none none none none none none none none none) p1 := by simp [b_law_k10_01, mvar, e1, sW]
  have T2 : b_law_k10_02 (S10 sW none none none none none none none none none none none none none none none) p1 = .nx (S10 sW sN none none none none none none none none none none none none none none) p1 := by simp [b_law_k10_02, mvar, enc0, l1, sW, sN]
  have T3 : b_law_k10_03 (S10 sW sN none none none none none none none none none none none none none none) p1 = .nx (S10 sW sN sk none none none none none none none none none none none none none) p2 := by simp [b_law_k10_03, mvar, e2, sk]
  have T4 : b_law_k10_04 (S10 sW sN sk none none none none none none none none none none none none none) p2 = .nx (S10 sW sN sk sR none none none none none none none none none none none none) p2 := by simp [b_law_k10_04, mvar, e4, sW, sk, sR]
  have T5 : b_law_k10_05 (S10 sW sN sk sR none none none none none none none none none none none none) p2 = .nx (S10 sW sN sk sR sL none none none none none none none none none none none) p2 := by
    unfold b_law_k10_05
    rw [sasg_ev]
    simp only [op2_ev, opn_ev, acons_ev, anil_ev, mvar, mret_ev, List.getElem?_cons_succ, List.getElem?_cons_zero, bind_ok, mlift_some, sR, hlen, fSub_int, hTT, fIx_lst, hat T (Nat.le_refl T), toO_ok]
    rfl
  have T6 : b_law_k10_06 A (S10 sW sN sk sR sL none none none none none none none none none none none) p2 = .nx (S10 sW sN sk sR sL sB none none none none none none none none none none) p2 := by simp [b_law_k10_06, mvar, B, sW, sB]
  have T7 : b_law_k10_07 (S10 sW sN sk sR sL sB none none none none none none none none none none) p2 = .nx (S10 sW sN sk sR sL sB sY none none none none none none none none none) p2 := by simp [b_law_k10_07, sY]
  have T8 : b_law_k10_08 (S10 sW sN sk sR sL sB sY none none none none none none none none none) p2 = .nx (S10 sW sN sk sR sL sB sY sy none none none none none none none none) p3 := by simp [b_law_k10_08, mvar, e8, sY, ew, sy]
  have T9 : b_law_k10_09 (S10 sW sN sk sR sL sB sY sy none none none none none none none none) p3 = .nx (S10 sW sN sk sR sL sB sY sy sl none none none none none none none) p4 := by
    unfold b_law_k10_09
    rw [sasg_ev]
    simp only [mcall_ev, op2_ev, opn_ev, acons_ev, anil_ev, mvar, mret_ev, List.getElem?_cons_succ, List.getElem?_cons_zero, bind_ok, mlift_some, sR, hlen, fAdd_int, e9, toO_ok]
    rfl
  have T10 : b_law_k10_10 (S10 sW sN sk sR sL sB sY sy sl none none none none none none none) p4 = .nx (S10 sW sN sk sR sL sB sY sy sl sd none none none none none none) p4 := by
    unfold b_law_k10_10
    rw [sasg_ev]
    simp only [op2_ev, opn_ev, acons_ev, anil_ev, mvar, mret_ev, List.getElem?_cons_succ, List.getElem?_cons_zero, bind_ok, mlift_some, sR, sl, hlen, fSub_int, hTT, fMin2_mn, fIx_lst, hmin, toO_ok]
    rfl
  have T11 : b_law_k10_11 A (S10 sW sN sk sR sL sB sY sy sl sd none none none none none none) p4 = .nx (S10 sW sN sk sR sL sB sY sy sl sd none none none none none none) p4 := by simp [b_law_k10_11, mvar, sB, sk, sl, sy, sd, W1, L1]
  have T12 : b_law_k10_12 A (S10 sW sN sk sR sL sB sY sy sl sd none none none none none none) p4 = .nx (S10 sW sN sk sR sL sB sY sy sl sd none none none none none none) p4 := by simp [b_law_k10_12, mvar, sB, sk, sL, won_plain2, W2, stopT, L2']
  have T13 : b_law_k10_13 A (S10 sW sN sk sR sL sB sY sy sl sd none none none none none none) p4 = .nx (S10 sW sN sk sR sL sB sY sy sl sd none none none none none none) p5 := by simp [b_law_k10_13, mvar, sB, sk, sL, sY, e13, ew', W3, stopT, L3]
  have hr2 : rng1 [D.int 2] = some (rngD 0 2) := rngN (n := 2) (by omega)
  obtain ⟨l', p6, e14, o12, o13, o14, o15, o16, rfl⟩ := loop_run (tg := gset 12) (body := L_law_k10_14 A)
    (fun (_ : Nat) (l : Den.Loc) (q : List Int) => ∃ o12 o13 o14 o15 o16, l = S10 sW sN sk sR sL sB sY sy sl sd o12 o13 o14 o15 o16 none)
    (ds := rngD 0 2) (k := 0) (l := S10 sW sN sk sR sL sB sY sy sl sd none none none none none none) (p := p5) ⟨_, _, _, _, _, rfl⟩ (fun j d l q hd hI => by
      obtain ⟨o12, o13, o14, o15, o16, rfl⟩ := hI
      obtain ⟨o13', o14', o15', o16', q', e⟩ := turn10 A V (by omega) k0 (by omega) (show T < 900 by omega) R sL sY sy sl sd (dd d) o13 o14 o15 o16 q
      rw [← hrows] at e
      exact ⟨_, rfl, _, q', .inl e, _, _, _, _, _, rfl⟩)
  have T14 : b_law_k10_14 A (S10 sW sN sk sR sL sB sY sy sl sd none none none none none none) p5 = .nx (S10 sW sN sk sR sL sB sY sy sl sd o12 o13 o14 o15 o16 none) p6 := by
    unfold b_law_k10_14
    rw [sfor_ev]
    simp only [mbind_ev, acons_ev, anil_ev, mret_ev, bind_ok, hr2, mlift_some, toO_ok]
    exact e14
  obtain ⟨mk, p7, e15, m0, m2⟩ := draw_ev 2 (by decide) p6
  have hm : 1 + mk = 1 ∨ 1 + mk = 2 := by omega
  have RE := ring_ev A hm p7
  have RW := won_ev A (ringW_valid hm) (by simp [ringW]) (k := 12) (by omega) (by omega) (n := 13) (by omega) (ring_rest hm) (some 1000000000000000000000000000000) (fun m h => by cases h; omega) (w := "sealed") (.inl rfl) p7
  have s0 : stopT 0 (some 1000000000000000000000000000000) = 0 := Nat.zero_min _
  have r0 : rowT (ringW (1 + mk)) 12 0 = [13] := rfl
  rw [s0, r0] at RW
  simp only [stepD] at RW
  have L5 := law_states_ev (n := 13) (k := 12) (by omega) (by omega) (by omega) (r := [13]) (by simp) p7
  have W6 := won_ev A V (by omega) k0 (by omega) hn R (some 0) (fun m h => by cases h; omega) (w := "sealed") (.inl rfl) p7
  have s1 : stopT T (some 0) = 0 := by simp [stopT]
  rw [s1] at W6
  simp only [stepD] at W6
  have L6 := law_states_ev hn k0 (by omega) (hl 0) p7
  have h0 := hat 0 (Nat.zero_le T)
  have RF := refusals10_ev A V (by omega) k0 hy p7
  let sG : Option L := dd (lvD 13 [13])
  have T15 : b_law_k10_15 A (S10 sW sN sk sR sL sB sY sy sl sd o12 o13 o14 o15 o16 none) p6 = .nx (S10 sW sN sk sR sL sB sY sy sl sd o12 o13 o14 o15 o16 sG) p7 := by simp [b_law_k10_15, mvar, e15, RE, pow30, won_plain3, RW, sG]
  have d13 : D.lst [.int 13] = dI [13] := rfl
  have T16 : b_law_k10_16 A (S10 sW sN sk sR sL sB sY sy sl sd o12 o13 o14 o15 o16 sG) p7 = .nx (S10 sW sN sk sR sL sB sY sy sl sd o12 o13 o14 o15 o16 sG) p7 := by
    have h0' : atI rows 0 = some (dI (rowT wb k 0)) := h0
    simp [b_law_k10_16, mvar, sG, sk, sB, sR, d13, L5, won_plain3, W6, h0', L6]
  refine ⟨p7, ?_⟩
  unfold dn_law_k10
  rw [seq_nx T1, seq_nx T2, seq_nx T3, seq_nx T4, seq_nx T5, seq_nx T6, seq_nx T7, seq_nx T8, seq_nx T9, seq_nx T10, seq_nx T11, seq_nx T12, seq_nx T13, seq_nx T14, seq_nx T15, seq_nx T16]
  simp [b_law_k10_17, mvar, sB, sk, sN, sy, RF]
end
end PL
namespace K10
open PySem L2 Den PL FX
noncomputable section
variable {c : Cfg} {K : PySem.W.Frag} {ec : Nat → Addr} {P : Program} {w : World} {mg : Str → Option Value} {base : Heap} {A : Adr}
theorem pss_pot (nr : mg "range" = none) (nmin : mg "min" = none) (nlen : mg "len" = none) (nint : mg "int" = none) (f : Addr) (cdv : Value) (A_ : Around) (outer : List Env) (sh : Shared) (H : Hp) (E' : XK) :
    PSs (cxOf (L2.CX P w) P w c.K mg base Nn_law_pot "_law_pot" (defScope s_law_pot) f cdv A_ outer sh H E') (defBody s_law_pot) (qPot c) :=
  (pss_cons (ps_asg (pe_lst pa_nil) (pg_name (i := 1) sc_law_pot.nd rfl (by first | exact Or.inl rfl | exact Or.inr rfl)))
    (pss_cons (ps_for (passes_of rfl) rfl (pi_range1 (by rfl) nr (pa_cons (pe_callB (call_min2 rfl) (by rfl) nmin (by decide +kernel) (pa_cons (pe_callB call_len_seq (by rfl) nlen (by decide +kernel) (pa_cons (pv 0) pa_nil)) (pa_cons pe_int pa_nil))) pa_nil)) (pg_name (i := 2) sc_law_pot.nd rfl (by first | exact Or.inl rfl | exact Or.inr rfl)) (pss_cons (ps_asg (pe_callTy call_int1 (by rfl) nint (by decide +kernel) (pa_cons (pe_ix ix_seq (pv 0) (pv 2) (fun _ _ => rfl)) pa_nil)) (pg_name (i := 3) sc_law_pot.nd rfl (by first | exact Or.inl rfl | exact Or.inr rfl)))
    (pss_cons (ps_asg pe_int (pg_name (i := 4) sc_law_pot.nd rfl (by first | exact Or.inl rfl | exact Or.inr rfl)))
    (pss_cons (ps_if (pt_cmpR op_lt (pv 3) pe_int (nomark _)) (pss_cons (ps_asg (pe_op op_sub pe_int (pv 3)) (pg_name (i := 3) sc_law_pot.nd rfl (by first | exact Or.inl rfl | exact Or.inr rfl)))
    (pss_one (ps_asg pe_int (pg_name (i := 4) sc_law_pot.nd rfl (by first | exact Or.inl rfl | exact Or.inr rfl))))) pss_nil)
    (pss_one (ps_if (pt_cmpR op_ge (pv 3) (pe_op op_pow pe_int pe_int) (nomark _)) (pss_one (ps_for (passes_of rfl) rfl (pi_range1 (by rfl) nr (pa_cons pe_int pa_nil)) (pg_name (i := 5) sc_law_pot.nd rfl (by first | exact Or.inl rfl | exact Or.inr rfl)) (pss_one (ps_if (pt_cmpR op_gt (pv 3) pe_int (nomark _)) (pss_cons (ps_expr (pe_bm PySem.F.plainAttrs_list PySem.F.slot_list_append PySem.F.type_list_append mt_append (pv 1) (pa_cons (pe_op op_mod (pe_callTy call_int1 (by rfl) nint (by decide +kernel) (pa_cons (pv 3) pa_nil)) pe_int) pa_nil)))
    (pss_one (ps_asg (pe_op op_fdiv (pv 3) pe_int) (pg_name (i := 3) sc_law_pot.nd rfl (by first | exact Or.inl rfl | exact Or.inr rfl))))) pss_nil)))) (pss_cons (ps_asg (pe_op op_mod (pe_callTy call_int1 (by rfl) nint (by decide +kernel) (pa_cons (pe_op op_add (pe_op op_add (pe_op op_mul (pv 3) pe_int) (pe_op op_mul (pv 2) pe_int)) (pv 4)) pa_nil)) pe_int) (pg_name (i := 6) sc_law_pot.nd rfl (by first | exact Or.inl rfl | exact Or.inr rfl)))
    (pss_one (ps_for (passes_of rfl) rfl (pi_range1 (by rfl) nr (pa_cons pe_int pa_nil)) (pg_name (i := 5) sc_law_pot.nd rfl (by first | exact Or.inl rfl | exact Or.inr rfl)) (pss_cons (ps_asg (pe_op op_mod (pe_callTy call_int1 (by rfl) nint (by decide +kernel) (pa_cons (pe_op op_add (pe_op op_add (pe_op op_add (pe_op op_mul (pv 6) (pv 6)) (pe_op op_mul (pv 5) pe_int)) (pe_op op_mul (pv 2) pe_int)) pe_int) pa_nil)) pe_int) (pg_name (i := 6) sc_law_pot.nd rfl (by first | exact Or.inl rfl | exact Or.inr rfl)))
    (pss_one (ps_expr (pe_bm PySem.F.plainAttrs_list PySem.F.slot_list_append PySem.F.type_list_append mt_append (pv 1) (pa_cons (pv 6) pa_nil))))))))))))))
    (pss_cons (ps_expr (pe_bm0 PySem.F.plainAttrs_list PySem.F.slot_list_reverse PySem.F.type_list_reverse mt_reverse (pv 1)))
    (pss_one (ps_ret (pv 1))))))
theorem ok_law_pot {f : Addr} {fd : FuncData} (F : Fun c.K "_law_pot" "_law_pot" s_law_pot f fd) (nr : mg "range" = none) (nmin : mg "min" = none) (nlen : mg "len" = none) (nint : mg "int" = none) : FnR P w c.K mg base (L2.CX P w) 1 f (spPot c.K) := by
  have ok : FnOk P w c.K mg base (L2.CX P w) 1 f fd ["_law_script"] (spPot c.K) := by
    refine F.okX sc_law_pot (fun vs H Q E h => ?_) (fun cdv A outer sh H vs Q E hr h => ?_)
    · obtain ⟨a, ns, rfl, _⟩ := h
      rfl
    · obtain ⟨a, ns, rfl, hS, hl, k⟩ := h
      exact ⟨_, pss_pot nr nmin nlen nint f cdv A outer sh H E, pot_run hS hl k⟩
  have raw := ok.raw (F.binds (ps := ["_law_script"]) fun _ _ _ _ _ _ us hl => match us, hl with | [_], _ => rfl) .nil
  exact raw.imp fun vs H Q E h => by rw [List.append_nil]; exact h
theorem ok_law {f fP : Addr} {fd fdP : FuncData} (T : ∀ p, Txt (potCfg K p ec) mg A) (F : Fun K "law" "law" s_law f fd) (FP : Fun K "_law_pot" "_law_pot" s_law_pot fP fdP) (mP : mg "_law_pot" = some (.ref fP)) : FnOk P w K mg base (L2.CX P w) 11 f fd ["_law_script"] (spLaw K) := by
  refine F.okX sc_law (fun vs H Q E h => ?_) (fun cdv A_ outer sh H vs Q E hr h => ?_)
  · obtain ⟨a, ns, rfl, _⟩ := h
    rfl
  · obtain ⟨a, ns, rfl, hS, hl, k⟩ := h
    have T0 := T 0
    have G0 : FnR P w K mg base (L2.CX P w) 1 fP (spPot K) := ok_law_pot (c := (potCfg K 0 ec)) FP T0.n_range T0.n_min T0.n_len T0.n_int
    refine ⟨_, pss_cons (ps_asg (pe_callRS (E := fun _ => E) G0 (hr.mono (by decide)) (by rfl) mP FP.kp (passE (takes_of rfl rfl rfl rfl)) (pa_cons (pv 0) pa_nil)) (pg_name (i := 1) sc_law.nd rfl (by first | exact Or.inl rfl | exact Or.inr rfl))) (pss_any (st := (defBody s_law).drop 1)), ?_⟩
    refine ⟨_, rfl, a, ns, rfl, hS, hl, fun p pot H' hp => ?_⟩
    obtain ⟨t, ht, hs⟩ := rest_law (P := P) (w := w) (base := base) (T p) f cdv A_ outer sh H E hr
    refine ⟨t, ht, hs (fun _ => none) H' (fun _ => none) H' _ (potLoc 16) pot (pot_rel hp) _ ?_⟩
    obtain ⟨q, e⟩ := law_k10_run A.ca pot
    have e' : dn_law_k10 A.ca (potLoc 16) pot = .rt (.bl true) q := e
    rw [e']
    intro v G1 H1 σ1 l1 _ _ a1
    cases a1
    exact k H1
theorem all_mk {l : PySem.W.OpenLaw} {w : World} {K : PySem.W.Frag} {h : Heap} {mg : Str → Option Value} {fa : Addr} {f_is_integer f_check_whole f_whole_list f_check_range f_check_least f_check_one_or_two f_check_most f_as_stands f_is_due f_due_in_range f_due_too_great f_check_due f_due_at f_check_kinds f_check_steps f_check_parts f_check_plain f_check_web f_check_stand f_check_state_range f_check_state f_dues_at f_bought f_check_listing_size f_claimable f_is_good f_forced f_stand_behind f_level_behind f_won_states f_level_of f_law_draw f_law_whole f_law_lot f_law_due f_law_marks f_law_path f_law_web f_law_due_at f_law_half f_law_low f_law_high f_law_price f_law_next f_law_built f_law_rounds f_law_states f_law_level f_law_code f_law_level_code f_law_refusals C_Web f_Web_init f_Web_dues p_Web_dues f_Web_first p_Web_first f_Web_marks p_Web_marks f_Web_second p_Web_second f_Web_size p_Web_size f_Web_line pm_Web_line f_Web_ring pm_Web_ring G_ORDERS e0 e1 e2 e3 f_law_pot f_law : Addr} (X : K.In h) (G : h.Ns mainGlobals mg) (hfa : mg "law" = some (.ref fa))
    (a_is_integer : PySem.W.nsIn K mainGlobals "is_integer" = some (some (.ref f_is_integer))) (b_is_integer : FnIn K "is_integer" "is_integer" s_is_integer f_is_integer)
    (a_check_whole : PySem.W.nsIn K mainGlobals "check_whole" = some (some (.ref f_check_whole))) (b_check_whole : FnIn K "check_whole" "check_whole" s_check_whole f_check_whole)
    (a_whole_list : PySem.W.nsIn K mainGlobals "whole_list" = some (some (.ref f_whole_list))) (b_whole_list : FnIn K "whole_list" "whole_list" s_whole_list f_whole_list)
    (a_check_range : PySem.W.nsIn K mainGlobals "check_range" = some (some (.ref f_check_range))) (b_check_range : FnIn K "check_range" "check_range" s_check_range f_check_range)
    (a_check_least : PySem.W.nsIn K mainGlobals "check_least" = some (some (.ref f_check_least))) (b_check_least : FnIn K "check_least" "check_least" s_check_least f_check_least)
    (a_check_one_or_two : PySem.W.nsIn K mainGlobals "check_one_or_two" = some (some (.ref f_check_one_or_two))) (b_check_one_or_two : FnIn K "check_one_or_two" "check_one_or_two" s_check_one_or_two f_check_one_or_two)
    (a_check_most : PySem.W.nsIn K mainGlobals "check_most" = some (some (.ref f_check_most))) (b_check_most : FnIn K "check_most" "check_most" s_check_most f_check_most)
    (a_as_stands : PySem.W.nsIn K mainGlobals "as_stands" = some (some (.ref f_as_stands))) (b_as_stands : FnIn K "as_stands" "as_stands" s_as_stands f_as_stands)
    (a_is_due : PySem.W.nsIn K mainGlobals "is_due" = some (some (.ref f_is_due))) (b_is_due : FnIn K "is_due" "is_due" s_is_due f_is_due)
    (a_due_in_range : PySem.W.nsIn K mainGlobals "due_in_range" = some (some (.ref f_due_in_range))) (b_due_in_range : FnIn K "due_in_range" "due_in_range" s_due_in_range f_due_in_range)
    (a_due_too_great : PySem.W.nsIn K mainGlobals "due_too_great" = some (some (.ref f_due_too_great))) (b_due_too_great : FnIn K "due_too_great" "due_too_great" s_due_too_great f_due_too_great)
    (a_check_due : PySem.W.nsIn K mainGlobals "check_due" = some (some (.ref f_check_due))) (b_check_due : FnIn K "check_due" "check_due" s_check_due f_check_due)
    (a_due_at : PySem.W.nsIn K mainGlobals "due_at" = some (some (.ref f_due_at))) (b_due_at : FnIn K "due_at" "due_at" s_due_at f_due_at)
    (a_check_kinds : PySem.W.nsIn K mainGlobals "check_kinds" = some (some (.ref f_check_kinds))) (b_check_kinds : FnIn K "check_kinds" "check_kinds" s_check_kinds f_check_kinds)
    (a_check_steps : PySem.W.nsIn K mainGlobals "check_steps" = some (some (.ref f_check_steps))) (b_check_steps : FnIn K "check_steps" "check_steps" s_check_steps f_check_steps)
    (a_check_parts : PySem.W.nsIn K mainGlobals "check_parts" = some (some (.ref f_check_parts))) (b_check_parts : FnIn K "check_parts" "check_parts" s_check_parts f_check_parts)
    (a_check_plain : PySem.W.nsIn K mainGlobals "check_plain" = some (some (.ref f_check_plain))) (b_check_plain : FnIn K "check_plain" "check_plain" s_check_plain f_check_plain)
    (a_check_web : PySem.W.nsIn K mainGlobals "check_web" = some (some (.ref f_check_web))) (b_check_web : FnIn K "check_web" "check_web" s_check_web f_check_web)
    (a_check_stand : PySem.W.nsIn K mainGlobals "check_stand" = some (some (.ref f_check_stand))) (b_check_stand : FnIn K "check_stand" "check_stand" s_check_stand f_check_stand)
    (a_check_state_range : PySem.W.nsIn K mainGlobals "check_state_range" = some (some (.ref f_check_state_range))) (b_check_state_range : FnIn K "check_state_range" "check_state_range" s_check_state_range f_check_state_range)
    (a_check_state : PySem.W.nsIn K mainGlobals "check_state" = some (some (.ref f_check_state))) (b_check_state : FnIn K "check_state" "check_state" s_check_state f_check_state)
    (a_dues_at : PySem.W.nsIn K mainGlobals "dues_at" = some (some (.ref f_dues_at))) (b_dues_at : FnIn K "dues_at" "dues_at" s_dues_at f_dues_at)
    (a_bought : PySem.W.nsIn K mainGlobals "bought" = some (some (.ref f_bought))) (b_bought : FnIn K "bought" "bought" s_bought f_bought)
    (a_check_listing_size : PySem.W.nsIn K mainGlobals "check_listing_size" = some (some (.ref f_check_listing_size))) (b_check_listing_size : FnIn K "check_listing_size" "check_listing_size" s_check_listing_size f_check_listing_size)
    (a_claimable : PySem.W.nsIn K mainGlobals "claimable" = some (some (.ref f_claimable))) (b_claimable : FnIn K "claimable" "claimable" s_claimable f_claimable)
    (a_is_good : PySem.W.nsIn K mainGlobals "is_good" = some (some (.ref f_is_good))) (b_is_good : FnIn K "is_good" "is_good" s_is_good f_is_good)
    (a_forced : PySem.W.nsIn K mainGlobals "forced" = some (some (.ref f_forced))) (b_forced : FnIn K "forced" "forced" s_forced f_forced)
    (a_stand_behind : PySem.W.nsIn K mainGlobals "stand_behind" = some (some (.ref f_stand_behind))) (b_stand_behind : FnIn K "stand_behind" "stand_behind" s_stand_behind f_stand_behind)
    (a_level_behind : PySem.W.nsIn K mainGlobals "level_behind" = some (some (.ref f_level_behind))) (b_level_behind : FnIn K "level_behind" "level_behind" s_level_behind f_level_behind)
    (a_won_states : PySem.W.nsIn K mainGlobals "won_states" = some (some (.ref f_won_states))) (b_won_states : FnKIn K "won_states" "won_states" s_won_states V.non "order" (V.str "sealed") f_won_states)
    (a_level_of : PySem.W.nsIn K mainGlobals "level_of" = some (some (.ref f_level_of))) (b_level_of : FnIn K "level_of" "level_of" s_level_of f_level_of)
    (a_law_draw : PySem.W.nsIn K mainGlobals "_law_draw" = some (some (.ref f_law_draw))) (b_law_draw : FnIn K "_law_draw" "_law_draw" s_law_draw f_law_draw)
    (a_law_whole : PySem.W.nsIn K mainGlobals "_law_whole" = some (some (.ref f_law_whole))) (b_law_whole : FnIn K "_law_whole" "_law_whole" s_law_whole f_law_whole)
    (a_law_lot : PySem.W.nsIn K mainGlobals "_law_lot" = some (some (.ref f_law_lot))) (b_law_lot : FnIn K "_law_lot" "_law_lot" s_law_lot f_law_lot)
    (a_law_due : PySem.W.nsIn K mainGlobals "_law_due" = some (some (.ref f_law_due))) (b_law_due : FnIn K "_law_due" "_law_due" s_law_due f_law_due)
    (a_law_marks : PySem.W.nsIn K mainGlobals "_law_marks" = some (some (.ref f_law_marks))) (b_law_marks : FnIn K "_law_marks" "_law_marks" s_law_marks f_law_marks)
    (a_law_path : PySem.W.nsIn K mainGlobals "_law_path" = some (some (.ref f_law_path))) (b_law_path : FnIn K "_law_path" "_law_path" s_law_path f_law_path)
    (a_law_web : PySem.W.nsIn K mainGlobals "_law_web" = some (some (.ref f_law_web))) (b_law_web : FnIn K "_law_web" "_law_web" s_law_web f_law_web)
    (a_law_due_at : PySem.W.nsIn K mainGlobals "_law_due_at" = some (some (.ref f_law_due_at))) (b_law_due_at : FnIn K "_law_due_at" "_law_due_at" s_law_due_at f_law_due_at)
    (a_law_half : PySem.W.nsIn K mainGlobals "_law_half" = some (some (.ref f_law_half))) (b_law_half : FnIn K "_law_half" "_law_half" s_law_half f_law_half)
    (a_law_low : PySem.W.nsIn K mainGlobals "_law_low" = some (some (.ref f_law_low))) (b_law_low : FnIn K "_law_low" "_law_low" s_law_low f_law_low)
    (a_law_high : PySem.W.nsIn K mainGlobals "_law_high" = some (some (.ref f_law_high))) (b_law_high : FnIn K "_law_high" "_law_high" s_law_high f_law_high)
    (a_law_price : PySem.W.nsIn K mainGlobals "_law_price" = some (some (.ref f_law_price))) (b_law_price : FnIn K "_law_price" "_law_price" s_law_price f_law_price)
    (a_law_next : PySem.W.nsIn K mainGlobals "_law_next" = some (some (.ref f_law_next))) (b_law_next : FnIn K "_law_next" "_law_next" s_law_next f_law_next)
    (a_law_built : PySem.W.nsIn K mainGlobals "_law_built" = some (some (.ref f_law_built))) (b_law_built : FnIn K "_law_built" "_law_built" s_law_built f_law_built)
    (a_law_rounds : PySem.W.nsIn K mainGlobals "_law_rounds" = some (some (.ref f_law_rounds))) (b_law_rounds : FnIn K "_law_rounds" "_law_rounds" s_law_rounds f_law_rounds)
    (a_law_states : PySem.W.nsIn K mainGlobals "_law_states" = some (some (.ref f_law_states))) (b_law_states : FnIn K "_law_states" "_law_states" s_law_states f_law_states)
    (a_law_level : PySem.W.nsIn K mainGlobals "_law_level" = some (some (.ref f_law_level))) (b_law_level : FnIn K "_law_level" "_law_level" s_law_level f_law_level)
    (a_law_code : PySem.W.nsIn K mainGlobals "_law_code" = some (some (.ref f_law_code))) (b_law_code : FnIn K "_law_code" "_law_code" s_law_code f_law_code)
    (a_law_level_code : PySem.W.nsIn K mainGlobals "_law_level_code" = some (some (.ref f_law_level_code))) (b_law_level_code : FnIn K "_law_level_code" "_law_level_code" s_law_level_code f_law_level_code)
    (a_law_refusals : PySem.W.nsIn K mainGlobals "_law_refusals" = some (some (.ref f_law_refusals))) (b_law_refusals : FnIn K "_law_refusals" "_law_refusals" s_law_refusals f_law_refusals)
    (a_Web : PySem.W.nsIn K mainGlobals "Web" = some (some (.ref C_Web)))
    (i_Web : PySem.W.findIn K (.ref C_Web) "__init__" = some (some (.ref f_Web_init))) (j_Web : PySem.W.isFn K (.ref f_Web_init) = true) (b_Web_init : FnIn K "__init__" "Web.__init__" s_Web_init f_Web_init) (q_Web : PySem.W.makesIn K C_Web = true) (k_Web : PySem.W.keepIn K (.ref C_Web) = true) (g_Web : ClsF K C_Web)
    (t_Web_dues : PropOf K C_Web "dues" p_Web_dues f_Web_dues) (b_Web_dues : FnIn K "dues" "Web.dues" s_Web_dues f_Web_dues)
    (t_Web_first : PropOf K C_Web "first" p_Web_first f_Web_first) (b_Web_first : FnIn K "first" "Web.first" s_Web_first f_Web_first)
    (t_Web_marks : PropOf K C_Web "marks" p_Web_marks f_Web_marks) (b_Web_marks : FnIn K "marks" "Web.marks" s_Web_marks f_Web_marks)
    (t_Web_second : PropOf K C_Web "second" p_Web_second f_Web_second) (b_Web_second : FnIn K "second" "Web.second" s_Web_second f_Web_second)
    (t_Web_size : PropOf K C_Web "size" p_Web_size f_Web_size) (b_Web_size : FnIn K "size" "Web.size" s_Web_size f_Web_size)
    (cm_Web_line : ClX.CMet K C_Web (.type "type") "line" pm_Web_line f_Web_line) (b_Web_line : FnDIn K "line" "Web.line" s_Web_line (V.int 1) f_Web_line)
    (cm_Web_ring : ClX.CMet K C_Web (.type "type") "ring" pm_Web_ring f_Web_ring) (b_Web_ring : FnDIn K "ring" "Web.ring" s_Web_ring (V.int 1) f_Web_ring)
    (cr_Web : ClX.CRead K C_Web (.type "type"))
    (gm_ORDERS : PySem.W.nsIn K mainGlobals "ORDERS" = some (some (.ref G_ORDERS))) (gt_ORDERS : GTup K G_ORDERS [(V.str "sealed"), (V.str "first"), (V.str "second")])
    (n_Web__dues : PySem.W.findIn K (.ref C_Web) "_dues" = some none)
    (n_Web__ends : PySem.W.findIn K (.ref C_Web) "_ends" = some none)
    (n_Web__even : PySem.W.findIn K (.ref C_Web) "_even" = some none)
    (n_Web__first : PySem.W.findIn K (.ref C_Web) "_first" = some none)
    (n_Web__greatest_due : PySem.W.findIn K (.ref C_Web) "_greatest_due" = some none)
    (n_Web__marks : PySem.W.findIn K (.ref C_Web) "_marks" = some none)
    (n_Web__moving : PySem.W.findIn K (.ref C_Web) "_moving" = some none)
    (n_Web__second : PySem.W.findIn K (.ref C_Web) "_second" = some none)
    (n_Web__size : PySem.W.findIn K (.ref C_Web) "_size" = some none)
    (v_GREATEST : ∃ t, PySem.W.nsIn K mainGlobals "GREATEST" = some (some (.int 10000000000000000000000000000000000000000 t)))
    (v_MOST_STANDS_webparts : ∃ t, PySem.W.nsIn K mainGlobals "MOST_STANDS_webparts" = some (some (.int 60 t)))
    (v_MOST_STANDS_listing : ∃ t, PySem.W.nsIn K mainGlobals "MOST_STANDS_listing" = some (some (.int 8 t)))
    (v_MOST_CHIPS : ∃ t, PySem.W.nsIn K mainGlobals "MOST_CHIPS" = some (some (.int 12 t)))
    (z_all : PySem.W.nsIn K mainGlobals "all" = some none)
    (z_any : PySem.W.nsIn K mainGlobals "any" = some none)
    (z_bool : PySem.W.nsIn K mainGlobals "bool" = some none)
    (z_enumerate : PySem.W.nsIn K mainGlobals "enumerate" = some none)
    (z_int : PySem.W.nsIn K mainGlobals "int" = some none)
    (z_isinstance : PySem.W.nsIn K mainGlobals "isinstance" = some none)
    (z_len : PySem.W.nsIn K mainGlobals "len" = some none)
    (z_list : PySem.W.nsIn K mainGlobals "list" = some none)
    (z_max : PySem.W.nsIn K mainGlobals "max" = some none)
    (z_min : PySem.W.nsIn K mainGlobals "min" = some none)
    (z_range : PySem.W.nsIn K mainGlobals "range" = some none)
    (z_set : PySem.W.nsIn K mainGlobals "set" = some none)
    (z_sorted : PySem.W.nsIn K mainGlobals "sorted" = some none)
    (z_str : PySem.W.nsIn K mainGlobals "str" = some none)
    (z_tuple : PySem.W.nsIn K mainGlobals "tuple" = some none)
    (eA0 : PySem.W.nsIn K mainGlobals "WrongKind" = some (some (.ref e0))) (eX0 : PySem.W.excIn K e0 [.type "Exception", .type "BaseException", .type "object"] "Exception.__new__" = true) (eK0 : PySem.W.keepIn K (.ref e0) = true) (eB0 : PySem.W.subIn K (.ref e0) (.type "BaseException") = some true) (eT0 : PySem.W.typeIn K (.ref e0) = some (.type "type"))
    (eA1 : PySem.W.nsIn K mainGlobals "WrongNumber" = some (some (.ref e1))) (eX1 : PySem.W.excIn K e1 [.type "Exception", .type "BaseException", .type "object"] "Exception.__new__" = true) (eK1 : PySem.W.keepIn K (.ref e1) = true) (eB1 : PySem.W.subIn K (.ref e1) (.type "BaseException") = some true) (eT1 : PySem.W.typeIn K (.ref e1) = some (.type "type"))
    (eA2 : PySem.W.nsIn K mainGlobals "WrongWeb" = some (some (.ref e2))) (eX2 : PySem.W.excIn K e2 [.type "Exception", .type "BaseException", .type "object"] "Exception.__new__" = true) (eK2 : PySem.W.keepIn K (.ref e2) = true) (eB2 : PySem.W.subIn K (.ref e2) (.type "BaseException") = some true) (eT2 : PySem.W.typeIn K (.ref e2) = some (.type "type"))
    (eA3 : PySem.W.nsIn K mainGlobals "TooMuch" = some (some (.ref e3))) (eX3 : PySem.W.excIn K e3 [.type "Exception", .type "BaseException", .type "object"] "Exception.__new__" = true) (eK3 : PySem.W.keepIn K (.ref e3) = true) (eB3 : PySem.W.subIn K (.ref e3) (.type "BaseException") = some true) (eT3 : PySem.W.typeIn K (.ref e3) = some (.type "type"))
    (ap00 : PySem.W.exmOne K (.ref e0) (.ref e0) = some true)
    (ap01 : PySem.W.exmOne K (.ref e0) (.ref e1) = some false)
    (ap02 : PySem.W.exmOne K (.ref e0) (.ref e2) = some false)
    (ap03 : PySem.W.exmOne K (.ref e0) (.ref e3) = some false)
    (ap10 : PySem.W.exmOne K (.ref e1) (.ref e0) = some false)
    (ap11 : PySem.W.exmOne K (.ref e1) (.ref e1) = some true)
    (ap12 : PySem.W.exmOne K (.ref e1) (.ref e2) = some false)
    (ap13 : PySem.W.exmOne K (.ref e1) (.ref e3) = some false)
    (ap20 : PySem.W.exmOne K (.ref e2) (.ref e0) = some false)
    (ap21 : PySem.W.exmOne K (.ref e2) (.ref e1) = some false)
    (ap22 : PySem.W.exmOne K (.ref e2) (.ref e2) = some true)
    (ap23 : PySem.W.exmOne K (.ref e2) (.ref e3) = some false)
    (ap30 : PySem.W.exmOne K (.ref e3) (.ref e0) = some false)
    (ap31 : PySem.W.exmOne K (.ref e3) (.ref e1) = some false)
    (ap32 : PySem.W.exmOne K (.ref e3) (.ref e2) = some false)
    (ap33 : PySem.W.exmOne K (.ref e3) (.ref e3) = some true)
    (a_law_pot : PySem.W.nsIn K mainGlobals "_law_pot" = some (some (.ref f_law_pot)))
    (a_law : PySem.W.nsIn K mainGlobals "law" = some (some (.ref f_law)))
    (b_law_pot : FnIn K "_law_pot" "_law_pot" s_law_pot f_law_pot)
    {oc : Value} {od an : Option Addr} {osl : Array (Option Value)} {kV doc pm cdv ct : Value} (l_law : K.lookup f_law = some ⟨oc, od, .func (PySem.W.fnOf "law" "law" (defArgs s_law) (defBody s_law) (defScope s_law) .none kV doc pm an cdv ct), osl⟩) (c_law : PySem.W.codeIn K cdv "law" = true) (k_law : PySem.W.keepIn K (.ref f_law) = true) :
    ∃ fd : FuncData, (∀ (s : Shared) (v : Value), BindsTo s fd ⟨[v], []⟩ [("_law_script", v)]) ∧ ∀ base : Heap, K.In base → base.Ns mainGlobals mg → FnOk l.prog w K mg base (L2.CX l.prog w) 11 fa fd ["_law_script"] (spLaw K) := by
  have e := hfa.symm.trans (PySem.W.mg_of X G a_law)
  cases e
  obtain ⟨fd_is_integer, F_is_integer⟩ := b_is_integer
  obtain ⟨fd_check_whole, F_check_whole⟩ := b_check_whole
  obtain ⟨fd_whole_list, F_whole_list⟩ := b_whole_list
  obtain ⟨fd_check_range, F_check_range⟩ := b_check_range
  obtain ⟨fd_check_least, F_check_least⟩ := b_check_least
  obtain ⟨fd_check_one_or_two, F_check_one_or_two⟩ := b_check_one_or_two
  obtain ⟨fd_check_most, F_check_most⟩ := b_check_most
  obtain ⟨fd_as_stands, F_as_stands⟩ := b_as_stands
  obtain ⟨fd_is_due, F_is_due⟩ := b_is_due
  obtain ⟨fd_due_in_range, F_due_in_range⟩ := b_due_in_range
  obtain ⟨fd_due_too_great, F_due_too_great⟩ := b_due_too_great
  obtain ⟨fd_check_due, F_check_due⟩ := b_check_due
  obtain ⟨fd_due_at, F_due_at⟩ := b_due_at
  obtain ⟨fd_check_kinds, F_check_kinds⟩ := b_check_kinds
  obtain ⟨fd_check_steps, F_check_steps⟩ := b_check_steps
  obtain ⟨fd_check_parts, F_check_parts⟩ := b_check_parts
  obtain ⟨fd_check_plain, F_check_plain⟩ := b_check_plain
  obtain ⟨fd_check_web, F_check_web⟩ := b_check_web
  obtain ⟨fd_check_stand, F_check_stand⟩ := b_check_stand
  obtain ⟨fd_check_state_range, F_check_state_range⟩ := b_check_state_range
  obtain ⟨fd_check_state, F_check_state⟩ := b_check_state
  obtain ⟨fd_dues_at, F_dues_at⟩ := b_dues_at
  obtain ⟨fd_bought, F_bought⟩ := b_bought
  obtain ⟨fd_check_listing_size, F_check_listing_size⟩ := b_check_listing_size
  obtain ⟨fd_claimable, F_claimable⟩ := b_claimable
  obtain ⟨fd_is_good, F_is_good⟩ := b_is_good
  obtain ⟨fd_forced, F_forced⟩ := b_forced
  obtain ⟨fd_stand_behind, F_stand_behind⟩ := b_stand_behind
  obtain ⟨fd_level_behind, F_level_behind⟩ := b_level_behind
  obtain ⟨fd_won_states, F_won_states⟩ := b_won_states
  obtain ⟨fd_level_of, F_level_of⟩ := b_level_of
  obtain ⟨fd_law_draw, F_law_draw⟩ := b_law_draw
  obtain ⟨fd_law_whole, F_law_whole⟩ := b_law_whole
  obtain ⟨fd_law_lot, F_law_lot⟩ := b_law_lot
  obtain ⟨fd_law_due, F_law_due⟩ := b_law_due
  obtain ⟨fd_law_marks, F_law_marks⟩ := b_law_marks
  obtain ⟨fd_law_path, F_law_path⟩ := b_law_path
  obtain ⟨fd_law_web, F_law_web⟩ := b_law_web
  obtain ⟨fd_law_due_at, F_law_due_at⟩ := b_law_due_at
  obtain ⟨fd_law_half, F_law_half⟩ := b_law_half
  obtain ⟨fd_law_low, F_law_low⟩ := b_law_low
  obtain ⟨fd_law_high, F_law_high⟩ := b_law_high
  obtain ⟨fd_law_price, F_law_price⟩ := b_law_price
  obtain ⟨fd_law_next, F_law_next⟩ := b_law_next
  obtain ⟨fd_law_built, F_law_built⟩ := b_law_built
  obtain ⟨fd_law_rounds, F_law_rounds⟩ := b_law_rounds
  obtain ⟨fd_law_states, F_law_states⟩ := b_law_states
  obtain ⟨fd_law_level, F_law_level⟩ := b_law_level
  obtain ⟨fd_law_code, F_law_code⟩ := b_law_code
  obtain ⟨fd_law_level_code, F_law_level_code⟩ := b_law_level_code
  obtain ⟨fd_law_refusals, F_law_refusals⟩ := b_law_refusals
  obtain ⟨fd_Web_init, F_Web_init⟩ := b_Web_init
  obtain ⟨fd_Web_dues, F_Web_dues⟩ := b_Web_dues
  obtain ⟨fd_Web_first, F_Web_first⟩ := b_Web_first
  obtain ⟨fd_Web_marks, F_Web_marks⟩ := b_Web_marks
  obtain ⟨fd_Web_second, F_Web_second⟩ := b_Web_second
  obtain ⟨fd_Web_size, F_Web_size⟩ := b_Web_size
  obtain ⟨fd_Web_line, F_Web_line⟩ := b_Web_line
  obtain ⟨fd_Web_ring, F_Web_ring⟩ := b_Web_ring
  obtain ⟨fd_law_pot, F_law_pot⟩ := b_law_pot
  have F_law := fun_mk (st := s_law) l_law c_law k_law
  let ec : Nat → Addr := fun n => match n with
    | 0 => e0
    | 1 => e1
    | 2 => e2
    | 3 => e3
    | _ => e0
  have apart : ∀ p, Apart (potCfg K p ec) := fun p => fun n m hn hm => match n, m, hn, hm with
    | 0, 0, _, _ => ap00
    | 0, 1, _, _ => ap01
    | 0, 2, _, _ => ap02
    | 0, 3, _, _ => ap03
    | 1, 0, _, _ => ap10
    | 1, 1, _, _ => ap11
    | 1, 2, _, _ => ap12
    | 1, 3, _, _ => ap13
    | 2, 0, _, _ => ap20
    | 2, 1, _, _ => ap21
    | 2, 2, _, _ => ap22
    | 2, 3, _, _ => ap23
    | 3, 0, _, _ => ap30
    | 3, 1, _, _ => ap31
    | 3, 2, _, _ => ap32
    | 3, 3, _, _ => ap33
    | n + 4, _, h, _ => absurd h (by omega)
    | 0, m + 4, _, h => absurd h (by omega)
    | 1, m + 4, _, h => absurd h (by omega)
    | 2, m + 4, _, h => absurd h (by omega)
    | 3, m + 4, _, h => absurd h (by omega)
  let A : Adr := { is_integer := f_is_integer, fd_is_integer := fd_is_integer, check_whole := f_check_whole, fd_check_whole := fd_check_whole, whole_list := f_whole_list, fd_whole_list := fd_whole_list, check_range := f_check_range, fd_check_range := fd_check_range, check_least := f_check_least, fd_check_least := fd_check_least, check_one_or_two := f_check_one_or_two, fd_check_one_or_two := fd_check_one_or_two, check_most := f_check_most, fd_check_most := fd_check_most, as_stands := f_as_stands, fd_as_stands := fd_as_stands, is_due := f_is_due, fd_is_due := fd_is_due, due_in_range := f_due_in_range, fd_due_in_range := fd_due_in_range, due_too_great := f_due_too_great, fd_due_too_great := fd_due_too_great, check_due := f_check_due, fd_check_due := fd_check_due, due_at := f_due_at, fd_due_at := fd_due_at, check_kinds := f_check_kinds, fd_check_kinds := fd_check_kinds, check_steps := f_check_steps, fd_check_steps := fd_check_steps, check_parts := f_check_parts, fd_check_parts := fd_check_parts, check_plain := f_check_plain, fd_check_plain := fd_check_plain, check_web := f_check_web, fd_check_web := fd_check_web, check_stand := f_check_stand, fd_check_stand := fd_check_stand, check_state_range := f_check_state_range, fd_check_state_range := fd_check_state_range, check_state := f_check_state, fd_check_state := fd_check_state, dues_at := f_dues_at, fd_dues_at := fd_dues_at, bought := f_bought, fd_bought := fd_bought, check_listing_size := f_check_listing_size, fd_check_listing_size := fd_check_listing_size, claimable := f_claimable, fd_claimable := fd_claimable, is_good := f_is_good, fd_is_good := fd_is_good, forced := f_forced, fd_forced := fd_forced, stand_behind := f_stand_behind, fd_stand_behind := fd_stand_behind, level_behind := f_level_behind, fd_level_behind := fd_level_behind, won_states := f_won_states, fd_won_states := fd_won_states, level_of := f_level_of, fd_level_of := fd_level_of, law_draw := f_law_draw, fd_law_draw := fd_law_draw, law_whole := f_law_whole, fd_law_whole := fd_law_whole, law_lot := f_law_lot, fd_law_lot := fd_law_lot, law_due := f_law_due, fd_law_due := fd_law_due, law_marks := f_law_marks, fd_law_marks := fd_law_marks, law_path := f_law_path, fd_law_path := fd_law_path, law_web := f_law_web, fd_law_web := fd_law_web, law_due_at := f_law_due_at, fd_law_due_at := fd_law_due_at, law_half := f_law_half, fd_law_half := fd_law_half, law_low := f_law_low, fd_law_low := fd_law_low, law_high := f_law_high, fd_law_high := fd_law_high, law_price := f_law_price, fd_law_price := fd_law_price, law_next := f_law_next, fd_law_next := fd_law_next, law_built := f_law_built, fd_law_built := fd_law_built, law_rounds := f_law_rounds, fd_law_rounds := fd_law_rounds, law_states := f_law_states, fd_law_states := fd_law_states, law_level := f_law_level, fd_law_level := fd_law_level, law_code := f_law_code, fd_law_code := fd_law_code, law_level_code := f_law_level_code, fd_law_level_code := fd_law_level_code, law_refusals := f_law_refusals, fd_law_refusals := fd_law_refusals, Web_init := f_Web_init, fd_Web_init := fd_Web_init, Web_dues := f_Web_dues, fd_Web_dues := fd_Web_dues, pr_Web_dues := p_Web_dues, Web_first := f_Web_first, fd_Web_first := fd_Web_first, pr_Web_first := p_Web_first, Web_marks := f_Web_marks, fd_Web_marks := fd_Web_marks, pr_Web_marks := p_Web_marks, Web_second := f_Web_second, fd_Web_second := fd_Web_second, pr_Web_second := p_Web_second, Web_size := f_Web_size, fd_Web_size := fd_Web_size, pr_Web_size := p_Web_size, Web_line := f_Web_line, fd_Web_line := fd_Web_line, pm_Web_line := pm_Web_line, Web_ring := f_Web_ring, fd_Web_ring := fd_Web_ring, pm_Web_ring := pm_Web_ring, g_ORDERS := G_ORDERS, ca := { Web := C_Web, Heights := 0, Verdict := 0, Paper := 0, Plan := 0, FirstPlan := 0, SecondPlan := 0, Play := 0, Share := 0, Table := 0, TokenPlan := 0 } }
  have T : ∀ p, Txt (potCfg K p ec) mg A := fun p => { pl := potCfg_pot K p ec, F_is_integer := F_is_integer, m_is_integer := PySem.W.mg_of X G a_is_integer, F_check_whole := F_check_whole, m_check_whole := PySem.W.mg_of X G a_check_whole, F_whole_list := F_whole_list, m_whole_list := PySem.W.mg_of X G a_whole_list, F_check_range := F_check_range, m_check_range := PySem.W.mg_of X G a_check_range, F_check_least := F_check_least, m_check_least := PySem.W.mg_of X G a_check_least, F_check_one_or_two := F_check_one_or_two, m_check_one_or_two := PySem.W.mg_of X G a_check_one_or_two, F_check_most := F_check_most, m_check_most := PySem.W.mg_of X G a_check_most, F_as_stands := F_as_stands, m_as_stands := PySem.W.mg_of X G a_as_stands, F_is_due := F_is_due, m_is_due := PySem.W.mg_of X G a_is_due, F_due_in_range := F_due_in_range, m_due_in_range := PySem.W.mg_of X G a_due_in_range, F_due_too_great := F_due_too_great, m_due_too_great := PySem.W.mg_of X G a_due_too_great, F_check_due := F_check_due, m_check_due := PySem.W.mg_of X G a_check_due, F_due_at := F_due_at, m_due_at := PySem.W.mg_of X G a_due_at, F_check_kinds := F_check_kinds, m_check_kinds := PySem.W.mg_of X G a_check_kinds, F_check_steps := F_check_steps, m_check_steps := PySem.W.mg_of X G a_check_steps, F_check_parts := F_check_parts, m_check_parts := PySem.W.mg_of X G a_check_parts, F_check_plain := F_check_plain, m_check_plain := PySem.W.mg_of X G a_check_plain, F_check_web := F_check_web, m_check_web := PySem.W.mg_of X G a_check_web, F_check_stand := F_check_stand, m_check_stand := PySem.W.mg_of X G a_check_stand, F_check_state_range := F_check_state_range, m_check_state_range := PySem.W.mg_of X G a_check_state_range, F_check_state := F_check_state, m_check_state := PySem.W.mg_of X G a_check_state, F_dues_at := F_dues_at, m_dues_at := PySem.W.mg_of X G a_dues_at, F_bought := F_bought, m_bought := PySem.W.mg_of X G a_bought, F_check_listing_size := F_check_listing_size, m_check_listing_size := PySem.W.mg_of X G a_check_listing_size, F_claimable := F_claimable, m_claimable := PySem.W.mg_of X G a_claimable, F_is_good := F_is_good, m_is_good := PySem.W.mg_of X G a_is_good, F_forced := F_forced, m_forced := PySem.W.mg_of X G a_forced, F_stand_behind := F_stand_behind, m_stand_behind := PySem.W.mg_of X G a_stand_behind, F_level_behind := F_level_behind, m_level_behind := PySem.W.mg_of X G a_level_behind, F_won_states := F_won_states, m_won_states := PySem.W.mg_of X G a_won_states, F_level_of := F_level_of, m_level_of := PySem.W.mg_of X G a_level_of, F_law_draw := F_law_draw, m_law_draw := PySem.W.mg_of X G a_law_draw, F_law_whole := F_law_whole, m_law_whole := PySem.W.mg_of X G a_law_whole, F_law_lot := F_law_lot, m_law_lot := PySem.W.mg_of X G a_law_lot, F_law_due := F_law_due, m_law_due := PySem.W.mg_of X G a_law_due, F_law_marks := F_law_marks, m_law_marks := PySem.W.mg_of X G a_law_marks, F_law_path := F_law_path, m_law_path := PySem.W.mg_of X G a_law_path, F_law_web := F_law_web, m_law_web := PySem.W.mg_of X G a_law_web, F_law_due_at := F_law_due_at, m_law_due_at := PySem.W.mg_of X G a_law_due_at, F_law_half := F_law_half, m_law_half := PySem.W.mg_of X G a_law_half, F_law_low := F_law_low, m_law_low := PySem.W.mg_of X G a_law_low, F_law_high := F_law_high, m_law_high := PySem.W.mg_of X G a_law_high, F_law_price := F_law_price, m_law_price := PySem.W.mg_of X G a_law_price, F_law_next := F_law_next, m_law_next := PySem.W.mg_of X G a_law_next, F_law_built := F_law_built, m_law_built := PySem.W.mg_of X G a_law_built, F_law_rounds := F_law_rounds, m_law_rounds := PySem.W.mg_of X G a_law_rounds, F_law_states := F_law_states, m_law_states := PySem.W.mg_of X G a_law_states, F_law_level := F_law_level, m_law_level := PySem.W.mg_of X G a_law_level, F_law_code := F_law_code, m_law_code := PySem.W.mg_of X G a_law_code, F_law_level_code := F_law_level_code, m_law_level_code := PySem.W.mg_of X G a_law_level_code, F_law_refusals := F_law_refusals, m_law_refusals := PySem.W.mg_of X G a_law_refusals, F_Web_init := F_Web_init, m_Web := PySem.W.mg_of X G a_Web, f_Web := g_Web, mk_Web := ⟨q_Web, i_Web, j_Web, k_Web⟩, F_Web_dues := F_Web_dues, p_Web_dues := t_Web_dues, F_Web_first := F_Web_first, p_Web_first := t_Web_first, F_Web_marks := F_Web_marks, p_Web_marks := t_Web_marks, F_Web_second := F_Web_second, p_Web_second := t_Web_second, F_Web_size := F_Web_size, p_Web_size := t_Web_size, F_Web_line := F_Web_line, cm_Web_line := cm_Web_line, F_Web_ring := F_Web_ring, cm_Web_ring := cm_Web_ring, cr_Web := cr_Web, m_ORDERS := PySem.W.mg_of X G gm_ORDERS, g_ORDERS := gt_ORDERS, a_Web__dues := n_Web__dues, a_Web__ends := n_Web__ends, a_Web__even := n_Web__even, a_Web__first := n_Web__first, a_Web__greatest_due := n_Web__greatest_due, a_Web__marks := n_Web__marks, a_Web__moving := n_Web__moving, a_Web__second := n_Web__second, a_Web__size := n_Web__size, c_GREATEST := v_GREATEST.imp fun t e => PySem.W.mg_of X G e, c_MOST_STANDS_webparts := v_MOST_STANDS_webparts.imp fun t e => PySem.W.mg_of X G e, c_MOST_STANDS_listing := v_MOST_STANDS_listing.imp fun t e => PySem.W.mg_of X G e, c_MOST_CHIPS := v_MOST_CHIPS.imp fun t e => PySem.W.mg_of X G e, n_all := PySem.W.mg_none_of X G z_all, n_any := PySem.W.mg_none_of X G z_any, n_bool := PySem.W.mg_none_of X G z_bool, n_enumerate := PySem.W.mg_none_of X G z_enumerate, n_int := PySem.W.mg_none_of X G z_int, n_isinstance := PySem.W.mg_none_of X G z_isinstance, n_len := PySem.W.mg_none_of X G z_len, n_list := PySem.W.mg_none_of X G z_list, n_max := PySem.W.mg_none_of X G z_max, n_min := PySem.W.mg_none_of X G z_min, n_range := PySem.W.mg_none_of X G z_range, n_set := PySem.W.mg_none_of X G z_set, n_sorted := PySem.W.mg_none_of X G z_sorted, n_str := PySem.W.mg_none_of X G z_str, n_tuple := PySem.W.mg_none_of X G z_tuple, mE0 := PySem.W.mg_of X G eA0, xE0 := eX0, kE0 := eK0, bE0 := eB0, tE0 := eT0, mE1 := PySem.W.mg_of X G eA1, xE1 := eX1, kE1 := eK1, bE1 := eB1, tE1 := eT1, mE2 := PySem.W.mg_of X G eA2, xE2 := eX2, kE2 := eK2, bE2 := eB2, tE2 := eT2, mE3 := PySem.W.mg_of X G eA3, xE3 := eX3, kE3 := eK3, bE3 := eB3, tE3 := eT3, apart := apart p }
  exact ⟨PySem.W.fnOf "law" "law" (defArgs s_law) (defBody s_law) (defScope s_law) .none kV doc pm an cdv ct, fun s v => .of_eq rfl, fun base _ _ => ok_law (A := A) (ec := ec) T F_law F_law_pot (PySem.W.mg_of X G a_law_pot)⟩
theorem walk {l : PySem.W.OpenLaw} {q : Program} {loose : List Str} {XP : (Str → Option Value) → Heap → Prop} {YP : World → Heap → Prop} {d : DefRec} {K : Params → PySem.W.Frag} (hn : l.most = some 63) (hdf : d.params.defaults = [])
    (hY : ∀ (w : World) (h : Heap), YP w h → (K w.params).In h)
    (F : ∀ (w : World) (mg : Str → Option Value) (fa : Addr) (h : Heap), (K w.params).In h → h.Ns mainGlobals mg → mg d.name = some (.ref fa) →
      ∃ fd : FuncData, (∀ (s : Shared) (u : Value), BindsTo s fd ⟨[u], []⟩ [("_law_script", u)]) ∧ ∀ base : Heap, (K w.params).In base → base.Ns mainGlobals mg → FnOk l.prog w (K w.params) mg base (L2.CX l.prog w) 11 fa fd ["_law_script"] (spLaw (K w.params))) :
    PySem.W.WalkO q loose XP YP l.row.toRowW d [] (fun f vs => PySem.call f vs) :=
  L2.walk_of (n := 63) (k := 11) (x := "_law_script") (CX := fun w => L2.CX l.prog w) (sp := fun w => spLaw (K w.params)) hn (by decide) hdf ⟨rfl, by decide, by decide⟩ hY F (fun _ _ a ns hl _ hS => ⟨a, ns, rfl, hS, hl, fun _ => rfl⟩) fun w H s e s' z => by
    obtain ⟨_, _, _, _, _, _, _, _, _, _, _, _, h⟩ := z
    exact h
end
end K10
open PySem PySem.W PyProof.Rows
set_option maxRecDepth 100000 in
set_option maxHeartbeats 0 in
theorem PySem.Challenge.cw_pursewebs_k10_levels_listed_and_by_round_holds : PySem.Challenge.rw_pursewebs_k10_levels_listed_and_by_round.Holds := by
  w_on; o_law; k_head; (case hw => w_witness2)
  k_fill
  refine K10.walk (l := PySem.Challenge.rw_pursewebs_k10_levels_listed_and_by_round) rfl rfl (fun w h Y => PySem.W.kIn_of Y) ?F
  case F =>
    intro w mg fa h KX G hmg
    refine' K10.all_mk KX G hmg ?a_is_integer ?b_is_integer ?a_check_whole ?b_check_whole ?a_whole_list ?b_whole_list ?a_check_range ?b_check_range ?a_check_least ?b_check_least ?a_check_one_or_two ?b_check_one_or_two ?a_check_most ?b_check_most ?a_as_stands ?b_as_stands ?a_is_due ?b_is_due ?a_due_in_range ?b_due_in_range ?a_due_too_great ?b_due_too_great ?a_check_due ?b_check_due ?a_due_at ?b_due_at ?a_check_kinds ?b_check_kinds ?a_check_steps ?b_check_steps ?a_check_parts ?b_check_parts ?a_check_plain ?b_check_plain ?a_check_web ?b_check_web ?a_check_stand ?b_check_stand ?a_check_state_range ?b_check_state_range ?a_check_state ?b_check_state ?a_dues_at ?b_dues_at ?a_bought ?b_bought ?a_check_listing_size ?b_check_listing_size ?a_claimable ?b_claimable ?a_is_good ?b_is_good ?a_forced ?b_forced ?a_stand_behind ?b_stand_behind ?a_level_behind ?b_level_behind ?a_won_states ?b_won_states ?a_level_of ?b_level_of ?a_law_draw ?b_law_draw ?a_law_whole ?b_law_whole ?a_law_lot ?b_law_lot ?a_law_due ?b_law_due ?a_law_marks ?b_law_marks ?a_law_path ?b_law_path ?a_law_web ?b_law_web ?a_law_due_at ?b_law_due_at ?a_law_half ?b_law_half ?a_law_low ?b_law_low ?a_law_high ?b_law_high ?a_law_price ?b_law_price ?a_law_next ?b_law_next ?a_law_built ?b_law_built ?a_law_rounds ?b_law_rounds ?a_law_states ?b_law_states ?a_law_level ?b_law_level ?a_law_code ?b_law_code ?a_law_level_code ?b_law_level_code ?a_law_refusals ?b_law_refusals ?a_Web ?i_Web ?j_Web ?b_Web_init ?q_Web ?k_Web ?g_Web ?t_Web_dues ?b_Web_dues ?t_Web_first ?b_Web_first ?t_Web_marks ?b_Web_marks ?t_Web_second ?b_Web_second ?t_Web_size ?b_Web_size ?cm_Web_line ?b_Web_line ?cm_Web_ring ?b_Web_ring ?cr_Web ?gm_ORDERS ?gt_ORDERS ?n_Web__dues ?n_Web__ends ?n_Web__even ?n_Web__first ?n_Web__greatest_due ?n_Web__marks ?n_Web__moving ?n_Web__second ?n_Web__size ?v_GREATEST ?v_MOST_STANDS_webparts ?v_MOST_STANDS_listing ?v_MOST_CHIPS ?z_all ?z_any ?z_bool ?z_enumerate ?z_int ?z_isinstance ?z_len ?z_list ?z_max ?z_min ?z_range ?z_set ?z_sorted ?z_str ?z_tuple ?eA0 ?eX0 ?eK0 ?eB0 ?eT0 ?eA1 ?eX1 ?eK1 ?eB1 ?eT1 ?eA2 ?eX2 ?eK2 ?eB2 ?eT2 ?eA3 ?eX3 ?eK3 ?eB3 ?eT3 ?ap00 ?ap01 ?ap02 ?ap03 ?ap10 ?ap11 ?ap12 ?ap13 ?ap20 ?ap21 ?ap22 ?ap23 ?ap30 ?ap31 ?ap32 ?ap33 ?a_law_pot ?a_law ?b_law_pot ?l_law ?c_law ?k_law
    (case a_is_integer => k_is)
    (case b_is_integer => (refine' FX.fnIn_mk ?l ?c ?k; (case l => k_is); (case c => k_is); (case k => k_is)))
    (case a_check_whole => k_is)
    (case b_check_whole => (refine' FX.fnIn_mk ?l ?c ?k; (case l => k_is); (case c => k_is); (case k => k_is)))
    (case a_whole_list => k_is)
    (case b_whole_list => (refine' FX.fnIn_mk ?l ?c ?k; (case l => k_is); (case c => k_is); (case k => k_is)))
    (case a_check_range => k_is)
    (case b_check_range => (refine' FX.fnIn_mk ?l ?c ?k; (case l => k_is); (case c => k_is); (case k => k_is)))
    (case a_check_least => k_is)
    (case b_check_least => (refine' FX.fnIn_mk ?l ?c ?k; (case l => k_is); (case c => k_is); (case k => k_is)))
    (case a_check_one_or_two => k_is)
    (case b_check_one_or_two => (refine' FX.fnIn_mk ?l ?c ?k; (case l => k_is); (case c => k_is); (case k => k_is)))
    (case a_check_most => k_is)
    (case b_check_most => (refine' FX.fnIn_mk ?l ?c ?k; (case l => k_is); (case c => k_is); (case k => k_is)))
    (case a_as_stands => k_is)
    (case b_as_stands => (refine' FX.fnIn_mk ?l ?c ?k; (case l => k_is); (case c => k_is); (case k => k_is)))
    (case a_is_due => k_is)
    (case b_is_due => (refine' FX.fnIn_mk ?l ?c ?k; (case l => k_is); (case c => k_is); (case k => k_is)))
    (case a_due_in_range => k_is)
    (case b_due_in_range => (refine' FX.fnIn_mk ?l ?c ?k; (case l => k_is); (case c => k_is); (case k => k_is)))
    (case a_due_too_great => k_is)
    (case b_due_too_great => (refine' FX.fnIn_mk ?l ?c ?k; (case l => k_is); (case c => k_is); (case k => k_is)))
    (case a_check_due => k_is)
    (case b_check_due => (refine' FX.fnIn_mk ?l ?c ?k; (case l => k_is); (case c => k_is); (case k => k_is)))
    (case a_due_at => k_is)
    (case b_due_at => (refine' FX.fnIn_mk ?l ?c ?k; (case l => k_is); (case c => k_is); (case k => k_is)))
    (case a_check_kinds => k_is)
    (case b_check_kinds => (refine' FX.fnIn_mk ?l ?c ?k; (case l => k_is); (case c => k_is); (case k => k_is)))
    (case a_check_steps => k_is)
    (case b_check_steps => (refine' FX.fnIn_mk ?l ?c ?k; (case l => k_is); (case c => k_is); (case k => k_is)))
    (case a_check_parts => k_is)
    (case b_check_parts => (refine' FX.fnIn_mk ?l ?c ?k; (case l => k_is); (case c => k_is); (case k => k_is)))
    (case a_check_plain => k_is)
    (case b_check_plain => (refine' FX.fnIn_mk ?l ?c ?k; (case l => k_is); (case c => k_is); (case k => k_is)))
    (case a_check_web => k_is)
    (case b_check_web => (refine' FX.fnIn_mk ?l ?c ?k; (case l => k_is); (case c => k_is); (case k => k_is)))
    (case a_check_stand => k_is)
    (case b_check_stand => (refine' FX.fnIn_mk ?l ?c ?k; (case l => k_is); (case c => k_is); (case k => k_is)))
    (case a_check_state_range => k_is)
    (case b_check_state_range => (refine' FX.fnIn_mk ?l ?c ?k; (case l => k_is); (case c => k_is); (case k => k_is)))
    (case a_check_state => k_is)
    (case b_check_state => (refine' FX.fnIn_mk ?l ?c ?k; (case l => k_is); (case c => k_is); (case k => k_is)))
    (case a_dues_at => k_is)
    (case b_dues_at => (refine' FX.fnIn_mk ?l ?c ?k; (case l => k_is); (case c => k_is); (case k => k_is)))
    (case a_bought => k_is)
    (case b_bought => (refine' FX.fnIn_mk ?l ?c ?k; (case l => k_is); (case c => k_is); (case k => k_is)))
    (case a_check_listing_size => k_is)
    (case b_check_listing_size => (refine' FX.fnIn_mk ?l ?c ?k; (case l => k_is); (case c => k_is); (case k => k_is)))
    (case a_claimable => k_is)
    (case b_claimable => (refine' FX.fnIn_mk ?l ?c ?k; (case l => k_is); (case c => k_is); (case k => k_is)))
    (case a_is_good => k_is)
    (case b_is_good => (refine' FX.fnIn_mk ?l ?c ?k; (case l => k_is); (case c => k_is); (case k => k_is)))
    (case a_forced => k_is)
    (case b_forced => (refine' FX.fnIn_mk ?l ?c ?k; (case l => k_is); (case c => k_is); (case k => k_is)))
    (case a_stand_behind => k_is)
    (case b_stand_behind => (refine' FX.fnIn_mk ?l ?c ?k; (case l => k_is); (case c => k_is); (case k => k_is)))
    (case a_level_behind => k_is)
    (case b_level_behind => (refine' FX.fnIn_mk ?l ?c ?k; (case l => k_is); (case c => k_is); (case k => k_is)))
    (case a_won_states => k_is)
    (case b_won_states => (refine' FX.fnKIn_mk ?l ?c ?k ?lT ?dT ?hu ?lk ?hk; (case l => k_is); (case c => k_is); (case k => k_is); (case lT => k_is); (case dT => rfl); (case hu => first | exact ⟨_, rfl⟩ | rfl); (case lk => k_is); (case hk => first | exact ⟨_, rfl⟩ | rfl)))
    (case a_level_of => k_is)
    (case b_level_of => (refine' FX.fnIn_mk ?l ?c ?k; (case l => k_is); (case c => k_is); (case k => k_is)))
    (case a_law_draw => k_is)
    (case b_law_draw => (refine' FX.fnIn_mk ?l ?c ?k; (case l => k_is); (case c => k_is); (case k => k_is)))
    (case a_law_whole => k_is)
    (case b_law_whole => (refine' FX.fnIn_mk ?l ?c ?k; (case l => k_is); (case c => k_is); (case k => k_is)))
    (case a_law_lot => k_is)
    (case b_law_lot => (refine' FX.fnIn_mk ?l ?c ?k; (case l => k_is); (case c => k_is); (case k => k_is)))
    (case a_law_due => k_is)
    (case b_law_due => (refine' FX.fnIn_mk ?l ?c ?k; (case l => k_is); (case c => k_is); (case k => k_is)))
    (case a_law_marks => k_is)
    (case b_law_marks => (refine' FX.fnIn_mk ?l ?c ?k; (case l => k_is); (case c => k_is); (case k => k_is)))
    (case a_law_path => k_is)
    (case b_law_path => (refine' FX.fnIn_mk ?l ?c ?k; (case l => k_is); (case c => k_is); (case k => k_is)))
    (case a_law_web => k_is)
    (case b_law_web => (refine' FX.fnIn_mk ?l ?c ?k; (case l => k_is); (case c => k_is); (case k => k_is)))
    (case a_law_due_at => k_is)
    (case b_law_due_at => (refine' FX.fnIn_mk ?l ?c ?k; (case l => k_is); (case c => k_is); (case k => k_is)))
    (case a_law_half => k_is)
    (case b_law_half => (refine' FX.fnIn_mk ?l ?c ?k; (case l => k_is); (case c => k_is); (case k => k_is)))
    (case a_law_low => k_is)
    (case b_law_low => (refine' FX.fnIn_mk ?l ?c ?k; (case l => k_is); (case c => k_is); (case k => k_is)))
    (case a_law_high => k_is)
    (case b_law_high => (refine' FX.fnIn_mk ?l ?c ?k; (case l => k_is); (case c => k_is); (case k => k_is)))
    (case a_law_price => k_is)
    (case b_law_price => (refine' FX.fnIn_mk ?l ?c ?k; (case l => k_is); (case c => k_is); (case k => k_is)))
    (case a_law_next => k_is)
    (case b_law_next => (refine' FX.fnIn_mk ?l ?c ?k; (case l => k_is); (case c => k_is); (case k => k_is)))
    (case a_law_built => k_is)
    (case b_law_built => (refine' FX.fnIn_mk ?l ?c ?k; (case l => k_is); (case c => k_is); (case k => k_is)))
    (case a_law_rounds => k_is)
    (case b_law_rounds => (refine' FX.fnIn_mk ?l ?c ?k; (case l => k_is); (case c => k_is); (case k => k_is)))
    (case a_law_states => k_is)
    (case b_law_states => (refine' FX.fnIn_mk ?l ?c ?k; (case l => k_is); (case c => k_is); (case k => k_is)))
    (case a_law_level => k_is)
    (case b_law_level => (refine' FX.fnIn_mk ?l ?c ?k; (case l => k_is); (case c => k_is); (case k => k_is)))
    (case a_law_code => k_is)
    (case b_law_code => (refine' FX.fnIn_mk ?l ?c ?k; (case l => k_is); (case c => k_is); (case k => k_is)))
    (case a_law_level_code => k_is)
    (case b_law_level_code => (refine' FX.fnIn_mk ?l ?c ?k; (case l => k_is); (case c => k_is); (case k => k_is)))
    (case a_law_refusals => k_is)
    (case b_law_refusals => (refine' FX.fnIn_mk ?l ?c ?k; (case l => k_is); (case c => k_is); (case k => k_is)))
    (case a_Web => k_is)
    (case i_Web => k_is)
    (case j_Web => k_is)
    (case b_Web_init => (refine' FX.fnIn_mk ?l ?c ?k; (case l => k_is); (case c => k_is); (case k => k_is)))
    (case q_Web => k_is)
    (case k_Web => k_is)
    (case g_Web => (refine' FX.clsF_at ⟨?x1, ?x2, ?x3, ?x4⟩ ?x5 ?x6 ?x7 ?x8; (case x1 => k_is); (case x2 => k_is); (case x3 => k_is); (case x4 => k_is); (case x5 => k_is); (case x6 => k_is); (case x7 => k_is); (case x8 => k_is)))
    (case t_Web_dues => (refine' FX.prop_at ?x1 ?x2 ?x3; (case x1 => k_is); (case x2 => k_is); (case x3 => rfl)))
    (case b_Web_dues => (refine' FX.fnIn_mk ?l ?c ?k; (case l => k_is); (case c => k_is); (case k => k_is)))
    (case t_Web_first => (refine' FX.prop_at ?x1 ?x2 ?x3; (case x1 => k_is); (case x2 => k_is); (case x3 => rfl)))
    (case b_Web_first => (refine' FX.fnIn_mk ?l ?c ?k; (case l => k_is); (case c => k_is); (case k => k_is)))
    (case t_Web_marks => (refine' FX.prop_at ?x1 ?x2 ?x3; (case x1 => k_is); (case x2 => k_is); (case x3 => rfl)))
    (case b_Web_marks => (refine' FX.fnIn_mk ?l ?c ?k; (case l => k_is); (case c => k_is); (case k => k_is)))
    (case t_Web_second => (refine' FX.prop_at ?x1 ?x2 ?x3; (case x1 => k_is); (case x2 => k_is); (case x3 => rfl)))
    (case b_Web_second => (refine' FX.fnIn_mk ?l ?c ?k; (case l => k_is); (case c => k_is); (case k => k_is)))
    (case t_Web_size => (refine' FX.prop_at ?x1 ?x2 ?x3; (case x1 => k_is); (case x2 => k_is); (case x3 => rfl)))
    (case b_Web_size => (refine' FX.fnIn_mk ?l ?c ?k; (case l => k_is); (case c => k_is); (case k => k_is)))
    (case cm_Web_line => (refine' FX.cmet_at ?x0 ?x1 ?x2 ?x3 ?x4; (case x0 => exact (show PySem.fastLookup "type" "line" = some none by decide +kernel)); (case x1 => k_is); (case x2 => k_is); (case x3 => rfl); (case x4 => k_is)))
    (case b_Web_line => (refine' FX.fnDIn_mk ?l ?c ?k ?lT ?dT ?hu; (case l => k_is); (case c => k_is); (case k => k_is); (case lT => k_is); (case dT => rfl); (case hu => first | exact ⟨_, rfl⟩ | rfl)))
    (case cm_Web_ring => (refine' FX.cmet_at ?x0 ?x1 ?x2 ?x3 ?x4; (case x0 => exact (show PySem.fastLookup "type" "ring" = some none by decide +kernel)); (case x1 => k_is); (case x2 => k_is); (case x3 => rfl); (case x4 => k_is)))
    (case b_Web_ring => (refine' FX.fnDIn_mk ?l ?c ?k ?lT ?dT ?hu; (case l => k_is); (case c => k_is); (case k => k_is); (case lT => k_is); (case dT => rfl); (case hu => first | exact ⟨_, rfl⟩ | rfl)))
    (case cr_Web => (refine' FX.cread_at ?x1 ?x2; (case x1 => k_is); (case x2 => k_is)))
    (case gm_ORDERS => k_is)
    (case gt_ORDERS => (refine' FX.gtup_mk ?gl ?gc ?gd ?gs ?gv; (case gl => k_is); (case gc => rfl); (case gd => rfl); (case gs => decide +kernel); (case gv => exact (.cons (by first | rfl | exact ⟨_, rfl⟩) (.cons (by first | rfl | exact ⟨_, rfl⟩) (.cons (by first | rfl | exact ⟨_, rfl⟩) .nil))))))
    (case n_Web__dues => k_is)
    (case n_Web__ends => k_is)
    (case n_Web__even => k_is)
    (case n_Web__first => k_is)
    (case n_Web__greatest_due => k_is)
    (case n_Web__marks => k_is)
    (case n_Web__moving => k_is)
    (case n_Web__second => k_is)
    (case n_Web__size => k_is)
    (case v_GREATEST => exact ⟨_, rfl⟩)
    (case v_MOST_STANDS_webparts => exact ⟨_, rfl⟩)
    (case v_MOST_STANDS_listing => exact ⟨_, rfl⟩)
    (case v_MOST_CHIPS => exact ⟨_, rfl⟩)
    (case z_all => k_is)
    (case z_any => k_is)
    (case z_bool => k_is)
    (case z_enumerate => k_is)
    (case z_int => k_is)
    (case z_isinstance => k_is)
    (case z_len => k_is)
    (case z_list => k_is)
    (case z_max => k_is)
    (case z_min => k_is)
    (case z_range => k_is)
    (case z_set => k_is)
    (case z_sorted => k_is)
    (case z_str => k_is)
    (case z_tuple => k_is)
    (case eA0 => k_is)
    (case eX0 => k_exc)
    (case eK0 => k_is)
    (case eB0 => k_is)
    (case eT0 => k_is)
    (case eA1 => k_is)
    (case eX1 => k_exc)
    (case eK1 => k_is)
    (case eB1 => k_is)
    (case eT1 => k_is)
    (case eA2 => k_is)
    (case eX2 => k_exc)
    (case eK2 => k_is)
    (case eB2 => k_is)
    (case eT2 => k_is)
    (case eA3 => k_is)
    (case eX3 => k_exc)
    (case eK3 => k_is)
    (case eB3 => k_is)
    (case eT3 => k_is)
    (case ap00 => (refine' FX.exm_at ?x1 ?x2 ?x3 ?x4; (case x1 => k_is); (case x2 => k_is); (case x3 => k_is); (case x4 => first | rfl | k_is)))
    (case ap01 => (refine' FX.exm_at ?x1 ?x2 ?x3 ?x4; (case x1 => k_is); (case x2 => k_is); (case x3 => k_is); (case x4 => first | rfl | k_is)))
    (case ap02 => (refine' FX.exm_at ?x1 ?x2 ?x3 ?x4; (case x1 => k_is); (case x2 => k_is); (case x3 => k_is); (case x4 => first | rfl | k_is)))
    (case ap03 => (refine' FX.exm_at ?x1 ?x2 ?x3 ?x4; (case x1 => k_is); (case x2 => k_is); (case x3 => k_is); (case x4 => first | rfl | k_is)))
    (case ap10 => (refine' FX.exm_at ?x1 ?x2 ?x3 ?x4; (case x1 => k_is); (case x2 => k_is); (case x3 => k_is); (case x4 => first | rfl | k_is)))
    (case ap11 => (refine' FX.exm_at ?x1 ?x2 ?x3 ?x4; (case x1 => k_is); (case x2 => k_is); (case x3 => k_is); (case x4 => first | rfl | k_is)))
    (case ap12 => (refine' FX.exm_at ?x1 ?x2 ?x3 ?x4; (case x1 => k_is); (case x2 => k_is); (case x3 => k_is); (case x4 => first | rfl | k_is)))
    (case ap13 => (refine' FX.exm_at ?x1 ?x2 ?x3 ?x4; (case x1 => k_is); (case x2 => k_is); (case x3 => k_is); (case x4 => first | rfl | k_is)))
    (case ap20 => (refine' FX.exm_at ?x1 ?x2 ?x3 ?x4; (case x1 => k_is); (case x2 => k_is); (case x3 => k_is); (case x4 => first | rfl | k_is)))
    (case ap21 => (refine' FX.exm_at ?x1 ?x2 ?x3 ?x4; (case x1 => k_is); (case x2 => k_is); (case x3 => k_is); (case x4 => first | rfl | k_is)))
    (case ap22 => (refine' FX.exm_at ?x1 ?x2 ?x3 ?x4; (case x1 => k_is); (case x2 => k_is); (case x3 => k_is); (case x4 => first | rfl | k_is)))
    (case ap23 => (refine' FX.exm_at ?x1 ?x2 ?x3 ?x4; (case x1 => k_is); (case x2 => k_is); (case x3 => k_is); (case x4 => first | rfl | k_is)))
    (case ap30 => (refine' FX.exm_at ?x1 ?x2 ?x3 ?x4; (case x1 => k_is); (case x2 => k_is); (case x3 => k_is); (case x4 => first | rfl | k_is)))
    (case ap31 => (refine' FX.exm_at ?x1 ?x2 ?x3 ?x4; (case x1 => k_is); (case x2 => k_is); (case x3 => k_is); (case x4 => first | rfl | k_is)))
    (case ap32 => (refine' FX.exm_at ?x1 ?x2 ?x3 ?x4; (case x1 => k_is); (case x2 => k_is); (case x3 => k_is); (case x4 => first | rfl | k_is)))
    (case ap33 => (refine' FX.exm_at ?x1 ?x2 ?x3 ?x4; (case x1 => k_is); (case x2 => k_is); (case x3 => k_is); (case x4 => first | rfl | k_is)))
    (case a_law_pot => k_is)
    (case a_law => k_is)
    (case b_law_pot => (refine' FX.fnIn_mk ?l ?c ?k; (case l => k_is); (case c => k_is); (case k => k_is)))
    (case l_law => k_is)
    (case c_law => k_is)
    (case k_law => k_is)
