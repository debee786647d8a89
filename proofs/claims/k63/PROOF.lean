import PyProof.Rows.All
import Wide.All
import OpenK.AllK
import Wide.FinOn
import HandS.ForMost
import HandS.ForExc
import HandS.TryMany
import HandS.Star
import HandS.Strs
import HandS.SetFor
import HandS.IsInst
import HandS.Property
import HandS.Conv
import HandS.Small
import HandS.RevRange
import KE.GoesEnum
import KE.GoesMore
import KE.KOpsOwn
import HandS.More
import HandS.SlotsOwn
import PyProof.InstNe
import HandS.IterVal
import HandS.OwnEq
import HandS.Flow
import HandS.OwnIter
import HandS.DictComp
import HandS.WideBits
import HandS.List
import HandS.Gcd
import HandS.ClsMeth
import HandS.Wide
import HandS.Defaults
import Flt.RightSqrt
import KE.DataMinMax
import HandS.SortKw
import HandS.Style
import PySem.Challenge.RW_pursewebs_k63_where_the_bank_has_no_numb
set_option Elab.async false
set_option linter.all false
set_option maxRecDepth 100000
set_option maxHeartbeats 4000000
namespace Den
open PySem L2
inductive Ty where
  | non | bl | int | str | lst | tup
  deriving DecidableEq
def Ty.name : Ty → String
  | .non => "NoneType"
  | .bl => "bool"
  | .int => "int"
  | .str => "str"
  | .lst => "list"
  | .tup => "tuple"
inductive D where
  | non | bl (b : Bool) | int (i : Int) | str (x : Str) | lst (ds : List D) | tup (ds : List D) | ins (C : Addr) (ns : List Str) (ds : List D) | pot | ty (n : Ty) | cls (C : Addr) | dct (kvs : List (Key × V))

mutual
/-- the value v is the datum d, as far as the standing part G of the heap tells -/
inductive At (P : Addr) (G : Hp) : V → D → Prop
  | non : At P G .non .non
  | bl (b : Bool) : At P G (.bl b) (.bl b)
  | int (i : Int) : At P G (.int i) (.int i)
  | str (x : Str) : At P G (.str x) (.str x)
  | lst {p : Addr} {vs : List V} {ds : List D} (h : G p = some (.lst vs)) (a : AtL P G vs ds) : At P G (.ref p) (.lst ds)
  | tup {p : Addr} {vs : List V} {ds : List D} (h : G p = some (.tup vs)) (a : AtL P G vs ds) : At P G (.ref p) (.tup ds)
  | ins {p dx C : Addr} {ns : List Str} {vs : List V} {ds : List D} (h : G p = some (.ins C dx (ns.zip vs))) (a : AtL P G vs ds) : At P G (.ref p) (.ins C ns ds)
  | pot : At P G (.ref P) .pot
  | ty (n : Ty) : At P G (.ty n.name) (.ty n)
  | cls (C : Addr) : At P G (.ref C) (.cls C)
  | dct {p : Addr} {o : Obj} {kvs : List (Key × V)} (h : G p = some (.frz o (.dK kvs))) : At P G (.ref p) (.dct kvs)
inductive AtL (P : Addr) (G : Hp) : List V → List D → Prop
  | nil : AtL P G [] []
  | cons {v : V} {d : D} {vs : List V} {ds : List D} (h : At P G v d) (t : AtL P G vs ds) : AtL P G (v :: vs) (d :: ds)
end
def Ex (H H' : Hp) : Prop := ∀ a o, H a = some o → H' a = some o
theorem Ex.refl (H : Hp) : Ex H H := fun _ _ h => h
theorem Ex.trans {H H1 H2 : Hp} (a : Ex H H1) (b : Ex H1 H2) : Ex H H2 := fun x o h => b x o (a x o h)
theorem Ex.new {H : Hp} {p : Addr} {o : HO} (h : H p = none) : Ex H (upd H p o) := fun a u e => by
  rw [upd_ne (ne_of_none e h)]
  exact e

mutual
theorem At.mono {P : Addr} {G G' : Hp} (e : Ex G G') : ∀ {v : V} {d : D}, At P G v d → At P G' v d
  | _, _, .non => .non
  | _, _, .bl b => .bl b
  | _, _, .int i => .int i
  | _, _, .str x => .str x
  | _, _, .lst h a => .lst (e _ _ h) (AtL.mono e a)
  | _, _, .tup h a => .tup (e _ _ h) (AtL.mono e a)
  | _, _, .ins h a => .ins (e _ _ h) (AtL.mono e a)
  | _, _, .pot => .pot
  | _, _, .ty n => .ty n
  | _, _, .cls C => .cls C
  | _, _, .dct h => .dct (e _ _ h)
theorem AtL.mono {P : Addr} {G G' : Hp} (e : Ex G G') : ∀ {vs : List V} {ds : List D}, AtL P G vs ds → AtL P G' vs ds
  | _, _, .nil => .nil
  | _, _, .cons h t => .cons (At.mono e h) (AtL.mono e t)
end
section
variable {P : Addr} {G : Hp}
theorem AtL.length : ∀ {vs : List V} {ds : List D}, AtL P G vs ds → vs.length = ds.length
  | _, _, .nil => rfl
  | _, _, .cons _ t => by simp [AtL.length t]
theorem AtL.get : ∀ {vs : List V} {ds : List D} {i : Nat} {d : D}, AtL P G vs ds → ds[i]? = some d → ∃ v, vs[i]? = some v ∧ At P G v d
  | _, _, _, _, .nil, e => by simp at e
  | _, _, 0, _, .cons h _, e => by simp at e; subst e; exact ⟨_, rfl, h⟩
  | _, _, i + 1, d, .cons _ t, e => by
    obtain ⟨v, h1, h2⟩ := AtL.get (i := i) (d := d) t (by simpa using e)
    exact ⟨v, by simpa using h1, h2⟩
theorem AtL.getV : ∀ {vs : List V} {ds : List D} {i : Nat} {v : V}, AtL P G vs ds → vs[i]? = some v → ∃ d, ds[i]? = some d ∧ At P G v d
  | _, _, _, _, .nil, e => by simp at e
  | _, _, 0, _, .cons h _, e => by simp at e; subst e; exact ⟨_, rfl, h⟩
  | _, _, i + 1, v, .cons _ t, e => by
    obtain ⟨d, h1, h2⟩ := AtL.getV (i := i) (v := v) t (by simpa using e)
    exact ⟨d, by simpa using h1, h2⟩
theorem AtL.append : ∀ {vs ws : List V} {ds es : List D}, AtL P G vs ds → AtL P G ws es → AtL P G (vs ++ ws) (ds ++ es)
  | _, _, _, _, .nil, s => s
  | _, _, _, _, .cons h t, s => .cons h (AtL.append t s)
theorem AtL.take : ∀ {vs : List V} {ds : List D} (n : Nat), AtL P G vs ds → AtL P G (vs.take n) (ds.take n)
  | _, _, 0, _ => .nil
  | _, _, _ + 1, .nil => .nil
  | _, _, n + 1, .cons h t => .cons h (AtL.take n t)
theorem AtL.drop : ∀ {vs : List V} {ds : List D} (n : Nat), AtL P G vs ds → AtL P G (vs.drop n) (ds.drop n)
  | _, _, 0, a => a
  | _, _, _ + 1, .nil => .nil
  | _, _, n + 1, .cons h t => AtL.drop n t
theorem AtL.set {v : V} {d : D} (h : At P G v d) : ∀ {vs : List V} {ds : List D} (i : Nat), AtL P G vs ds → AtL P G (vs.set i v) (ds.set i d)
  | _, _, _, .nil => .nil
  | _, _, 0, .cons _ t => .cons h t
  | _, _, i + 1, .cons q t => .cons q (AtL.set h i t)
theorem AtL.ints : ∀ {ns : List Int}, AtL P G (ns.map V.int) (ns.map D.int)
  | [] => .nil
  | n :: ns => .cons (.int n) AtL.ints
end
/-- from (G, H) on: the standing part grows, what stood stands (but the pot), what is new was free -/
structure Stp (B : Addr → Prop) (G H G' H' : Hp) : Prop where
  gg : Ex G G'
  gh : Ex G' H'
  keep : ∀ q o, H q = some o → ¬ B q → H' q = some o
  there : ∀ q, H' q = none → H q = none
  new : ∀ p o, G' p = some o → G p = some o ∨ H p = none
theorem Stp.refl {B : Addr → Prop} {G H : Hp} (gh : Ex G H) : Stp B G H G H := ⟨Ex.refl G, gh, fun _ _ h _ => h, fun _ h => h, fun _ _ h => .inl h⟩
theorem Stp.trans {B : Addr → Prop} {G H G1 H1 G2 H2 : Hp} (a : Stp B G H G1 H1) (b : Stp B G1 H1 G2 H2) : Stp B G H G2 H2 :=
  ⟨a.gg.trans b.gg, b.gh, fun q o h n => b.keep q o (a.keep q o h n) n, fun q h => a.there q (b.there q h), fun p o h => (b.new p o h).elim (fun z => a.new p o z) fun z => .inr (a.there p z)⟩
/-- a new object, standing from now on -/
theorem Stp.lay {B : Addr → Prop} {G H : Hp} {p : Addr} {o : HO} (gh : Ex G H) (h : H p = none) : Stp B G H (upd G p o) (upd H p o) := by
  refine ⟨fun a u e => ?_, fun a u e => ?_, fun q u e _ => ?_, fun q e => ?_, fun a u e => ?_⟩
  · rw [upd_ne (ne_of_none (gh a u e) h)]; exact e
  · by_cases z : a = p
    · subst z; rw [upd_same] at e; rw [upd_same]; exact e
    · rw [upd_ne z] at e; rw [upd_ne z]; exact gh a u e
  · rw [upd_ne (ne_of_none e h)]; exact e
  · by_cases z : q = p
    · subst z; exact h
    · rw [upd_ne z] at e; exact e
  · by_cases z : a = p
    · subst z; exact .inr h
    · rw [upd_ne z] at e; exact .inl e
/-- a new object that does not stand yet -/
theorem Stp.lay0 {B : Addr → Prop} {G H : Hp} {p : Addr} {o : HO} (gh : Ex G H) (h : H p = none) : Stp B G H G (upd H p o) := by
  refine ⟨Ex.refl G, fun a u e => ?_, fun q u e _ => ?_, fun q e => ?_, fun a u e => .inl e⟩
  · rw [upd_ne (ne_of_none (gh a u e) h)]; exact gh a u e
  · rw [upd_ne (ne_of_none e h)]; exact e
  · by_cases z : q = p
    · subst z; exact h
    · rw [upd_ne z] at e; exact e

/-- what a slot holds: a datum, a list of one's own, an instance that is being made -/
inductive L where
  | dat (d : D) | cell (ds : List D) | obj (a C : Addr) (ns : List Str) (ds : List D)
abbrev Loc := List (Option L)

/-- P: the place of what the reading changes (the pot); B: all places that belong to it; inv: what it holds -/
structure Cfg where
  K : PySem.W.Frag
  P : Addr
  ec : Nat → Addr
  B : Addr → Prop
  inv : List Int → Hp → Prop
  full : ∀ {p : List Int} {H : Hp}, inv p H → ∀ a, B a → H a ≠ none
  ext : ∀ {p : List Int} {H H' : Hp}, (∀ a, B a → H' a = H a) → inv p H → inv p H'

def SlotAt (c : Cfg) (H0 G H : Hp) : Option (Option V) → L → Prop
  | some (some v), .dat d => At c.P G v d
  | some (some (.ref p)), .cell ds => ∃ vs, H p = some (.lst vs) ∧ AtL c.P G vs ds ∧ G p = none ∧ H0 p = none
  | some (some (.ref p)), .obj a C ns ds => p = a ∧ ∃ vs dx, H p = some (.ins C dx (ns.zip vs)) ∧ AtL c.P G vs ds ∧ G p = none ∧ H0 p = none ∧ ¬ c.B p
  | _, _ => False
def owned : L → Bool
  | .dat _ => false
  | _ => true

structure Rel (c : Cfg) (G0 H0 G H : Hp) (σ : St) (l : Loc) (pot : List Int) : Prop where
  stp : Stp c.B G0 H0 G H
  pot : c.inv pot H
  gP : ∀ a, c.B a → G a = none
  hP : ∀ a, c.B a → H0 a ≠ none
  len : σ.length = l.length
  slot : ∀ (i : Nat) (x : L), l[i]? = some (some x) → SlotAt c H0 G H σ[i]? x
  dist : ∀ (i j : Nat) (x y : L), l[i]? = some (some x) → l[j]? = some (some y) → owned x = true → owned y = true → i ≠ j → σ[i]? ≠ σ[j]?

inductive R (α : Type) where
  | ok (a : α) (pot : List Int) | err (n : Nat) (pot : List Int) | bad
def R.bind {α β : Type} : R α → (α → List Int → R β) → R β
  | .ok a p, k => k a p
  | .err n p, _ => .err n p
  | .bad, _ => .bad
abbrev M (α : Type) := Loc → List Int → R α

section
variable {c : Cfg} {G0 H0 G H G' H' : Hp} {σ : St} {l : Loc} {pot pot' : List Int}
theorem SlotAt.step {x : L} {o : Option (Option V)} (hh : ∀ a, c.B a → H0 a ≠ none) (s : Stp c.B G H G' H') (a : SlotAt c H0 G H o x) : SlotAt c H0 G' H' o x := by
  have pres : ∀ {p : Addr} {u : HO}, H p = some u → G p = none → G' p = none := fun {p u} h1 h2 => by
    cases e : G' p with
    | none => rfl
    | some w =>
      rcases s.new p w e with z | z
      · rw [h2] at z; cases z
      · rw [h1] at z; cases z
  match o, x, a with
  | some (some v), .dat d, a => exact At.mono s.gg a
  | some (some (.ref p)), .cell ds, ⟨vs, h1, h2, h3, h4⟩ =>
    exact ⟨vs, s.keep p _ h1 (fun z => hh p z h4), AtL.mono s.gg h2, pres h1 h3, h4⟩
  | some (some (.ref p)), .obj a C ns ds, ⟨ea, vs, dx, h1, h2, h3, h4, h5⟩ => exact ⟨ea, vs, dx, s.keep p _ h1 h5, AtL.mono s.gg h2, pres h1 h3, h4, h5⟩
theorem Rel.hp (r : Rel c G0 H0 G H σ l pot) : ∀ a, c.B a → H a ≠ none := fun a b z => r.hP a b (r.stp.there a z)
/-- the state behind an expression -/
theorem Rel.step (r : Rel c G0 H0 G H σ l pot) (s : Stp c.B G H G' H') (hp : c.inv pot' H') : Rel c G0 H0 G' H' σ l pot' := by
  refine ⟨r.stp.trans s, hp, fun a b => ?_, r.hP, r.len, fun i x e => (r.slot i x e).step r.hP s, r.dist⟩
  cases e : G' a with
  | none => rfl
  | some w =>
    rcases s.new _ w e with z | z
    · rw [r.gP a b] at z; cases z
    · exact absurd z (r.hp a b)
/-- nothing that belongs to the pot is touched -/
theorem Rel.same (r : Rel c G0 H0 G H σ l pot) (s : Stp c.B G H G' H') (hp : ∀ a, c.B a → H' a = H a) : Rel c G0 H0 G' H' σ l pot := r.step s (c.ext hp r.pot)
end
/-- what is changed is a list of ints: the pot -/
structure Cfg.Pot (c : Cfg) : Prop where
  b : ∀ a, c.B a ↔ a = c.P
  i : ∀ p H, c.inv p H ↔ H c.P = some (.lst (p.map V.int))
def potCfg (K : PySem.W.Frag) (P : Addr) (ec : Nat → Addr) : Cfg := ⟨K, P, ec, fun a => a = P, fun p H => H P = some (.lst (p.map V.int)), (fun {p H} h a b z => by rw [b, h] at z; cases z), (fun {p H H'} e h => by rw [e P rfl]; exact h)⟩
theorem potCfg_pot (K : PySem.W.Frag) (P : Addr) (ec : Nat → Addr) : (potCfg K P ec).Pot := ⟨fun _ => Iff.rfl, fun _ _ => Iff.rfl⟩

/-- what is wanted behind a reading that comes to r -/
def Post (c : Cfg) (E : St → XK) {α β : Type} (rel : Hp → α → β → Prop) (G0 H0 G H : Hp) (σ : St) (l : Loc) : R β → (α → Hp → Prop) → Prop
  | .ok b p, Q => ∀ a G' H', Stp c.B G H G' H' → Rel c G0 H0 G' H' σ l p → rel G' a b → Q a H'
  | .err n p, _ => ∀ G' H', Ex G G' → Rel c G0 H0 G' H' σ l p → E σ (.ref (c.ec n)) none H'
  | .bad, _ => False
/-- what an expression's (a test's, an argument list's) reading owes to its function -/
def Sn (c : Cfg) (E : St → XK) {α β : Type} (rel : Hp → α → β → Prop) (t : St → Hp → (α → Hp → Prop) → Prop) (e : M β) : Prop :=
  ∀ G0 H0 G H σ l pot, Rel c G0 H0 G H σ l pot → ∀ Q : α → Hp → Prop, Post c E rel G0 H0 G H σ l (e l pot) Q → t σ H Q
abbrev rD (c : Cfg) : Hp → V → D → Prop := fun G v d => At c.P G v d
abbrev rB : Hp → Bool → Bool → Prop := fun _ a b => a = b
abbrev rA (c : Cfg) : Hp → List V → List D → Prop := fun G v d => AtL c.P G v d
abbrev SE (c : Cfg) (E : St → XK) (t : TE) (e : M D) : Prop := Sn c E (rD c) t e
abbrev ST (c : Cfg) (E : St → XK) (t : TT) (e : M Bool) : Prop := Sn c E rB t e
abbrev SA (c : Cfg) (E : St → XK) (t : TA) (e : M (List D)) : Prop := Sn c E (rA c) t e
def mbind {α β : Type} (a : M α) (k : α → M β) : M β := fun l p => (a l p).bind fun x p' => k x l p'
def mret {α : Type} (a : α) : M α := fun _ p => .ok a p
def mlift {α : Type} : Option α → M α
  | some a => mret a
  | none => fun _ _ => .bad

section
variable {c : Cfg} {E : St → XK} {α β : Type} {rel : Hp → α → β → Prop} {G0 H0 G H G' H' : Hp} {σ : St} {l : Loc} {pot pot' : List Int}
theorem Post.mono {r : R β} {Q : α → Hp → Prop} (p : Post c E rel G0 H0 G H σ l r Q) (s : Stp c.B G H G' H') : Post c E rel G0 H0 G' H' σ l r Q := by
  cases r with
  | ok b q => exact fun a G2 H2 s2 r2 ra => p a G2 H2 (s.trans s2) r2 ra
  | err n q => exact fun G2 H2 e2 r2 => p G2 H2 (s.gg.trans e2) r2
  | bad => exact p
theorem Post.ok {b : β} {Q : α → Hp → Prop} {a : α} (p : Post c E rel G0 H0 G H σ l (.ok b pot) Q) (r : Rel c G0 H0 G H σ l pot) (h : rel G a b) : Q a H := p a G H (Stp.refl r.stp.gh) r h
theorem Sn.go {γ δ : Type} {rel' : Hp → γ → δ → Prop} {t1 : St → Hp → (γ → Hp → Prop) → Prop} {e1 : M δ} (h1 : Sn c E rel' t1 e1) (r : Rel c G0 H0 G H σ l pot) {k : δ → M β} {Q : α → Hp → Prop} {X : γ → Hp → Prop}
    (post : Post c E rel G0 H0 G H σ l (mbind e1 k l pot) Q)
    (h2 : ∀ a b p G' H', Stp c.B G H G' H' → Rel c G0 H0 G' H' σ l p → rel' G' a b → Post c E rel G0 H0 G' H' σ l (k b l p) Q → X a H') : t1 σ H X := by
  refine h1 G0 H0 G H σ l pot r _ ?_
  unfold mbind at post
  cases e : e1 l pot with
  | ok b p =>
    rw [e] at post
    exact fun a G' H' s r' ra => h2 a b p G' H' s r' ra (Post.mono post s)
  | err n p =>
    rw [e] at post
    exact post
  | bad =>
    rw [e] at post
    exact post
end
end Den
namespace Den
open PySem L2
section
variable {c : Cfg} {E : St → XK}
def mvar (i : Nat) : M D := fun l p => match l[i]? with
  | some (some (.dat d)) => .ok d p
  | _ => .bad
theorem se_var {i : Nat} : SE c E (tVar i) (mvar i) := by
  intro G0 H0 G H σ l pot r Q post
  unfold mvar at post
  split at post
  · rename_i d e
    have a := r.slot i _ e
    cases e2 : σ[i]? with
    | none => rw [e2] at a; exact a.elim
    | some o =>
      cases o with
      | none => rw [e2] at a; exact a.elim
      | some v =>
        rw [e2] at a
        exact ⟨v, e2, Post.ok post r a⟩
  · exact post.elim
theorem se_c {v : V} {d : D} (h : ∀ P G, At P G v d) : SE c E (tC v) (mret d) := fun G0 H0 G H σ l pot r Q post => Post.ok post r (h _ _)
theorem se_int {i : Int} : SE c E (tC (.int i)) (mret (.int i)) := se_c fun _ _ => .int i
theorem se_str {x : Str} : SE c E (tC (.str x)) (mret (.str x)) := se_c fun _ _ => .str x
theorem se_bl {b : Bool} : SE c E (tC (.bl b)) (mret (.bl b)) := se_c fun _ _ => .bl b
theorem se_non : SE c E (tC .non) (mret .non) := se_c fun _ _ => .non

/-- behind an operation: perhaps something new, the pot as it was -/
def OpS (c : Cfg) (t : Hp → VK → Prop) (G H : Hp) (d : D) : Prop := ∀ Q : VK, (∀ v G' H', Stp c.B G H G' H' → (∀ a, c.B a → H' a = H a) → At c.P G' v d → Q v H') → t H Q
structure S2 (c : Cfg) (r : R2) (f : D → D → Option D) : Prop where
  run : ∀ G H x y dx dy d, Ex G H → (∀ a, c.B a → H a ≠ none) → At c.P G x dx → At c.P G y dy → f dx dy = some d → OpS c (r x y) G H d
structure S1 (c : Cfg) (r : V → Hp → VK → Prop) (f : D → Option D) : Prop where
  run : ∀ G H x dx d, Ex G H → (∀ a, c.B a → H a ≠ none) → At c.P G x dx → f dx = some d → OpS c (r x) G H d
structure SN (c : Cfg) (r : List V → Hp → VK → Prop) (f : List D → Option D) : Prop where
  run : ∀ G H xs ds d, Ex G H → (∀ a, c.B a → H a ≠ none) → AtL c.P G xs ds → f ds = some d → OpS c (r xs) G H d
def op2 (f : D → D → Option D) (a b : M D) : M D := mbind a fun x => mbind b fun y => mlift (f x y)
def op1 (f : D → Option D) (a : M D) : M D := mbind a fun x => mlift (f x)
def opn (f : List D → Option D) (a : M (List D)) : M D := mbind a fun x => mlift (f x)
theorem post_op {G0 H0 G H : Hp} {σ : St} {l : Loc} {pot : List Int} {o : Option D} {t : Hp → VK → Prop} {Q : VK} (r : Rel c G0 H0 G H σ l pot) (post : Post c E (rD c) G0 H0 G H σ l (mlift o l pot) Q)
    (h : ∀ d, o = some d → OpS c t G H d) : t H Q := by
  cases o with
  | none => exact post.elim
  | some d => exact h d rfl Q fun v G' H' s hp a => post v G' H' s (r.same s hp) a
theorem se_op2 {r : R2} {f : D → D → Option D} {ta tb : TE} {a b : M D} (hr : S2 c r f) (ha : SE c E ta a) (hb : SE c E tb b) : SE c E (tOp r ta tb) (op2 f a b) := by
  intro G0 H0 G H σ l pot rl Q post
  refine Sn.go ha rl post fun x dx p G1 H1 s1 r1 hx post1 => ?_
  refine Sn.go hb r1 post1 fun y dy p2 G2 H2 s2 r2 hy post2 => ?_
  exact post_op (t := r x y) r2 post2 fun d e => hr.run G2 H2 x y dx dy d r2.stp.gh r2.hp (At.mono s2.gg hx) hy e
theorem se_op1 {r : V → Hp → VK → Prop} {f : D → Option D} {ta : TE} {a : M D} (hr : S1 c r f) (ha : SE c E ta a) : SE c E (tUn r ta) (op1 f a) := by
  intro G0 H0 G H σ l pot rl Q post
  refine Sn.go ha rl post fun x dx p G1 H1 s1 r1 hx post1 => ?_
  exact post_op (t := r x) r1 post1 fun d e => hr.run G1 H1 x dx d r1.stp.gh r1.hp hx e
theorem se_cb {r : List V → Hp → VK → Prop} {f : List D → Option D} {ta : TA} {a : M (List D)} (hr : SN c r f) (ha : SA c E ta a) : SE c E (tCB r ta) (opn f a) := by
  intro G0 H0 G H σ l pot rl Q post
  refine Sn.go ha rl post fun x dx p G1 H1 s1 r1 hx post1 => ?_
  exact post_op (t := r x) r1 post1 fun d e => hr.run G1 H1 x dx d r1.stp.gh r1.hp hx e
def anil : M (List D) := mret []
def acons (a : M D) (b : M (List D)) : M (List D) := mbind a fun x => mbind b fun ys => mret (x :: ys)
theorem sa_nil : SA c E tNil anil := fun G0 H0 G H σ l pot r Q post => Post.ok post r .nil
theorem sa_cons {te : TE} {t : TA} {a : M D} {b : M (List D)} (ha : SE c E te a) (hb : SA c E t b) : SA c E (tCons te t) (acons a b) := by
  intro G0 H0 G H σ l pot rl Q post
  refine Sn.go ha rl post fun x dx p G1 H1 s1 r1 hx post1 => ?_
  refine Sn.go hb r1 post1 fun ys dys p2 G2 H2 s2 r2 hy post2 => ?_
  exact Post.ok post2 r2 (.cons (At.mono s2.gg hx) hy)
def seqOf : D → Option (List D)
  | .lst ds => some ds
  | .tup ds => some ds
  | _ => none
theorem seq_at {P : Addr} {G : Hp} {x : V} {d : D} {ds : List D} (h : At P G x d) (e : seqOf d = some ds) : ∃ p vs, x = .ref p ∧ (G p = some (.lst vs) ∨ G p = some (.tup vs)) ∧ AtL P G vs ds := by
  cases h with
  | lst h a => cases e; exact ⟨_, _, rfl, .inl h, a⟩
  | tup h a => cases e; exact ⟨_, _, rfl, .inr h, a⟩
  | _ => cases e
theorem sqLT {K : PySem.W.Frag} {G H : Hp} {p : Addr} {vs : List V} (e : Ex G H) (h : G p = some (.lst vs) ∨ G p = some (.tup vs)) : SqL K H p vs ∨ SqT K H p vs := h.elim (fun z => .inl (.inl (.inl (e _ _ z)))) fun z => .inr (.inl (.inl (e _ _ z)))
def astar (a : M D) (b : M (List D)) : M (List D) := mbind a fun x => mbind (mlift (seqOf x)) fun ds => mbind b fun ys => mret (ds ++ ys)
theorem post_lift {α β : Type} {rel : Hp → α → β → Prop} {G0 H0 G H : Hp} {σ : St} {l : Loc} {pot : List Int} {γ : Type} {o : Option γ} {k : γ → M β} {Q : α → Hp → Prop} (post : Post c E rel G0 H0 G H σ l (mbind (mlift o) k l pot) Q) :
    ∃ g, o = some g ∧ Post c E rel G0 H0 G H σ l (k g l pot) Q := by
  cases o with
  | none => exact post.elim
  | some g => exact ⟨g, rfl, post⟩
theorem sa_star {te : TE} {t : TA} {a : M D} {b : M (List D)} (ha : SE c E te a) (hb : SA c E t b) : SA c E (StX.tStar c.K te t) (astar a b) := by
  intro G0 H0 G H σ l pot rl Q post
  refine Sn.go ha rl post fun x dx p G1 H1 s1 r1 hx post1 => ?_
  obtain ⟨ds, e, post2⟩ := post_lift post1
  obtain ⟨q, vs, rfl, h, a⟩ := seq_at hx e
  refine ⟨_, _, rfl, (sqLT r1.stp.gh h).symm, ?_⟩
  refine Sn.go hb r1 post2 fun ys dys p2 G2 H2 s2 r2 hy post2 => ?_
  exact Post.ok post2 r2 (AtL.append (AtL.mono s2.gg a) hy)

theorem ops_pure {t : Hp → VK → Prop} {G H : Hp} {d : D} {v : V} (gh : Ex G H) (a : At c.P G v d) (h : ∀ Q : VK, Q v H → t H Q) : OpS c t G H d := fun Q q => h Q (q v G H (Stp.refl gh) (fun _ _ => rfl) a)
theorem ops_new {t : Hp → VK → Prop} {G H : Hp} {d : D} (o : HO) (gh : Ex G H) (hP : (∀ a, c.B a → H a ≠ none)) (a : ∀ p, H p = none → At c.P (upd G p o) (.ref p) d) (h : ∀ Q : VK, (∀ p, H p = none → Q (.ref p) (upd H p o)) → t H Q) : OpS c t G H d := fun Q q =>
  h Q fun p hp => q _ _ _ (Stp.lay gh hp) (fun b hb => upd_ne (fun z => hP b hb (by rw [z]; exact hp))) (a p hp)
theorem at_new_l {P : Addr} {G H : Hp} {p : Addr} {vs : List V} {ds : List D} (gh : Ex G H) (h : H p = none) (a : AtL P G vs ds) : At P (upd G p (.lst vs)) (.ref p) (.lst ds) := .lst upd_same (AtL.mono (fun b o e => by rw [upd_ne (ne_of_none (gh b o e) h)]; exact e) a)
theorem at_new_t {P : Addr} {G H : Hp} {p : Addr} {vs : List V} {ds : List D} (gh : Ex G H) (h : H p = none) (a : AtL P G vs ds) : At P (upd G p (.tup vs)) (.ref p) (.tup ds) := .tup upd_same (AtL.mono (fun b o e => by rw [upd_ne (ne_of_none (gh b o e) h)]; exact e) a)
def fI (g : Int → Int → Option D) : D → D → Option D
  | .int i, .int j => g i j
  | _, _ => none
theorem fI_at {g : Int → Int → Option D} {P : Addr} {G : Hp} {x y : V} {dx dy d : D} (hx : At P G x dx) (hy : At P G y dy) (e : fI g dx dy = some d) : ∃ i j, x = .int i ∧ y = .int j ∧ g i j = some d := by
  cases hx with
  | int i =>
    cases hy with
    | int j => exact ⟨i, j, rfl, rfl, e⟩
    | _ => cases e
  | _ => cases e
def fAdd : D → D → Option D := fI fun i j => some (.int (i + j))
def fSub : D → D → Option D := fI fun i j => some (.int (i - j))
def fMul : D → D → Option D := fI fun i j => if i.natAbs < 18446744073709551616 ∨ j.natAbs < 18446744073709551616 then some (.int (i * j)) else none
def fMod : D → D → Option D := fI fun i j => if 0 < j then some (.int (i % j)) else none
def fPow : D → D → Option D := fI fun i j => if 0 ≤ j ∧ j.natAbs ≤ 1000000 ∧ i.natAbs < 18446744073709551616 then some (.int (i ^ j.toNat)) else none
def fLt : D → D → Option D := fI fun i j => some (.bl (decide (i < j)))
def fLe : D → D → Option D := fI fun i j => some (.bl (decide (i ≤ j)))
def fGt : D → D → Option D := fI fun i j => some (.bl (decide (j < i)))
def fGe : D → D → Option D := fI fun i j => some (.bl (decide (j ≤ i)))
theorem s2_add : S2 c (rI0 fun i j => .int (i + j)) fAdd := ⟨fun G H x y dx dy d gh _ hx hy e => by
  obtain ⟨i, j, rfl, rfl, e⟩ := fI_at hx hy e
  cases e
  exact ops_pure gh (.int _) fun Q q => ⟨i, j, rfl, rfl, q⟩⟩
theorem s2_sub : S2 c (rI0 fun i j => .int (i - j)) fSub := ⟨fun G H x y dx dy d gh _ hx hy e => by
  obtain ⟨i, j, rfl, rfl, e⟩ := fI_at hx hy e
  cases e
  exact ops_pure gh (.int _) fun Q q => ⟨i, j, rfl, rfl, q⟩⟩
theorem s2_mul : S2 c (rI CMul fun i j => .int (i * j)) fMul := ⟨fun G H x y dx dy d gh _ hx hy e => by
  obtain ⟨i, j, rfl, rfl, e⟩ := fI_at hx hy e
  split at e
  · rename_i z
    cases e
    exact ops_pure gh (.int _) fun Q q => ⟨i, j, rfl, rfl, (by unfold CMul; omega), q⟩
  · cases e⟩
theorem s2_mod : S2 c (rI (fun _ j => 0 < j) fun i j => .int (i % j)) fMod := ⟨fun G H x y dx dy d gh _ hx hy e => by
  obtain ⟨i, j, rfl, rfl, e⟩ := fI_at hx hy e
  split at e
  · rename_i z
    cases e
    exact ops_pure gh (.int _) fun Q q => ⟨i, j, rfl, rfl, z, q⟩
  · cases e⟩
theorem s2_pow : S2 c (rI CPow fun i j => .int (i ^ j.toNat)) fPow := ⟨fun G H x y dx dy d gh _ hx hy e => by
  obtain ⟨i, j, rfl, rfl, e⟩ := fI_at hx hy e
  split at e
  · rename_i z
    cases e
    exact ops_pure gh (.int _) fun Q q => ⟨i, j, rfl, rfl, (by unfold CPow; omega), q⟩
  · cases e⟩
theorem s2_lt : S2 c (rI0 fun i j => .bl (decide (i < j))) fLt := ⟨fun G H x y dx dy d gh _ hx hy e => by
  obtain ⟨i, j, rfl, rfl, e⟩ := fI_at hx hy e
  cases e
  exact ops_pure gh (.bl _) fun Q q => ⟨i, j, rfl, rfl, q⟩⟩
theorem s2_le : S2 c (rI0 fun i j => .bl (decide (i ≤ j))) fLe := ⟨fun G H x y dx dy d gh _ hx hy e => by
  obtain ⟨i, j, rfl, rfl, e⟩ := fI_at hx hy e
  cases e
  exact ops_pure gh (.bl _) fun Q q => ⟨i, j, rfl, rfl, q⟩⟩
theorem s2_gt : S2 c (rI0 fun i j => .bl (decide (j < i))) fGt := ⟨fun G H x y dx dy d gh _ hx hy e => by
  obtain ⟨i, j, rfl, rfl, e⟩ := fI_at hx hy e
  cases e
  exact ops_pure gh (.bl _) fun Q q => ⟨i, j, rfl, rfl, q⟩⟩
theorem s2_ge : S2 c (rI0 fun i j => .bl (decide (j ≤ i))) fGe := ⟨fun G H x y dx dy d gh _ hx hy e => by
  obtain ⟨i, j, rfl, rfl, e⟩ := fI_at hx hy e
  cases e
  exact ops_pure gh (.bl _) fun Q q => ⟨i, j, rfl, rfl, q⟩⟩
def fNeg : D → Option D
  | .int i => some (.int (-i))
  | _ => none
theorem s1_neg : S1 c (rU fun i => .int (-i)) fNeg := ⟨fun G H x dx d gh _ hx e => by
  cases hx with
  | int i => cases e; exact ops_pure gh (.int _) fun Q q => ⟨i, rfl, q⟩
  | _ => cases e⟩
/-- == of the scalars -/
def sc : D → Option V
  | .non => some .non
  | .int i => some (.int i)
  | .str x => some (.str x)
  | .bl b => some (.bl b)
  | _ => none
theorem sc_at {P : Addr} {G : Hp} {x : V} {d : D} {v : V} (h : At P G x d) (e : sc d = some v) : x = v := by
  cases h with
  | non => cases e; rfl
  | bl b => cases e; rfl
  | int i => cases e; rfl
  | str s => cases e; rfl
  | _ => cases e
def fEq (a b : D) : Option D := match sc a, sc b with
  | some v, some w => if scal v w = true then some (.bl (decide (v = w))) else none
  | _, _ => none
def fNe (a b : D) : Option D := match sc a, sc b with
  | some v, some w => if scal v w = true then some (.bl (!decide (v = w))) else none
  | _, _ => none
theorem s2_eq : S2 c rEq fEq := ⟨fun G H x y dx dy d gh _ hx hy e => by
  unfold fEq at e
  split at e
  · rename_i v w e1 e2
    have q1 := sc_at hx e1
    have q2 := sc_at hy e2
    subst q1 q2
    split at e
    · rename_i z
      cases e
      exact ops_pure gh (.bl _) fun Q q => ⟨z, q⟩
    · cases e
  · cases e⟩
theorem s2_ne : S2 c rNe fNe := ⟨fun G H x y dx dy d gh _ hx hy e => by
  unfold fNe at e
  split at e
  · rename_i v w e1 e2
    have q1 := sc_at hx e1
    have q2 := sc_at hy e2
    subst q1 q2
    split at e
    · rename_i z
      cases e
      exact ops_pure gh (.bl _) fun Q q => ⟨z, q⟩
    · cases e
  · cases e⟩
def isNon : D → Bool
  | .non => true
  | _ => false
theorem isNon_at {P : Addr} {G : Hp} {x : V} {d : D} (h : At P G x d) : decide (x = .non) = isNon d := by
  cases h <;> rfl
def fIsN (a b : D) : Option D := if isNon b then some (.bl (isNon a)) else none
def fNotN (a b : D) : Option D := if isNon b then some (.bl (!isNon a)) else none
theorem s2_isN : S2 c (fun x y H Q => y = .non ∧ Q (.bl (decide (x = .non))) H) fIsN := ⟨fun G H x y dx dy d gh _ hx hy e => by
  unfold fIsN at e
  split at e
  · rename_i z
    cases e
    rw [← isNon_at hy] at z
    exact ops_pure gh (.bl _) fun Q q => ⟨of_decide_eq_true z, by rw [isNon_at hx]; exact q⟩
  · cases e⟩
theorem s2_notN : S2 c (fun x y H Q => y = .non ∧ Q (.bl (!decide (x = .non))) H) fNotN := ⟨fun G H x y dx dy d gh _ hx hy e => by
  unfold fNotN at e
  split at e
  · rename_i z
    cases e
    rw [← isNon_at hy] at z
    exact ops_pure gh (.bl _) fun Q q => ⟨of_decide_eq_true z, by rw [isNon_at hx]; exact q⟩
  · cases e⟩

def mand (a b : M Bool) : M Bool := mbind a fun x => if x = true then b else mret false
def mor (a b : M Bool) : M Bool := mbind a fun x => if x = true then mret true else b
def mnot (a : M Bool) : M Bool := mbind a fun x => mret (!x)
def mif {α : Type} (t : M Bool) (a b : M α) : M α := mbind t fun x => if x = true then a else b
def boolOf : D → Option Bool
  | .bl b => some b
  | _ => none
theorem bool_at {P : Addr} {G : Hp} {x : V} {d : D} {b : Bool} (h : At P G x d) (e : boolOf d = some b) : x = .bl b := by
  cases h with
  | bl b => cases e; rfl
  | _ => cases e
def mtest (a : M D) : M Bool := mbind a fun x => mlift (boolOf x)
theorem st_test {t : TE} {a : M D} (ha : SE c E t a) : ST c E (tTest t) (mtest a) := by
  intro G0 H0 G H σ l pot rl Q post
  refine Sn.go ha rl post fun x dx p G1 H1 s1 r1 hx post1 => ?_
  cases e : boolOf dx with
  | none => rw [e] at post1; exact post1.elim
  | some b =>
    rw [e] at post1
    exact ⟨b, bool_at hx e, Post.ok post1 r1 rfl⟩
theorem st_and {t u : TT} {a b : M Bool} (ha : ST c E t a) (hb : ST c E u b) : ST c E (tAnd t u) (mand a b) := by
  intro G0 H0 G H σ l pot rl Q post
  refine Sn.go ha rl post fun x dx p G1 H1 s1 r1 hx post1 => ?_
  subst hx
  cases x with
  | true => rw [if_pos rfl]; exact hb _ _ _ _ _ _ _ r1 Q post1
  | false => rw [if_neg Bool.false_ne_true]; exact Post.ok post1 r1 rfl
theorem st_or {t u : TT} {a b : M Bool} (ha : ST c E t a) (hb : ST c E u b) : ST c E (tOr t u) (mor a b) := by
  intro G0 H0 G H σ l pot rl Q post
  refine Sn.go ha rl post fun x dx p G1 H1 s1 r1 hx post1 => ?_
  subst hx
  cases x with
  | true => rw [if_pos rfl]; exact Post.ok post1 r1 rfl
  | false => rw [if_neg Bool.false_ne_true]; exact hb _ _ _ _ _ _ _ r1 Q post1
theorem st_not {t : TT} {a : M Bool} (ha : ST c E t a) : ST c E (tNot t) (mnot a) := by
  intro G0 H0 G H σ l pot rl Q post
  refine Sn.go ha rl post fun x dx p G1 H1 s1 r1 hx post1 => ?_
  subst hx
  exact Post.ok post1 r1 rfl
def vand (a b : M D) : M D := mbind (mtest a) fun x => if x = true then b else mret (.bl false)
def vor (a b : M D) : M D := mbind (mtest a) fun x => if x = true then mret (.bl true) else b
def vnot (a : M D) : M D := mbind (mtest a) fun x => mret (.bl (!x))
theorem se_and {ta tb : TE} {a b : M D} (ha : SE c E ta a) (hb : SE c E tb b) : SE c E (tAndV ta tb) (vand a b) := by
  intro G0 H0 G H σ l pot rl Q post
  refine Sn.go (X := fun x H1 => ∃ c, x = .bl c ∧ if c = true then tb σ H1 Q else Q (.bl false) H1) ha rl (k := fun x => mbind (mlift (boolOf x)) fun x => if x = true then b else mret (.bl false)) (by unfold vand mtest at post; unfold mbind at post ⊢; cases e : a l pot <;> simp only [e, R.bind] at post ⊢ <;> exact post) fun x dx p G1 H1 s1 r1 hx post1 => ?_
  obtain ⟨k, e, post2⟩ := post_lift post1
  refine ⟨k, bool_at hx e, ?_⟩
  cases k with
  | true => rw [if_pos rfl]; exact hb _ _ _ _ _ _ _ r1 Q post2
  | false => rw [if_neg Bool.false_ne_true]; exact Post.ok post2 r1 (.bl false)
theorem se_or {ta tb : TE} {a b : M D} (ha : SE c E ta a) (hb : SE c E tb b) : SE c E (tOrV ta tb) (vor a b) := by
  intro G0 H0 G H σ l pot rl Q post
  refine Sn.go (X := fun x H1 => ∃ c, x = .bl c ∧ if c = true then Q (.bl true) H1 else tb σ H1 Q) ha rl (k := fun x => mbind (mlift (boolOf x)) fun x => if x = true then mret (.bl true) else b) (by unfold vor mtest at post; unfold mbind at post ⊢; cases e : a l pot <;> simp only [e, R.bind] at post ⊢ <;> exact post) fun x dx p G1 H1 s1 r1 hx post1 => ?_
  obtain ⟨k, e, post2⟩ := post_lift post1
  refine ⟨k, bool_at hx e, ?_⟩
  cases k with
  | true => rw [if_pos rfl]; exact Post.ok post2 r1 (.bl true)
  | false => rw [if_neg Bool.false_ne_true]; exact hb _ _ _ _ _ _ _ r1 Q post2
theorem se_not {ta : TE} {a : M D} (ha : SE c E ta a) : SE c E (tNotV ta) (vnot a) := by
  intro G0 H0 G H σ l pot rl Q post
  refine Sn.go (β := D) (rel := rD c) (Q := Q) (X := fun x H1 => ∃ c, x = V.bl c ∧ Q (V.bl (!c)) H1) ha rl (k := fun x => mbind (mlift (boolOf x)) fun x => mret (D.bl (!x))) (by unfold vnot mtest at post; unfold mbind at post ⊢; cases e : a l pot <;> simp only [e, R.bind] at post ⊢ <;> exact post) fun x dx p G1 H1 s1 r1 hx post1 => ?_
  obtain ⟨k, e, post2⟩ := post_lift post1
  exact ⟨k, bool_at hx e, Post.ok post2 r1 (.bl _)⟩
theorem se_if {t : TT} {ta tb : TE} {q : M Bool} {a b : M D} (hq : ST c E t q) (ha : SE c E ta a) (hb : SE c E tb b) : SE c E (tIf t ta tb) (mif q a b) := by
  intro G0 H0 G H σ l pot rl Q post
  refine Sn.go hq rl post fun x dx p G1 H1 s1 r1 hx post1 => ?_
  subst hx
  cases x with
  | true => rw [if_pos rfl]; exact ha _ _ _ _ _ _ _ r1 Q post1
  | false => rw [if_neg Bool.false_ne_true]; exact hb _ _ _ _ _ _ _ r1 Q post1
/-- truth -/
def truOf : D → Option Bool
  | .non => some false
  | .bl b => some b
  | .int i => some (i != 0)
  | .lst ds => some (!ds.isEmpty)
  | .tup ds => some (!ds.isEmpty)
  | _ => none
theorem isEmpty_at {P : Addr} {G : Hp} {vs : List V} {ds : List D} (a : AtL P G vs ds) : vs.isEmpty = ds.isEmpty := by
  cases a <;> rfl
theorem tru_at {K : PySem.W.Frag} {P : Addr} {G H : Hp} {x : V} {d : D} {b : Bool} (gh : Ex G H) (h : At P G x d) (e : truOf d = some b) : TruV K x H b := by
  cases h with
  | non => cases e; rfl
  | bl b => cases e; rfl
  | int i => cases e; rfl
  | lst h a => cases e; exact .inl ⟨_, .inl (.inl (gh _ _ h)), by rw [isEmpty_at a]⟩
  | tup h a => cases e; exact .inr (.inl ⟨_, .inl (.inl (gh _ _ h)), by rw [isEmpty_at a]⟩)
  | _ => cases e
def mtru (a : M D) : M Bool := mbind a fun x => mlift (truOf x)
theorem st_tru {t : TE} {a : M D} (ha : SE c E t a) : ST c E (fun σ H Q => t σ H fun x H' => ∃ k, TruV c.K x H' k ∧ Q k H') (mtru a) := by
  intro G0 H0 G H σ l pot rl Q post
  refine Sn.go ha rl post fun x dx p G1 H1 s1 r1 hx post1 => ?_
  cases e : truOf dx with
  | none => rw [e] at post1; exact post1.elim
  | some b =>
    rw [e] at post1
    exact ⟨b, tru_at r1.stp.gh hx e, Post.ok post1 r1 rfl⟩

def rLenS (K : PySem.W.Frag) : List V → Hp → VK → Prop := fun xs H Q => ∃ p ys, xs = [.ref p] ∧ (SqL K H p ys ∨ SqT K H p ys) ∧ Q (.int ys.length) H
def fLen : List D → Option D
  | [.lst ds] => some (.int ds.length)
  | [.tup ds] => some (.int ds.length)
  | _ => none
theorem sn_len : SN c (rLenS c.K) fLen := ⟨fun G H xs ds d gh _ hx e => by
  cases hx with
  | nil => cases e
  | cons h t =>
    cases h with
    | lst h a =>
      cases t with
      | nil => cases e; exact ops_pure gh (.int _) fun Q q => ⟨_, _, rfl, .inl (.inl (.inl (gh _ _ h))), by rw [AtL.length a]; exact q⟩
      | cons _ _ => cases e
    | tup h a =>
      cases t with
      | nil => cases e; exact ops_pure gh (.int _) fun Q q => ⟨_, _, rfl, .inr (.inl (.inl (gh _ _ h))), by rw [AtL.length a]; exact q⟩
      | cons _ _ => cases e
    | _ => cases e⟩
theorem atl1 {P : Addr} {G : Hp} {xs : List V} {d : D} (h : AtL P G xs [d]) : ∃ x, xs = [x] ∧ At P G x d := by
  cases h with
  | cons h t => cases t; exact ⟨_, rfl, h⟩
theorem atl2 {P : Addr} {G : Hp} {xs : List V} {d e : D} (h : AtL P G xs [d, e]) : ∃ x y, xs = [x, y] ∧ At P G x d ∧ At P G y e := by
  cases h with
  | cons h t => obtain ⟨y, rfl, hy⟩ := atl1 t; exact ⟨_, _, rfl, h, hy⟩
theorem at_int {P : Addr} {G : Hp} {x : V} {i : Int} (h : At P G x (.int i)) : x = .int i := by cases h; rfl
theorem at_bl {P : Addr} {G : Hp} {x : V} {i : Bool} (h : At P G x (.bl i)) : x = .bl i := by cases h; rfl
theorem at_lst {P : Addr} {G : Hp} {x : V} {ds : List D} (h : At P G x (.lst ds)) : ∃ p vs, x = .ref p ∧ G p = some (.lst vs) ∧ AtL P G vs ds := by cases h; exact ⟨_, _, rfl, by assumption, by assumption⟩
theorem at_tup {P : Addr} {G : Hp} {x : V} {ds : List D} (h : At P G x (.tup ds)) : ∃ p vs, x = .ref p ∧ G p = some (.tup vs) ∧ AtL P G vs ds := by cases h; exact ⟨_, _, rfl, by assumption, by assumption⟩
def fMax2 : List D → Option D
  | [.int i, .int j] => some (.int (if j > i then j else i))
  | _ => none
def fMin2 : List D → Option D
  | [.int i, .int j] => some (.int (if j < i then j else i))
  | _ => none
theorem sn_max2 : SN c (fun xs H Q => ∃ i j, xs = [.int i, .int j] ∧ Q (.int (if j > i then j else i)) H) fMax2 := ⟨fun G H xs ds d gh _ hx e => by
  unfold fMax2 at e
  split at e
  · obtain ⟨x, y, rfl, hx, hy⟩ := atl2 hx
    rw [at_int hx, at_int hy]
    cases e
    exact ops_pure gh (.int _) fun Q q => ⟨_, _, rfl, q⟩
  · cases e⟩
theorem sn_min2 : SN c (fun xs H Q => ∃ i j, xs = [.int i, .int j] ∧ Q (.int (if j < i then j else i)) H) fMin2 := ⟨fun G H xs ds d gh _ hx e => by
  unfold fMin2 at e
  split at e
  · obtain ⟨x, y, rfl, hx, hy⟩ := atl2 hx
    rw [at_int hx, at_int hy]
    cases e
    exact ops_pure gh (.int _) fun Q q => ⟨_, _, rfl, q⟩
  · cases e⟩
def fAbs : List D → Option D
  | [.int i] => some (.int (if i < 0 then -i else i))
  | _ => none
def fInt : List D → Option D
  | [.int i] => some (.int i)
  | [.bl b] => some (.int (if b then 1 else 0))
  | _ => none
theorem sn_int : SN c (fun xs H Q => (∃ i, xs = [.int i] ∧ Q (.int i) H) ∨ ∃ k, xs = [.bl k] ∧ Q (.int (if k then 1 else 0)) H) fInt := ⟨fun G H xs ds d gh _ hx e => by
  unfold fInt at e
  split at e
  · obtain ⟨x, rfl, hx1⟩ := atl1 hx
    rw [at_int hx1]
    cases e
    exact ops_pure gh (.int _) fun Q q => .inl ⟨_, rfl, q⟩
  · obtain ⟨x, rfl, hx1⟩ := atl1 hx
    rw [at_bl hx1]
    cases e
    exact ops_pure gh (.int _) fun Q q => .inr ⟨_, rfl, q⟩
  · cases e⟩
def fTuple : List D → Option D
  | [.lst ds] => some (.tup ds)
  | [.tup ds] => some (.tup ds)
  | _ => none
theorem sn_tuple : SN c (fun xs H Q => ∃ p ys, xs = [.ref p] ∧ ((SqL c.K H p ys ∧ ∀ l, H l = none → Q (.ref l) (upd H l (.tup ys))) ∨ (SqT c.K H p ys ∧ Q (.ref p) H))) fTuple := ⟨fun G H xs ds d gh hP hx e => by
  unfold fTuple at e
  split at e
  · obtain ⟨x, rfl, hx1⟩ := atl1 hx
    obtain ⟨p, vs, rfl, h, a⟩ := at_lst hx1
    cases e
    exact ops_new _ gh hP (fun q hq => at_new_t gh hq a) fun Q k => ⟨p, vs, rfl, .inl ⟨.inl (.inl (gh _ _ h)), k⟩⟩
  · obtain ⟨x, rfl, hx1⟩ := atl1 hx
    obtain ⟨p, vs, rfl, h, a⟩ := at_tup hx1
    cases e
    exact ops_pure gh (.tup h a) fun Q k => ⟨p, vs, rfl, .inr ⟨.inl (.inl (gh _ _ h)), k⟩⟩
  · cases e⟩
/-- the ints of a list -/
def intsOf : List D → Option (List Int)
  | [] => some []
  | .int i :: ds => (intsOf ds).map (i :: ·)
  | _ :: _ => none
theorem ints_at {P : Addr} {G : Hp} : ∀ {vs : List V} {ds : List D} {ns : List Int}, AtL P G vs ds → intsOf ds = some ns → vs = ns.map V.int
  | _, [], _, h, e => by cases h; cases e; rfl
  | _, d :: ds, ns, h, e => by
    cases h with
    | cons h t =>
      unfold intsOf at e
      split at e
      · cases ‹_ :: _ = []›
      · rename_i i ds' q
        cases q
        cases h
        cases e1 : intsOf ds with
        | none => rw [e1] at e; cases e
        | some ms => rw [e1] at e; cases e; rw [ints_at t e1]; rfl
      · cases e
def minL : Int → List Int → Int
  | m, [] => m
  | m, n :: ns => minL (if n < m then n else m) ns
def maxL : Int → List Int → Int
  | m, [] => m
  | m, n :: ns => maxL (if m < n then n else m) ns
theorem minL_le : ∀ (ns : List Int) (m : Int), minL m ns ≤ m ∧ ∀ y ∈ ns, minL m ns ≤ y
  | [], m => ⟨Int.le_refl _, fun _ h => nomatch h⟩
  | n :: ns, m => by
    obtain ⟨h1, h2⟩ := minL_le ns (if n < m then n else m)
    unfold minL
    refine ⟨?_, fun y hy => ?_⟩
    · split at h1 <;> rename_i z
      · rw [if_pos z] at *; omega
      · rw [if_neg z] at *; omega
    · rcases List.mem_cons.mp hy with rfl | hy
      · split at h1 <;> rename_i z
        · rw [if_pos z] at *; omega
        · rw [if_neg z] at *; omega
      · exact h2 y hy
theorem minL_mem : ∀ (ns : List Int) (m : Int), minL m ns ∈ m :: ns
  | [], m => List.mem_cons_self
  | n :: ns, m => by
    have h := minL_mem ns (if n < m then n else m)
    unfold minL
    split at h
    · rename_i z
      rw [if_pos z]
      exact List.mem_cons_of_mem _ h
    · rename_i z
      rw [if_neg z]
      rcases List.mem_cons.mp h with e | h
      · rw [e]; exact List.mem_cons_self
      · exact List.mem_cons_of_mem _ (List.mem_cons_of_mem _ h)
theorem le_maxL : ∀ (ns : List Int) (m : Int), m ≤ maxL m ns ∧ ∀ y ∈ ns, y ≤ maxL m ns
  | [], m => ⟨Int.le_refl _, fun _ h => nomatch h⟩
  | n :: ns, m => by
    obtain ⟨h1, h2⟩ := le_maxL ns (if m < n then n else m)
    unfold maxL
    refine ⟨?_, fun y hy => ?_⟩
    · split at h1 <;> rename_i z
      · rw [if_pos z] at *; omega
      · rw [if_neg z] at *; omega
    · rcases List.mem_cons.mp hy with rfl | hy
      · split at h1 <;> rename_i z
        · rw [if_pos z] at *; omega
        · rw [if_neg z] at *; omega
      · exact h2 y hy
theorem maxL_mem : ∀ (ns : List Int) (m : Int), maxL m ns ∈ m :: ns
  | [], m => List.mem_cons_self
  | n :: ns, m => by
    have h := maxL_mem ns (if m < n then n else m)
    unfold maxL
    split at h
    · rename_i z
      rw [if_pos z]
      exact List.mem_cons_of_mem _ h
    · rename_i z
      rw [if_neg z]
      rcases List.mem_cons.mp h with e | h
      · rw [e]; exact List.mem_cons_self
      · exact List.mem_cons_of_mem _ (List.mem_cons_of_mem _ h)
def leastOf : List Int → Option D
  | [] => none
  | n :: ns => some (.int (minL n ns))
def mostOf : List Int → Option D
  | [] => none
  | n :: ns => some (.int (maxL n ns))
def fMinL : List D → Option D
  | [.lst ds] => (intsOf ds).bind leastOf
  | _ => none
def fMaxL : List D → Option D
  | [.lst ds] => (intsOf ds).bind mostOf
  | _ => none
theorem sn_minL : SN c (rMin c.K) fMinL := ⟨fun G H xs ds d gh _ hx e => by
  unfold fMinL at e
  split at e
  · obtain ⟨x, rfl, hx1⟩ := atl1 hx
    obtain ⟨p, vs, rfl, h, a⟩ := at_lst hx1
    rename_i es
    cases e1 : intsOf es with
    | none => rw [e1] at e; cases e
    | some ns =>
      rw [e1] at e
      have ev := ints_at a e1
      subst ev
      cases ns with
      | nil => cases e
      | cons n ns =>
        cases e
        refine ops_pure gh (.int _) fun Q q => ⟨p, n :: ns, rfl, .inl (.inl (gh _ _ h)), Nat.succ_pos _, fun m hm hl => ?_⟩
        have h1 := hl _ (minL_mem ns n)
        have h2 : minL n ns ≤ m := by
          rcases List.mem_cons.mp hm with rfl | hm
          · exact (minL_le ns m).1
          · exact (minL_le ns n).2 m hm
        rw [Int.le_antisymm h1 h2]
        exact q
  · cases e⟩
theorem sn_maxL : SN c (rMax c.K) fMaxL := ⟨fun G H xs ds d gh _ hx e => by
  unfold fMaxL at e
  split at e
  · obtain ⟨x, rfl, hx1⟩ := atl1 hx
    obtain ⟨p, vs, rfl, h, a⟩ := at_lst hx1
    rename_i es
    cases e1 : intsOf es with
    | none => rw [e1] at e; cases e
    | some ns =>
      rw [e1] at e
      have ev := ints_at a e1
      subst ev
      cases ns with
      | nil => cases e
      | cons n ns =>
        cases e
        refine ops_pure gh (.int _) fun Q q => ⟨p, n :: ns, rfl, .inl (.inl (gh _ _ h)), Nat.succ_pos _, fun m hm hl => ?_⟩
        have h1 := hl _ (maxL_mem ns n)
        have h2 : m ≤ maxL n ns := by
          rcases List.mem_cons.mp hm with rfl | hm
          · exact (le_maxL ns m).1
          · exact (le_maxL ns n).2 m hm
        rw [Int.le_antisymm h2 h1]
        exact q
  · cases e⟩
end
end Den
namespace Den
open PySem L2
section
variable {c : Cfg} {E : St → XK}
theorem atI_at {P : Addr} {G : Hp} {vs : List V} {ds : List D} {i : Int} {d : D} (a : AtL P G vs ds) (e : atI ds i = some d) : ∃ v, atI vs i = some v ∧ At P G v d := by
  unfold atI at e ⊢
  rw [AtL.length a]
  cases e1 : ixN ds.length i with
  | none => rw [e1] at e; cases e
  | some j =>
    rw [e1] at e
    exact AtL.get a e
def fIx : D → D → Option D
  | .lst ds, .int i => atI ds i
  | .tup ds, .int i => atI ds i
  | _, _ => none
theorem s2_ix : S2 c (rIx c.K) fIx := ⟨fun G H x y dx dy d gh _ hx hy e => by
  unfold fIx at e
  split at e
  · obtain ⟨p, vs, rfl, h, a⟩ := at_lst hx
    obtain ⟨v, e1, av⟩ := atI_at a e
    rw [at_int hy]
    exact ops_pure gh av fun Q q => .inl ⟨p, vs, _, v, rfl, rfl, .inl (.inl (gh _ _ h)), e1, q⟩
  · obtain ⟨p, vs, rfl, h, a⟩ := at_tup hx
    obtain ⟨v, e1, av⟩ := atI_at a e
    rw [at_int hy]
    exact ops_pure gh av fun Q q => .inr (.inl ⟨p, vs, _, v, rfl, rfl, .inl (.inl (gh _ _ h)), e1, q⟩)
  · cases e⟩
def scL : List D → Option (List V)
  | [] => some []
  | d :: ds => match sc d, scL ds with
    | some v, some vs => some (v :: vs)
    | _, _ => none
theorem sc_flat {d : D} {v : V} (e : sc d = some v) : flatV v = true := by
  cases d <;> first | (cases e; rfl) | cases e
theorem scL_at {P : Addr} {G : Hp} : ∀ {vs : List V} {ds : List D} {ws : List V}, AtL P G vs ds → scL ds = some ws → vs = ws ∧ ws.all flatV = true
  | _, [], _, .nil, e => by cases e; exact ⟨rfl, rfl⟩
  | _, d :: ds, ws, .cons h t, e => by
    unfold scL at e
    split at e
    · rename_i v vs e1 e2
      cases e
      obtain ⟨q1, q2⟩ := scL_at t e2
      refine ⟨by rw [sc_at h e1, q1], ?_⟩
      rw [List.all_cons, sc_flat e1, q2]
      rfl
    · cases e
def fInB (neg : Bool) (x y : D) : Option D := match sc x, (seqOf y).bind scL with
  | some v, some vs => some (.bl (if neg then !inV v vs else inV v vs))
  | _, _ => none
theorem s2_in {neg : Bool} : S2 c (rIn c.K neg) (fInB neg) := ⟨fun G H x y dx dy d gh _ hx hy e => by
  unfold fInB at e
  split at e
  · rename_i v vs e1 e2
    cases e
    cases e3 : seqOf dy with
    | none => rw [e3] at e2; cases e2
    | some ds =>
      rw [e3] at e2
      obtain ⟨p, ws, rfl, h, a⟩ := seq_at hy e3
      obtain ⟨q1, q2⟩ := scL_at a e2
      subst q1
      rw [sc_at hx e1]
      exact ops_pure gh (.bl _) fun Q q => ⟨p, ws, rfl, sqLT gh h, sc_flat e1, q2, q⟩
  · cases e⟩

def PostN (c : Cfg) (E : St → XK) (G0 H0 G H : Hp) (σ : St) (l : Loc) : R (List D) → VK → Prop
  | .ok ds p, Q => ∀ q vs G' H', Stp c.B G H G' H' → Rel c G0 H0 G' H' σ l p → H' q = some (.lst vs) → AtL c.P G' vs ds → G' q = none → H q = none → Q (.ref q) H'
  | .err n p, _ => ∀ G' H', Ex G G' → Rel c G0 H0 G' H' σ l p → E σ (.ref (c.ec n)) none H'
  | .bad, _ => False
/-- an expression that makes a new list -/
def SEN (c : Cfg) (E : St → XK) (t : TE) (e : M (List D)) : Prop :=
  ∀ G0 H0 G H σ l pot, Rel c G0 H0 G H σ l pot → ∀ Q : VK, PostN c E G0 H0 G H σ l (e l pot) Q → t σ H Q
theorem PostN.mono {G0 H0 G H G' H' : Hp} {σ : St} {l : Loc} {r : R (List D)} {Q : VK} (p : PostN c E G0 H0 G H σ l r Q) (s : Stp c.B G H G' H') : PostN c E G0 H0 G' H' σ l r Q := by
  cases r with
  | ok b q => exact fun a vs G2 H2 s2 r2 h1 h2 h3 h4 => p a vs G2 H2 (s.trans s2) r2 h1 h2 h3 (s.there _ h4)
  | err n q => exact fun G2 H2 e2 r2 => p G2 H2 (s.gg.trans e2) r2
  | bad => exact p
theorem Sn.goN {γ δ : Type} {rel' : Hp → γ → δ → Prop} {G0 H0 G H : Hp} {σ : St} {l : Loc} {pot : List Int} {t1 : St → Hp → (γ → Hp → Prop) → Prop} {e1 : M δ} (h1 : Sn c E rel' t1 e1) (r : Rel c G0 H0 G H σ l pot) {k : δ → M (List D)} {Q : VK} {X : γ → Hp → Prop}
    (post : PostN c E G0 H0 G H σ l (mbind e1 k l pot) Q)
    (h2 : ∀ a b p G' H', Stp c.B G H G' H' → Rel c G0 H0 G' H' σ l p → rel' G' a b → PostN c E G0 H0 G' H' σ l (k b l p) Q → X a H') : t1 σ H X := by
  refine h1 G0 H0 G H σ l pot r _ ?_
  unfold mbind at post
  cases e : e1 l pot with
  | ok b p =>
    rw [e] at post
    exact fun a G' H' s r' ra => h2 a b p G' H' s r' ra (PostN.mono post s)
  | err n p =>
    rw [e] at post
    exact post
  | bad =>
    rw [e] at post
    exact post
theorem Rel.freeze {G0 H0 G H : Hp} {σ : St} {l : Loc} {pot : List Int} {q : Addr} {o : HO} (r : Rel c G0 H0 G H σ l pot) (h : H q = some o) (hq : H0 q = none) (hP : ¬ c.B q) (nc : ∀ (i : Nat) (x : L), l[i]? = some (some x) → owned x = true → σ[i]? ≠ some (some (.ref q))) :
    G q = none → Rel c G0 H0 (upd G q o) H σ l pot := by
  intro hG
  have eg : Ex G (upd G q o) := Ex.new hG
  refine ⟨⟨r.stp.gg.trans eg, fun a u e => ?_, r.stp.keep, r.stp.there, fun a u e => ?_⟩, r.pot, ?_, r.hP, r.len, fun i x e => ?_, r.dist⟩
  · by_cases z : a = q
    · subst z; rw [upd_same] at e; cases e; exact h
    · rw [upd_ne z] at e; exact r.stp.gh a u e
  · by_cases z : a = q
    · subst z; exact .inr hq
    · rw [upd_ne z] at e; exact r.stp.new a u e
  · intro a b; rw [upd_ne (fun z => hP (by rw [← z]; exact b))]; exact r.gP a b
  · have a := r.slot i x e
    have ne := nc i x e
    match ho : σ[i]?, x, a with
    | some (some v), .dat d, a => exact At.mono eg a
    | some (some (.ref p)), .cell ds, ⟨vs, h1, h2, h3, h4⟩ =>
      have np : p ≠ q := fun z => ne rfl (by rw [ho, z])
      exact ⟨vs, h1, AtL.mono eg h2, by rw [upd_ne np]; exact h3, h4⟩
    | some (some (.ref p)), .obj ea C ns ds, ⟨hea, vs, dx, h1, h2, h3, h4, h5⟩ =>
      have np : p ≠ q := fun z => ne rfl (by rw [ho, z])
      exact ⟨hea, vs, dx, h1, AtL.mono eg h2, by rw [upd_ne np]; exact h3, h4, h5⟩
/-- no own slot is at an address that is free -/
theorem Rel.own_ne {G0 H0 G H : Hp} {σ : St} {l : Loc} {pot : List Int} {q : Addr} (r : Rel c G0 H0 G H σ l pot) (h : H q = none) : ∀ (i : Nat) (x : L), l[i]? = some (some x) → owned x = true → σ[i]? ≠ some (some (.ref q)) := fun i x e ho z => by
  have a := r.slot i x e
  rw [z] at a
  cases x with
  | dat d => cases ho
  | cell ds => obtain ⟨vs, h1, _⟩ := a; rw [h] at h1; cases h1
  | obj ea C ns ds => obtain ⟨_, vs, dx, h1, _⟩ := a; rw [h] at h1; cases h1
def mfreeze (a : M (List D)) : M D := mbind a fun ds => mret (.lst ds)
theorem se_new {t : TE} {e : M (List D)} (h : SEN c E t e) : SE c E t (mfreeze e) := by
  intro G0 H0 G H σ l pot r Q post
  refine h G0 H0 G H σ l pot r Q ?_
  unfold mfreeze mbind at post
  cases e1 : e l pot with
  | bad => rw [e1] at post; exact post
  | err n p => rw [e1] at post; exact post
  | ok ds p =>
    rw [e1] at post
    intro q vs G' H' s r' h1 h2 h3 h4
    have h0 : H0 q = none := r.stp.there q h4
    have hP : ¬ c.B q := fun z => r.hP q z h0
    have r2 : Rel c G0 H0 (upd G' q (.lst vs)) H' σ l p := Rel.freeze r' h1 h0 hP (fun i x e ho => r.own_ne h4 i x e ho) h3
    exact post (.ref q) _ H' ⟨s.gg.trans (Ex.new h3), r2.stp.gh, s.keep, s.there, fun a u e => by
      by_cases z : a = q
      · subst z; exact .inr h4
      · rw [upd_ne z] at e; exact s.new a u e⟩ r2 (.lst upd_same (AtL.mono (Ex.new h3) h2))

/-- a list display, a tuple display -/
def mshort (a : M (List D)) : M (List D) := mbind a fun ds => if ds.length ≤ 1000 then mret ds else fun _ _ => .bad
def mtupd (a : M (List D)) : M D := mbind (mshort a) fun ds => mret (.tup ds)
theorem sz1000 {n : Nat} (h : n ≤ 1000) : n ≤ sizeLine := Nat.le_trans h (by decide)
theorem sen_of {G0 H0 G H : Hp} {σ : St} {l : Loc} {pot : List Int} {vs : List V} {ds : List D} {Q : VK} (r : Rel c G0 H0 G H σ l pot) (a : AtL c.P G vs ds) (post : PostN c E G0 H0 G H σ l (.ok ds pot) Q) (p : Addr) (hp : H p = none) : Q (.ref p) (upd H p (.lst vs)) := by
  have s : Stp c.B G H G (upd H p (.lst vs)) := Stp.lay0 r.stp.gh hp
  have hP : ∀ a, c.B a → a ≠ p := fun a b z => r.hp a b (by rw [z]; exact hp)
  have hG : G p = none := by
    cases e : G p with
    | none => rfl
    | some u => have := r.stp.gh p u e; rw [hp] at this; cases this
  exact post p vs G _ s (r.same s fun a b => upd_ne (hP a b)) upd_same a hG hp
theorem sen_lst {t : TA} {a : M (List D)} (ha : SA c E t a) : SEN c E (tLst t) (mshort a) := by
  intro G0 H0 G H σ l pot r Q post
  refine Sn.goN ha r post fun x dx p G1 H1 s1 r1 hx post1 => ?_
  split at post1
  · rename_i z
    exact ⟨by rw [AtL.length hx]; exact sz1000 z, sen_of r1 hx post1⟩
  · exact post1.elim
theorem se_tup {t : TA} {a : M (List D)} (ha : SA c E t a) : SE c E (tTup t) (mtupd a) := by
  intro G0 H0 G H σ l pot r Q post
  refine Sn.go (β := D) (rel := rD c) (Q := Q) ha r (k := fun ds => mbind (if ds.length ≤ 1000 then mret ds else fun _ _ => .bad) fun ds => mret (D.tup ds)) (by unfold mtupd mshort at post; unfold mbind at post ⊢; cases e : a l pot <;> simp only [e, R.bind] at post ⊢ <;> exact post) fun x dx p G1 H1 s1 r1 hx post1 => ?_
  split at post1
  · rename_i z
    refine ⟨by rw [AtL.length hx]; exact sz1000 z, fun q hq => ?_⟩
    have s : Stp c.B G1 H1 (upd G1 q (.tup x)) (upd H1 q (.tup x)) := Stp.lay r1.stp.gh hq
    have hP : ∀ a, c.B a → a ≠ q := fun a b z => r1.hp a b (by rw [z]; exact hq)
    exact post1 _ _ _ s (r1.same s fun a b => upd_ne (hP a b)) (at_new_t r1.stp.gh hq hx)
  · exact post1.elim
/-- list(x), new -/
def fSeq1 : List D → Option (List D)
  | [d] => seqOf d
  | _ => none
def mlistN (a : M (List D)) : M (List D) := mbind a fun ds => mlift (fSeq1 ds)
theorem sen_list {t : TA} {a : M (List D)} (ha : SA c E t a) : SEN c E (tCB (fun xs H Q => ∃ p ys, xs = [.ref p] ∧ (SqL c.K H p ys ∨ SqT c.K H p ys) ∧ ∀ l, H l = none → Q (.ref l) (upd H l (.lst ys))) t) (mlistN a) := by
  intro G0 H0 G H σ l pot r Q post
  refine Sn.goN ha r post fun x dx p G1 H1 s1 r1 hx post1 => ?_
  cases e : fSeq1 dx with
  | none => rw [e] at post1; exact post1.elim
  | some es =>
    rw [e] at post1
    unfold fSeq1 at e
    split at e
    · obtain ⟨y, rfl, hy⟩ := atl1 hx
      obtain ⟨q, vs, rfl, h, a⟩ := seq_at hy e
      exact ⟨q, vs, rfl, sqLT r1.stp.gh h, sen_of r1 a post1⟩
    · cases e
/-- xs + ys of lists; xs * k -/
def fCat : D → D → Option D
  | .lst a, .lst b => if a.length + b.length ≤ 1000 then some (.lst (a ++ b)) else none
  | _, _ => none
theorem s2_cat : S2 c rCat fCat := ⟨fun G H x y dx dy d gh hP hx hy e => by
  unfold fCat at e
  split at e
  · split at e
    · rename_i z
      obtain ⟨p, vs, rfl, h, a⟩ := at_lst hx
      obtain ⟨q, ws, rfl, h', b⟩ := at_lst hy
      cases e
      exact ops_new _ gh hP (fun u hu => at_new_l gh hu (AtL.append a b)) fun Q k => ⟨p, q, vs, ws, rfl, rfl, gh _ _ h, gh _ _ h', by rw [AtL.length a, AtL.length b]; exact sz1000 z, k⟩
    · cases e
  · cases e⟩
def fRep : D → D → Option D
  | .lst [d], .int k => if 0 ≤ k ∧ k ≤ 1000 then some (.lst (List.replicate k.toNat d)) else none
  | _, _ => none
theorem atl_rep {P : Addr} {G : Hp} {v : V} {d : D} (h : At P G v d) : ∀ n, AtL P G (List.replicate n v) (List.replicate n d)
  | 0 => .nil
  | n + 1 => .cons h (atl_rep h n)
theorem rep_flat {α : Type} (v : α) : ∀ n, (List.replicate n [v]).flatten = List.replicate n v
  | 0 => rfl
  | n + 1 => by rw [List.replicate_succ, List.flatten_cons, rep_flat v n]; rfl
theorem s2_rep : S2 c rRep fRep := ⟨fun G H x y dx dy d gh hP hx hy e => by
  unfold fRep at e
  split at e
  · split at e
    · rename_i z
      obtain ⟨p, vs, rfl, h, a⟩ := at_lst hx
      obtain ⟨v, rfl, hv⟩ := atl1 a
      rw [at_int hy]
      cases e
      refine ops_new (.lst (List.replicate _ v)) gh hP (fun u hu => at_new_l gh hu (atl_rep hv _)) fun Q k => ⟨p, _, [v], rfl, rfl, gh _ _ h, by omega, by omega, ?_, ?_⟩
      · show 1 * _ ≤ sizeLine
        refine sz1000 ?_
        omega
      · rw [rep_flat]
        exact k
    · cases e
  · cases e⟩

def lstOf : D → Option (List D)
  | .lst ds => some ds
  | _ => none
abbrev RF := List D → List Int → R D
def spD (c : Cfg) (f : RF) : Sp := fun vs H Q E => ∃ G ds pot, AtL c.P G vs ds ∧ Ex G H ∧ (∀ a, c.B a → G a = none) ∧ c.inv pot H ∧ (match f ds pot with
  | .ok d p => ∀ v G' H', Stp c.B G H G' H' → c.inv p H' → At c.P G' v d → Q v H'
  | .err m p => ∀ H', Stp c.B G H G H' → c.inv p H' → E (.ref (c.ec m)) none H'
  | .bad => False)
def mcall (f : RF) (a : M (List D)) : M D := mbind a fun ds _ p => f ds p
theorem spD_of {f : RF} {G0 H0 G H : Hp} {σ : St} {l : Loc} {pot : List Int} {Q : VK} {vs : List V} {ds : List D} (r : Rel c G0 H0 G H σ l pot) (a : AtL c.P G vs ds)
    (post : Post c E (rD c) G0 H0 G H σ l (f ds pot) Q) : spD c f vs H Q (E σ) := by
  refine ⟨G, ds, pot, a, r.stp.gh, r.gP, r.pot, ?_⟩
  cases e : f ds pot with
  | ok d p =>
    rw [e] at post
    exact fun v G' H' s hp av => post v G' H' s (r.step s hp) av
  | err m p =>
    rw [e] at post
    exact fun H' s hp => post G H' (Ex.refl G) (r.step s hp)
  | bad =>
    rw [e] at post
    exact post
theorem se_call {f : RF} {t : TA} {a : M (List D)} (ha : SA c E t a) : SE c E (tCallS (spD c f) E t) (mcall f a) := by
  intro G0 H0 G H σ l pot r Q post
  refine Sn.go ha r post fun x dx p G1 H1 s1 r1 hx post1 => ?_
  exact spD_of r1 hx post1
end
end Den
namespace Den
open PySem L2
section
variable {X : Cx}
def rSetI (K : PySem.W.Frag) (w : World) : List V → Hp → VK → Prop := fun xs H Q => ∃ (p : Addr) (ns : List Int), xs = [.ref p] ∧ SqT K H p (ns.map V.int) ∧ ns.length ≤ 1000 ∧
  ∀ q n, H q = none → n ≤ ns.length → Q (.ref q) (upd H q (SetO w q (fun j => decide (j ∈ ns)) n))
theorem cr_setI (hc : X.calm = true) : CallR X (.type "set") (rSetI X.K X.w) := by
  intro pins s σ H xs us Q I r h
  obtain ⟨p, ns, rfl, hs, hl, q⟩ := h
  obtain ⟨its, rv, ht, hz⟩ := I.tuple hs
  rw [Vals.ref1 r]
  refine call_set_tupI ns (I.ok.hd hc) ht (by simpa using ints_of_vals rv) (Nat.lt_of_le_of_lt (Nat.succ_le_succ hl) (by decide +kernel)) fun h' tk n R hn k => ?_
  have hnw : H s.heap.objs.size = none := I.hok.fresh (Nat.le_refl _)
  exact ⟨.ref _, _, I.laid (t' := tk) k (Nat.le_refl _) (setO_new R), rfl, q _ n hnw hn⟩
end
def insS (k : Int) : List Int → List Int
  | [] => [k]
  | n :: ns => if k < n then k :: n :: ns else if k = n then n :: ns else n :: insS k ns
def sortSet : List Int → List Int
  | [] => []
  | n :: ns => insS n (sortSet ns)
theorem mem_insS {k j : Int} : ∀ {ns : List Int}, j ∈ insS k ns ↔ j = k ∨ j ∈ ns
  | [] => by simp [insS]
  | n :: ns => by
    unfold insS
    split
    · simp
    · split
      · rename_i h; subst h; simp
      · simp only [List.mem_cons, mem_insS (ns := ns)]
        constructor
        · rintro (h | h | h) <;> simp [h]
        · rintro (h | h | h) <;> simp [h]
theorem mem_sortSet {j : Int} : ∀ {ns : List Int}, j ∈ sortSet ns ↔ j ∈ ns
  | [] => Iff.rfl
  | n :: ns => by unfold sortSet; rw [mem_insS, mem_sortSet (ns := ns), List.mem_cons]
theorem insS_srt {k : Int} : ∀ {ns : List Int}, ns.Pairwise (· < ·) → (insS k ns).Pairwise (· < ·)
  | [], _ => by simp [insS]
  | n :: ns, h => by
    unfold insS
    cases h with
    | cons h1 h2 =>
      split
      · rename_i z
        exact .cons (fun a ha => by
          rcases List.mem_cons.mp ha with rfl | ha
          · exact z
          · exact Int.lt_trans z (h1 a ha)) (.cons h1 h2)
      · split
        · exact .cons h1 h2
        · rename_i z1 z2
          exact .cons (fun a ha => by
            rcases mem_insS.mp ha with rfl | ha
            · omega
            · exact h1 a ha) (insS_srt h2)
theorem sortSet_srt : ∀ (ns : List Int), (sortSet ns).Pairwise (· < ·)
  | [] => .nil
  | n :: ns => insS_srt (sortSet_srt ns)
theorem srt_eq : ∀ {a b : List Int}, a.Pairwise (· < ·) → b.Pairwise (· < ·) → (∀ k : Int, k ∈ a ↔ k ∈ b) → a = b
  | [], [], _, _, _ => rfl
  | [], y :: ys, _, _, h => absurd ((h y).mpr List.mem_cons_self) (fun z => nomatch z)
  | x :: xs, [], _, _, h => absurd ((h x).mp List.mem_cons_self) (fun z => nomatch z)
  | x :: xs, y :: ys, .cons h1 h2, .cons g1 g2, h => by
    have exy : x = y := by
      rcases List.mem_cons.mp ((h x).mp List.mem_cons_self) with e | e
      · exact e
      · rcases List.mem_cons.mp ((h y).mpr List.mem_cons_self) with e' | e'
        · exact e'.symm
        · have := g1 x e; have := h1 y e'; omega
    subst exy
    rw [srt_eq h2 g2 fun k => ?_]
    constructor
    · intro hk
      rcases List.mem_cons.mp ((h k).mp (List.mem_cons_of_mem _ hk)) with e | e
      · subst e; exact absurd (h1 k hk) (Int.lt_irrefl _)
      · exact e
    · intro hk
      rcases List.mem_cons.mp ((h k).mpr (List.mem_cons_of_mem _ hk)) with e | e
      · subst e; exact absurd (g1 k hk) (Int.lt_irrefl _)
      · exact e
def fSortSet : D → Option D
  | .tup ds => (intsOf ds).bind fun ns => if ns.length < 64 then some (.lst ((sortSet ns).map .int)) else none
  | _ => none
section
variable {c : Cfg} {E : St → XK}
theorem se_sortSet {w : World} {t : TE} {a : M D} (ha : SE c E t a) : SE c E (tCB (rSortedSet w) (tCons (tCB (rSetI c.K w) (tCons t tNil)) tNil)) (op1 fSortSet a) := by
  intro G0 H0 G H σ l pot r Q post
  show t σ H (fun v H1 => rSetI c.K w [v] H1 fun u H2 => rSortedSet w [u] H2 Q)
  refine Sn.go ha r post fun x dx p G1 H1 s1 r1 hx post1 => ?_
  cases dx with
  | tup ds =>
    obtain ⟨q, vs, rfl, h, a⟩ := at_tup hx
    cases e : intsOf ds with
    | none => simp only [fSortSet, e] at post1; exact post1.elim
    | some ns =>
      have ev := ints_at a e
      subst ev
      by_cases z : ns.length < 64
      · simp only [fSortSet, e, Option.bind_some, if_pos z] at post1
        refine ⟨q, ns, rfl, .inl (.inl (r1.stp.gh _ _ h)), by omega, fun u n hu hn => ?_⟩
        have s2 : Stp c.B G1 H1 G1 (upd H1 u (SetO w u (fun j => decide (j ∈ ns)) n)) := Stp.lay0 r1.stp.gh hu
        have hP : ∀ a, c.B a → a ≠ u := fun a b z => r1.hp a b (by rw [z]; exact hu)
        have r2 := r1.step s2 (c.ext (fun a b => upd_ne (hP a b)) r1.pot)
        refine ⟨u, _, n, rfl, upd_same, by omega, fun ms y hm hk _ hy => ?_⟩
        have em : ms = sortSet ns := srt_eq hm (sortSet_srt ns) fun k => by rw [hk, mem_sortSet]; simp
        subst em
        have hPy : ∀ a, c.B a → a ≠ y := fun a b z => r2.hp a b (by rw [z]; exact hy)
        have s3 := Stp.lay (B := c.B) (o := .lst ((sortSet ns).map V.int)) r2.stp.gh hy
        exact post1 _ _ _ (s2.trans s3) (r2.step s3 (c.ext (fun a b => upd_ne (hPy a b)) r2.pot)) (at_new_l r2.stp.gh hy AtL.ints)
      · simp only [fSortSet, e, Option.bind_some, if_neg z] at post1
        exact post1.elim
  | _ => exact post1.elim

/-- what is known of an own class -/
structure ClsF (K : PySem.W.Frag) (C : Addr) : Prop where
  cl : Cls K C
  ha : PySem.W.findIn K (.ref C) "__class__" = some (some (.builtin "object.__class__"))
  hn : PySem.W.specialIn K (.builtin "object.__class__") "__get__" = some (some (.builtin "getset_descriptor.__get__"))
  htk : PySem.W.takesIn K (.builtin "object.__class__") = some true
  hm : PySem.W.mroIn K C (.type "object") = some true
  self : PySem.W.kitOne K (.ref C) (.ref C) = some true
  nl : PySem.W.kitOne K (.type "list") (.ref C) = some false
  nt : PySem.W.kitOne K (.type "tuple") (.ref C) = some false
  ni : PySem.W.kitOne K (.type "int") (.ref C) = some false
  nb : PySem.W.kitOne K (.type "bool") (.ref C) = some false
  ns : PySem.W.kitOne K (.type "str") (.ref C) = some false
  nn : PySem.W.kitOne K (.type "NoneType") (.ref C) = some false
def tyN : D → Option Ty
  | .non => some .non
  | .bl _ => some .bl
  | .int _ => some .int
  | .str _ => some .str
  | .lst _ => some .lst
  | .tup _ => some .tup
  | _ => none
def isTy : Ty → Ty → Bool
  | .non, .non => true
  | .bl, .bl => true
  | .bl, .int => true
  | .int, .int => true
  | .str, .str => true
  | .lst, .lst => true
  | .tup, .tup => true
  | _, _ => false
theorem kit_is (K : PySem.W.Frag) (a b : Ty) : PySem.W.kitOne K (.type a.name) (.type b.name) = some (isTy a b) := by
  cases a <;> cases b <;> exact kit_ty (by decide +kernel)
theorem ty_at {K : PySem.W.Frag} {P : Addr} {G H : Hp} {x : V} {d : D} {n : Ty} (gh : Ex G H) (h : At P G x d) (e : tyN d = some n) : TyX K H x (.type n.name) := by
  cases h with
  | non => cases e; exact .base .non
  | bl b => cases e; exact .base (.bl b)
  | int i => cases e; exact .base (.int i)
  | str s => cases e; exact .base (.str s)
  | lst h a => cases e; exact .base (.lst (gh _ _ h))
  | tup h a => cases e; exact .base (.tup (gh _ _ h))
  | _ => cases e
def fIs1 : List D → Option D
  | [d, .ty t] => (tyN d).map fun n => .bl (isTy n t)
  | _ => none
theorem sn_is1 : SN c (rIsi c.K) fIs1 := ⟨fun G H xs ds d gh _ hx e => by
  unfold fIs1 at e
  split at e
  · obtain ⟨x, y, rfl, hx1, hy⟩ := atl2 hx
    rename_i dx t
    cases e1 : tyN dx with
    | none => rw [e1] at e; cases e
    | some n =>
      rw [e1] at e
      cases e
      cases hy
      exact ops_pure gh (.bl _) fun Q q => ⟨x, .ty t.name, _, _, _, rfl, .ty t.name, ty_at gh hx1 e1, kit_is _ n t, q⟩
  · cases e⟩
def fIs2 : List D → Option D
  | [d, .tup [.ty t, .ty u]] => (tyN d).map fun n => .bl (isTy n t || isTy n u)
  | _ => none
theorem sn_is2 : SN c (rIsiT c.K) fIs2 := ⟨fun G H xs ds d gh _ hx e => by
  unfold fIs2 at e
  split at e
  · obtain ⟨x, y, rfl, hx1, hy⟩ := atl2 hx
    rename_i dx t u
    cases e1 : tyN dx with
    | none => rw [e1] at e; cases e
    | some n =>
      rw [e1] at e
      cases e
      obtain ⟨p, vs, rfl, h, al⟩ := at_tup hy
      obtain ⟨v1, v2, rfl, h1, h2⟩ := atl2 al
      cases h1
      cases h2
      refine ops_pure gh (.bl _) fun Q q => ⟨x, p, _, _, _, _, rfl, gh _ _ h, .cons (.ty _) (.cons (.ty _) .nil), ty_at gh hx1 e1, ?_, q⟩
      refine kitAny_cons (kit_is _ n t) (fun ha => ?_) fun ha => by rw [ha]; rfl
      refine kitAny_cons (kit_is _ n u) (fun hb => ?_) fun hb => by rw [hb]; cases isTy n t <;> rfl
      rw [ha, hb]
      rfl
  · cases e⟩
def fIsC (C : Addr) : List D → Option D
  | [d, .cls C'] => if C' = C then (match d with
    | .ins C1 _ _ => if C1 = C then some (.bl true) else none
    | d => (tyN d).map fun _ => .bl false) else none
  | _ => none
theorem sn_isC {C : Addr} (F : ClsF c.K C) : SN c (rIsi c.K) (fIsC C) := ⟨fun G H xs ds d gh _ hx e => by
  unfold fIsC at e
  split at e
  · obtain ⟨x, y, rfl, hx1, hy⟩ := atl2 hx
    rename_i dx C'
    split at e
    · rename_i z
      subst z
      cases hy
      have tyCase : ∀ {n : Ty}, tyN dx = some n → PySem.W.kitOne c.K (.type n.name) (.ref C') = some false → d = .bl false → OpS c (rIsi c.K [x, .ref C']) G H d := fun {n : Ty} e1 e2 e3 => by
        subst e3
        exact ops_pure gh (.bl false) fun Q q => ⟨x, .ref C', _, _, false, rfl, .own C', ty_at gh hx1 e1, e2, q⟩
      cases dx with
      | ins C1 ns es =>
        dsimp only at e
        split at e
        · rename_i z
          subst z
          cases e
          cases hx1 with
          | ins h a => exact ops_pure gh (.bl true) fun Q q => ⟨_, .ref C1, _, _, true, rfl, .own C1, .base (.ins (gh _ _ h) F.cl F.ha F.hn F.htk F.hm), F.self, q⟩
        · cases e
      | non => cases e; exact tyCase rfl F.nn rfl
      | bl b => cases e; exact tyCase rfl F.nb rfl
      | int i => cases e; exact tyCase rfl F.ni rfl
      | str s => cases e; exact tyCase rfl F.ns rfl
      | lst l => cases e; exact tyCase rfl F.nl rfl
      | tup l => cases e; exact tyCase rfl F.nt rfl
      | pot => cases e
      | ty n => cases e
      | cls C => cases e
      | dct kvs => cases e
    · cases e
  · cases e⟩
end
end Den
namespace Den
open PySem L2
section
variable {c : Cfg} {E : St → XK}
theorem Rel.set {G0 H0 G H : Hp} {σ : St} {l : Loc} {pot : List Int} {i : Nat} {v : V} {d : D} (r : Rel c G0 H0 G H σ l pot) (a : At c.P G v d) (hi : i < l.length) : Rel c G0 H0 G H (σ.set i (some v)) (l.set i (some (.dat d))) pot := by
  have hσ : i < σ.length := by rw [r.len]; exact hi
  refine ⟨r.stp, r.pot, r.gP, r.hP, by rw [List.length_set, List.length_set, r.len], fun j x e => ?_, fun j k x y e1 e2 o1 o2 ne => ?_⟩
  · by_cases z : j = i
    · subst z
      rw [List.getElem?_set_self hi] at e
      cases e
      rw [List.getElem?_set_self hσ]
      exact a
    · rw [List.getElem?_set_ne (Ne.symm z)] at e ⊢
      exact r.slot j x e
  · have nj : j ≠ i := fun z => by
      subst z
      rw [List.getElem?_set_self hi] at e1
      cases e1
      cases o1
    have nk : k ≠ i := fun z => by
      subst z
      rw [List.getElem?_set_self hi] at e2
      cases e2
      cases o2
    rw [List.getElem?_set_ne (Ne.symm nj)] at e1 ⊢
    rw [List.getElem?_set_ne (Ne.symm nk)] at e2 ⊢
    exact r.dist j k x y e1 e2 o1 o2 ne
/-- a new list of one's own goes to a slot -/
theorem Rel.own {G0 H0 G H : Hp} {σ : St} {l : Loc} {pot : List Int} {i : Nat} {p : Addr} {vs : List V} {ds : List D} (r : Rel c G0 H0 G H σ l pot) (h : H p = some (.lst vs)) (a : AtL c.P G vs ds) (hg : G p = none) (h0 : H0 p = none) (nc : ∀ (j : Nat) (x : L), l[j]? = some (some x) → owned x = true → σ[j]? ≠ some (some (.ref p))) (hi : i < l.length) :
    Rel c G0 H0 G H (σ.set i (some (.ref p))) (l.set i (some (.cell ds))) pot := by
  have hσ : i < σ.length := by rw [r.len]; exact hi
  refine ⟨r.stp, r.pot, r.gP, r.hP, by rw [List.length_set, List.length_set, r.len], fun j x e => ?_, fun j k x y e1 e2 o1 o2 ne => ?_⟩
  · by_cases z : j = i
    · subst z
      rw [List.getElem?_set_self hi] at e
      cases e
      rw [List.getElem?_set_self hσ]
      exact ⟨vs, h, a, hg, h0⟩
    · rw [List.getElem?_set_ne (Ne.symm z)] at e ⊢
      exact r.slot j x e
  · by_cases zj : j = i
    · subst zj
      have nk : k ≠ j := fun z => ne z.symm
      rw [List.getElem?_set_ne (Ne.symm nk)] at e2 ⊢
      rw [List.getElem?_set_self hσ]
      exact fun z => nc k y e2 o2 z.symm
    · rw [List.getElem?_set_ne (Ne.symm zj)] at e1 ⊢
      by_cases zk : k = i
      · subst zk
        rw [List.getElem?_set_self hσ]
        exact nc j x e1 o1
      · rw [List.getElem?_set_ne (Ne.symm zk)] at e2 ⊢
        exact r.dist j k x y e1 e2 o1 o2 ne
/-- a list of one's own changes -/
theorem Rel.write {G0 H0 G H : Hp} {σ : St} {l : Loc} {pot : List Int} {i : Nat} {p : Addr} {vs : List V} {ds es : List D} (r : Rel c G0 H0 G H σ l pot) (hc : l[i]? = some (some (.cell es))) (hσ : σ[i]? = some (some (.ref p))) (a : AtL c.P G vs ds) :
    Rel c G0 H0 G (upd H p (.lst vs)) σ (l.set i (some (.cell ds))) pot := by
  have q := r.slot i _ hc
  rw [hσ] at q
  obtain ⟨ws, h1, h2, h3, h4⟩ := q
  have hi : i < l.length := (List.getElem?_eq_some_iff.mp hc).1
  have hP : ∀ a, c.B a → a ≠ p := fun a b z => r.hP a b (by rw [z]; exact h4)
  refine ⟨⟨r.stp.gg, fun b o e => ?_, fun b o e n => ?_, fun b e => ?_, r.stp.new⟩, c.ext (fun a b => upd_ne (hP a b)) r.pot, r.gP, r.hP, by rw [List.length_set, r.len], fun j x e => ?_, fun j k x y e1 e2 o1 o2 ne => ?_⟩
  · rw [upd_ne (fun z => by subst z; rw [h3] at e; cases e)]; exact r.stp.gh b o e
  · rw [upd_ne (fun z => by subst z; rw [h4] at e; cases e)]; exact r.stp.keep b o e n
  · by_cases z : b = p
    · subst z; exact h4
    · rw [upd_ne z] at e; exact r.stp.there b e
  · by_cases z : j = i
    · subst z
      rw [List.getElem?_set_self hi] at e
      cases e
      rw [hσ]
      exact ⟨vs, upd_same, a, h3, h4⟩
    · rw [List.getElem?_set_ne (Ne.symm z)] at e
      have a2 := r.slot j x e
      match ho : σ[j]?, x, a2 with
      | some (some v), .dat d, a2 => exact a2
      | some (some (.ref q)), .cell ds', ⟨ws', g1, g2, g3, g4⟩ =>
        have nq : q ≠ p := fun w => r.dist j i _ _ e hc rfl rfl z (by rw [ho, hσ, w])
        exact ⟨ws', (upd_ne nq).trans g1, g2, g3, g4⟩
      | some (some (.ref q)), .obj ea C ns ds', ⟨hea, ws', dx, g1, g2, g3, g4, g5⟩ =>
        have nq : q ≠ p := fun w => r.dist j i _ _ e hc rfl rfl z (by rw [ho, hσ, w])
        exact ⟨hea, ws', dx, (upd_ne nq).trans g1, g2, g3, g4, g5⟩
  · have back : ∀ (m : Nat) (x : L), (l.set i (some (.cell ds)))[m]? = some (some x) → owned x = true → ∃ y, l[m]? = some (some y) ∧ owned y = true := fun m x e o => by
      by_cases z : m = i
      · subst z; exact ⟨_, hc, rfl⟩
      · rw [List.getElem?_set_ne (Ne.symm z)] at e; exact ⟨x, e, o⟩
    obtain ⟨x', e1', o1'⟩ := back j x e1 o1
    obtain ⟨y', e2', o2'⟩ := back k y e2 o2
    exact r.dist j k x' y' e1' e2' o1' o2' ne
/-- a list of one's own stands from now on -/
theorem Rel.give {G0 H0 G H : Hp} {σ : St} {l : Loc} {pot : List Int} {i : Nat} {ds : List D} (r : Rel c G0 H0 G H σ l pot) (hc : l[i]? = some (some (.cell ds))) :
    ∃ G', Ex G G' ∧ Rel c G0 H0 G' H σ (l.set i (some (.dat (.lst ds)))) pot := by
  have q := r.slot i _ hc
  have hi : i < l.length := (List.getElem?_eq_some_iff.mp hc).1
  cases ho : σ[i]? with
  | none => rw [ho] at q; exact q.elim
  | some o =>
    cases o with
    | none => rw [ho] at q; exact q.elim
    | some v =>
      cases v with
      | ref p =>
        rw [ho] at q
        obtain ⟨vs, h1, h2, h3, h4⟩ := q
        have hP : ¬ c.B p := fun z => r.hP p z h4
        have r1 : Rel c G0 H0 G H σ (l.set i none) pot := by
          refine ⟨r.stp, r.pot, r.gP, r.hP, by rw [List.length_set, r.len], fun j x e => ?_, fun j k x y e1 e2 o1 o2 ne => ?_⟩
          · by_cases z : j = i
            · subst z; rw [List.getElem?_set_self hi] at e; cases e
            · rw [List.getElem?_set_ne (Ne.symm z)] at e; exact r.slot j x e
          · have nn : ∀ (m : Nat) (x : L), (l.set i none)[m]? = some (some x) → m ≠ i := fun m x e z => by
              subst z; rw [List.getElem?_set_self hi] at e; cases e
            have nj := nn j x e1
            have nk := nn k y e2
            rw [List.getElem?_set_ne (Ne.symm nj)] at e1
            rw [List.getElem?_set_ne (Ne.symm nk)] at e2
            exact r.dist j k x y e1 e2 o1 o2 ne
        have r2 := Rel.freeze r1 h1 h4 hP (fun j x e o z => by
          have nj : j ≠ i := fun w => by subst w; rw [List.getElem?_set_self hi] at e; cases e
          rw [List.getElem?_set_ne (Ne.symm nj)] at e
          exact r.dist j i _ _ e hc o rfl nj (by rw [z, ho])) h3
        have r3 := Rel.set (i := i) r2 (v := .ref p) (d := .lst ds) (.lst upd_same (AtL.mono (Ex.new h3) h2)) (by rw [List.length_set]; exact hi)
        have e1 : σ.set i (some (.ref p)) = σ := by
          have hσ : i < σ.length := by rw [r.len]; exact hi
          refine List.ext_getElem? fun j => ?_
          by_cases z : j = i
          · subst z; rw [List.getElem?_set_self hσ, ho]
          · rw [List.getElem?_set_ne (Ne.symm z)]
        rw [e1, List.set_set] at r3
        exact ⟨_, Ex.new h3, r3⟩
      | _ => rw [ho] at q; exact q.elim

inductive O where
  | nx (l : Loc) (p : List Int) | rt (d : D) (p : List Int) | bk (l : Loc) (p : List Int) | ct (l : Loc) (p : List Int) | err (n : Nat) (l : Loc) (p : List Int) | bad
abbrev MS := Loc → List Int → O
def PostS (c : Cfg) (E : St → XK) (G0 H0 G : Hp) (De : Ends) : O → Prop
  | .nx l' p => ∀ G' H' σ', Ex G G' → Rel c G0 H0 G' H' σ' l' p → De.nx σ' H'
  | .rt d p => ∀ v G' H' σ' l', Ex G G' → Rel c G0 H0 G' H' σ' l' p → At c.P G' v d → De.rt v H'
  | .bk l' p => ∀ G' H' σ', Ex G G' → Rel c G0 H0 G' H' σ' l' p → De.bk σ' H'
  | .ct l' p => ∀ G' H' σ', Ex G G' → Rel c G0 H0 G' H' σ' l' p → De.ct σ' H'
  | .err n l' p => ∀ G' H' σ', Ex G G' → Rel c G0 H0 G' H' σ' l' p → E σ' (.ref (c.ec n)) none H'
  | .bad => False
def SS (c : Cfg) (E : St → XK) (ts : TS) (s : MS) : Prop := ∀ G0 H0 G H σ l pot, Rel c G0 H0 G H σ l pot → ∀ De, PostS c E G0 H0 G De (s l pot) → ts De σ H
theorem PostS.mono {G0 H0 G G1 : Hp} {De : Ends} {o : O} (p : PostS c E G0 H0 G De o) (e : Ex G G1) : PostS c E G0 H0 G1 De o := by
  cases o with
  | nx l' q => exact fun G' H' σ' e' r => p G' H' σ' (e.trans e') r
  | rt d q => exact fun v G' H' σ' l' e' r a => p v G' H' σ' l' (e.trans e') r a
  | bk l' q => exact fun G' H' σ' e' r => p G' H' σ' (e.trans e') r
  | ct l' q => exact fun G' H' σ' e' r => p G' H' σ' (e.trans e') r
  | err n l' q => exact fun G' H' σ' e' r => p G' H' σ' (e.trans e') r
  | bad => exact p
def sbind {α : Type} (a : M α) (k : α → MS) : MS := fun l p => match a l p with
  | .ok x p' => k x l p'
  | .err n p' => .err n l p'
  | .bad => .bad
theorem Sn.goS {γ δ : Type} {rel' : Hp → γ → δ → Prop} {G0 H0 G H : Hp} {σ : St} {l : Loc} {pot : List Int} {t1 : St → Hp → (γ → Hp → Prop) → Prop} {e1 : M δ} (h1 : Sn c E rel' t1 e1) (r : Rel c G0 H0 G H σ l pot) {k : δ → MS} {De : Ends} {X : γ → Hp → Prop}
    (post : PostS c E G0 H0 G De (sbind e1 k l pot))
    (h2 : ∀ a b p G' H', Stp c.B G H G' H' → Rel c G0 H0 G' H' σ l p → rel' G' a b → PostS c E G0 H0 G' De (k b l p) → X a H') : t1 σ H X := by
  refine h1 G0 H0 G H σ l pot r _ ?_
  unfold sbind at post
  cases e : e1 l pot with
  | ok b p =>
    rw [e] at post
    exact fun a G' H' s r' ra => h2 a b p G' H' s r' ra (PostS.mono post s.gg)
  | err n p =>
    rw [e] at post
    exact fun G' H' e' r' => post G' H' σ e' r'
  | bad =>
    rw [e] at post
    exact post
theorem PostS.of {G0 H0 G H : Hp} {De : Ends} {σ : St} {l : Loc} {p : List Int} (post : PostS c E G0 H0 G De (.nx l p)) (r : Rel c G0 H0 G H σ l p) : De.nx σ H := post G H σ (Ex.refl G) r
def sskip : MS := fun l p => .nx l p
theorem ss_next : SS c E tNext sskip := fun G0 H0 G H σ l pot r De post => PostS.of post r
def sseq (a b : MS) : MS := fun l p => match a l p with
  | .nx l' p' => b l' p'
  | o => o
theorem ss_seq {t u : TS} {a b : MS} (ha : SS c E t a) (hb : SS c E u b) : SS c E (tSeq t u) (sseq a b) := by
  intro G0 H0 G H σ l pot r De post
  refine ha G0 H0 G H σ l pot r _ ?_
  unfold sseq at post
  cases e : a l pot with
  | nx l' p' =>
    rw [e] at post
    exact fun G' H' σ' e' r' => hb _ _ _ _ _ _ _ r' De (PostS.mono post e')
  | rt d p' => rw [e] at post; exact post
  | bk l' p' => rw [e] at post; exact post
  | ct l' p' => rw [e] at post; exact post
  | err n l' p' => rw [e] at post; exact post
  | bad => rw [e] at post; exact post
def sif (t : M Bool) (a b : MS) : MS := sbind t fun x => if x = true then a else b
theorem ss_if {t : TT} {ta tb : TS} {q : M Bool} {a b : MS} (hq : ST c E t q) (ha : SS c E ta a) (hb : SS c E tb b) : SS c E (tIfS t ta tb) (sif q a b) := by
  intro G0 H0 G H σ l pot r De post
  refine Sn.goS hq r post fun x dx p G1 H1 s1 r1 hx post1 => ?_
  subst hx
  cases x with
  | true => rw [if_pos rfl]; exact ha _ _ _ _ _ _ _ r1 De post1
  | false => rw [if_neg Bool.false_ne_true]; exact hb _ _ _ _ _ _ _ r1 De post1
def sret (a : M D) : MS := sbind a fun x _ p => .rt x p
theorem ss_ret {t : TE} {a : M D} (ha : SE c E t a) : SS c E (tRet t) (sret a) := by
  intro G0 H0 G H σ l pot r De post
  refine Sn.goS ha r post fun x dx p G1 H1 s1 r1 hx post1 => ?_
  exact post1 x G1 H1 σ l (Ex.refl G1) r1 hx
def sdrop (a : M D) : MS := sbind a fun _ l p => .nx l p
theorem ss_drop {t : TE} {a : M D} (ha : SE c E t a) : SS c E (tDrop t) (sdrop a) := by
  intro G0 H0 G H σ l pot r De post
  refine Sn.goS ha r post fun x dx p G1 H1 s1 r1 hx post1 => ?_
  exact PostS.of post1 r1
def sbreak : MS := fun l p => .bk l p
theorem ss_break : SS c E tBreak sbreak := fun G0 H0 G H σ l pot r De post => post G H σ (Ex.refl G) r
/-- targets -/
def SG (c : Cfg) (g : TG) (tg : D → Loc → Option Loc) : Prop := ∀ G0 H0 G H σ l l' pot x d, Rel c G0 H0 G H σ l pot → At c.P G x d → tg d l = some l' → ∀ Q : St → Hp → Prop, (∀ σ', Rel c G0 H0 G H σ' l' pot → Q σ' H) → g x σ H Q
def gset (i : Nat) : D → Loc → Option Loc := fun d l => if i < l.length then some (l.set i (some (.dat d))) else none
theorem sg_name {i : Nat} : SG c (gName i) (gset i) := by
  intro G0 H0 G H σ l l' pot x d r a e Q q
  unfold gset at e
  split at e
  · rename_i z
    cases e
    exact q _ (r.set a z)
  · cases e
def gset2 (i j : Nat) : D → Loc → Option Loc := fun d l => match d with
  | .tup [a, b] => (gset i a l).bind (gset j b)
  | _ => none
theorem sg_pair {i j : Nat} : SG c (gTup c.K 2 (gCons (gName i) (gCons (gName j) gNil))) (gset2 i j) := by
  intro G0 H0 G H σ l l' pot x d r a e Q q
  unfold gset2 at e
  split at e
  · rename_i d1 d2
    obtain ⟨p, vs, rfl, h, al⟩ := at_tup a
    obtain ⟨v1, v2, rfl, h1, h2⟩ := atl2 al
    refine ⟨p, _, rfl, .inl (.inl (r.stp.gh _ _ h)), rfl, v1, _, rfl, ?_⟩
    cases e1 : gset i d1 l with
    | none => rw [e1] at e; cases e
    | some l1 =>
      rw [e1] at e
      refine sg_name (c := c) (i := i) G0 H0 G H σ l l1 pot v1 d1 r h1 e1 _ fun σ1 r1 => ⟨v2, _, rfl, ?_⟩
      exact sg_name (c := c) (i := j) G0 H0 G H σ1 l1 l' pot v2 d2 r1 h2 e _ fun σ2 r2 => ⟨rfl, q σ2 r2⟩
  · cases e
def sasg (a : M D) (tg : D → Loc → Option Loc) : MS := sbind a fun x l p => match tg x l with
  | some l' => .nx l' p
  | none => .bad
theorem ss_asg {t : TE} {g : TG} {a : M D} {tg : D → Loc → Option Loc} (ha : SE c E t a) (hg : SG c g tg) : SS c E (tAsg t g) (sasg a tg) := by
  intro G0 H0 G H σ l pot r De post
  refine Sn.goS ha r post fun x dx p G1 H1 s1 r1 hx post1 => ?_
  cases e : tg dx l with
  | none => simp only [e] at post1; exact post1.elim
  | some l' =>
    simp only [e] at post1
    exact hg G0 H0 G1 H1 σ l l' p x dx r1 hx e _ fun σ' r' => PostS.of post1 r'
/-- x = a new list, one's own -/
def sown (a : M (List D)) (i : Nat) : MS := sbind a fun ds l p => if i < l.length then .nx (l.set i (some (.cell ds))) p else .bad
theorem ss_own {t : TE} {a : M (List D)} {i : Nat} (ha : SEN c E t a) : SS c E (tAsg t (gName i)) (sown a i) := by
  intro G0 H0 G H σ l pot r De post
  refine ha G0 H0 G H σ l pot r _ ?_
  unfold sown sbind at post
  cases e : a l pot with
  | bad => rw [e] at post; exact post
  | err n p => rw [e] at post; exact fun G' H' e' r' => post G' H' σ e' r'
  | ok ds p =>
    rw [e] at post
    intro q vs G' H' s r' h1 h2 h3 h4
    dsimp only at post
    split at post
    · rename_i z
      exact PostS.of (PostS.mono post s.gg) (r'.own h1 h2 h3 (r.stp.there q h4) (fun j x e o => r.own_ne h4 j x e o) z)
    · exact post.elim
/-- ahead of a statement: a list of one's own stands from now on -/
def sgive (i : Nat) (s : MS) : MS := fun l p => match l[i]? with
  | some (some (.cell ds)) => s (l.set i (some (.dat (.lst ds)))) p
  | _ => s l p
theorem ss_give {i : Nat} {t : TS} {s : MS} (hs : SS c E t s) : SS c E t (sgive i s) := by
  intro G0 H0 G H σ l pot r De post
  unfold sgive at post
  split at post
  · rename_i ds e
    obtain ⟨G', eg, r'⟩ := r.give e
    exact hs _ _ _ _ _ _ _ r' De (PostS.mono post eg)
  · exact hs _ _ _ _ _ _ _ r De post
/-- xs.append(e), xs one's own -/
def sappend (i : Nat) (a : M D) : MS := fun l p => match l[i]? with
  | some (some (.cell ds)) => if ds.length < 1000 then sbind a (fun x l p => .nx (l.set i (some (.cell (ds ++ [x])))) p) l p else .bad
  | _ => .bad
theorem cell_at {G0 H0 G H : Hp} {σ : St} {l : Loc} {pot : List Int} {i : Nat} {ds : List D} (r : Rel c G0 H0 G H σ l pot) (hc : l[i]? = some (some (.cell ds))) :
    ∃ p vs, σ[i]? = some (some (.ref p)) ∧ H p = some (.lst vs) ∧ AtL c.P G vs ds := by
  have q := r.slot i _ hc
  cases ho : σ[i]? with
  | none => rw [ho] at q; exact q.elim
  | some o =>
    cases o with
    | none => rw [ho] at q; exact q.elim
    | some v =>
      cases v with
      | ref p =>
        rw [ho] at q
        obtain ⟨vs, h1, h2, h3, h4⟩ := q
        exact ⟨p, vs, rfl, h1, h2⟩
      | _ => rw [ho] at q; exact q.elim
theorem ss_append {i : Nat} {t : TE} {a : M D} (ha : SE c E t a) : SS c E (tDrop (tBM c.K "list" rAppend (tVar i) (tCons t tNil))) (sappend i a) := by
  intro G0 H0 G H σ l pot r De post
  unfold sappend at post
  split at post
  · rename_i ds hc
    split at post
    · rename_i z
      obtain ⟨p, vs, hσ, h1, h2⟩ := cell_at r hc
      refine ⟨.ref p, hσ, .inl ⟨rfl, _, .inl (.inl h1)⟩, ?_⟩
      refine Sn.goS ha r post fun x dx p' G1 H1 s1 r1 hx post1 => ?_
      obtain ⟨p2, vs2, hσ2, g1, g2⟩ := cell_at r1 hc
      rw [hσ] at hσ2
      cases hσ2
      refine ⟨p, vs2, x, rfl, rfl, g1, by rw [AtL.length g2]; exact Nat.lt_of_lt_of_le z (by decide), ?_⟩
      exact PostS.of post1 (r1.write hc hσ (AtL.append g2 (.cons hx .nil)))
    · exact post.elim
  · exact post.elim
theorem Stp.pot {B : Addr → Prop} {P : Addr} {G H : Hp} {o : HO} (gh : Ex G H) (hB : B P) (hG : G P = none) (hH : H P ≠ none) : Stp B G H G (upd H P o) := by
  refine ⟨Ex.refl G, fun b u e => ?_, fun b u e n => ?_, fun b e => ?_, fun b u e => .inl e⟩
  · rw [upd_ne (fun z => by subst z; rw [hG] at e; cases e)]; exact gh b u e
  · rw [upd_ne (fun z => n (by rw [z]; exact hB))]; exact e
  · by_cases z : b = P
    · subst z; rw [upd_same] at e; cases e
    · rw [upd_ne z] at e; exact e
def mpop (a : M D) : M D := mbind a fun x l p => match x with
  | .pot => match p[p.length - 1]? with
    | some n => .ok (.int n) p.dropLast
    | none => .bad
  | _ => .bad
theorem se_pop (pc : c.Pot) {t : TE} {a : M D} (ha : SE c E t a) : SE c E (tBM0 c.K "list" rPop t) (mpop a) := by
  intro G0 H0 G H σ l pot r Q post
  refine Sn.go ha r post fun x dx p G1 H1 s1 r1 hx post1 => ?_
  cases dx with
  | pot =>
    cases hx
    have hp1 := (pc.i _ _).mp r1.pot
    have hB : c.B c.P := (pc.b _).mpr rfl
    refine ⟨.inl ⟨rfl, _, .inl (.inl hp1)⟩, ?_⟩
    dsimp only at post1
    cases e : p[p.length - 1]? with
    | none => rw [e] at post1; exact post1.elim
    | some n =>
      rw [e] at post1
      refine ⟨c.P, _, .int n, rfl, rfl, hp1, by simpa using e, ?_⟩
      have s := Stp.pot (o := .lst ((p.map V.int).dropLast)) r1.stp.gh hB (r1.gP _ hB) (r1.hp _ hB)
      exact post1 _ _ _ s (r1.step s ((pc.i _ _).mpr (by rw [upd_same, List.map_dropLast]))) (.int n)
  | _ => exact post1.elim
def mlenp (a : M D) : M D := mbind a fun x l p => match x with
  | .pot => .ok (.int p.length) p
  | _ => .bad
theorem se_lenp (pc : c.Pot) {t : TE} {a : M D} (ha : SE c E t a) : SE c E (tCB (rLenS c.K) (tCons t tNil)) (mlenp a) := by
  intro G0 H0 G H σ l pot r Q post
  show t σ H (fun x H1 => rLenS c.K [x] H1 Q)
  refine Sn.go ha r post fun x dx p G1 H1 s1 r1 hx post1 => ?_
  cases dx with
  | pot =>
    cases hx
    refine ⟨c.P, _, rfl, .inl (.inl (.inl ((pc.i _ _).mp r1.pot))), ?_⟩
    rw [List.length_map]
    exact post1 _ _ _ (Stp.refl r1.stp.gh) r1 (.int _)
  | _ => exact post1.elim

structure Walks (c : Cfg) (J : It) (ds : List D) (G : Hp) : Prop where
  stop : ∀ i H, Ex G H → i = ds.length → J.stop i H
  go : ∀ i H, Ex G H → i < ds.length → J.go i H
  yld : ∀ i H x H', Ex G H → i < ds.length → (∀ a, c.B a → H a ≠ none) → J.yld i H x H' → ∀ G2, Ex G G2 → Ex G2 H → ∃ d G3, ds[i]? = some d ∧ Stp c.B G2 H G3 H' ∧ (∀ a, c.B a → H' a = H a) ∧ At c.P G3 x d
theorem walks_list {G : Hp} {a : Addr} {vs : List V} {ds : List D} (h : G a = some (.lst vs)) (al : AtL c.P G vs ds) : Walks c (Itl c.K a) ds G := by
  refine ⟨fun i H e z => ⟨vs, .inl (.inl (e _ _ h)), ?_⟩, fun i H e z => ?_, fun i H x H' e z hP y G2 e2 e3 => ?_⟩
  · rw [AtL.length al]; exact Nat.le_of_eq z.symm
  · have z' : i < vs.length := by rw [AtL.length al]; exact z
    exact ⟨vs, vs[i], .inl (.inl (e _ _ h)), List.getElem?_eq_getElem z'⟩
  · obtain ⟨rfl, y⟩ := y
    obtain ⟨d, ed, ad⟩ := AtL.getV al (y vs (.inl (.inl (e _ _ h))))
    exact ⟨d, G2, ed, Stp.refl e3, fun _ _ => rfl, At.mono e2 ad⟩
theorem walks_tup {G : Hp} {a : Addr} {vs : List V} {ds : List D} (h : G a = some (.tup vs)) (al : AtL c.P G vs ds) : Walks c (Itt c.K a) ds G := by
  refine ⟨fun i H e z => ⟨vs, .inl (.inl (e _ _ h)), ?_⟩, fun i H e z => ?_, fun i H x H' e z hP y G2 e2 e3 => ?_⟩
  · rw [AtL.length al]; exact Nat.le_of_eq z.symm
  · have z' : i < vs.length := by rw [AtL.length al]; exact z
    exact ⟨vs, vs[i], .inl (.inl (e _ _ h)), List.getElem?_eq_getElem z'⟩
  · obtain ⟨rfl, y⟩ := y
    obtain ⟨d, ed, ad⟩ := AtL.getV al (y vs (.inl (.inl (e _ _ h))))
    exact ⟨d, G2, ed, Stp.refl e3, fun _ _ => rfl, At.mono e2 ad⟩
def rngD (lo : Int) (n : Nat) : List D := (List.range n).map fun (i : Nat) => D.int (lo + (i : Int))
theorem walks_rng {G : Hp} {lo : Int} {n : Nat} : Walks c (Itr lo n) (rngD lo n) G := by
  have hl : (rngD lo n).length = n := by simp [rngD]
  refine ⟨fun i H e z => by rw [hl] at z; exact Nat.le_of_eq z.symm, fun i H e z => by rw [hl] at z; exact z, fun i H x H' e z hP y G2 e2 e3 => ?_⟩
  obtain ⟨rfl, rfl⟩ := y
  rw [hl] at z
  exact ⟨.int (lo + (i : Int)), G2, by simp [rngD, z], Stp.refl e3, fun _ _ => rfl, .int _⟩
def enumD : Nat → List D → List D
  | _, [] => []
  | i, d :: ds => .tup [.int (i : Int), d] :: enumD (i + 1) ds
theorem enumD_get : ∀ (ds : List D) (k i : Nat) (d : D), ds[i]? = some d → (enumD k ds)[i]? = some (.tup [.int ((k + i : Nat) : Int), d])
  | [], _, _, _, e => by simp at e
  | d :: ds, k, 0, _, e => by simp at e; subst e; simp [enumD]
  | _ :: ds, k, i + 1, d, e => by
    have h := enumD_get ds (k + 1) i d (by simpa using e)
    have e2 : k + 1 + i = k + (i + 1) := by omega
    rw [e2] at h
    simpa [enumD] using h
theorem enumD_len : ∀ (ds : List D) (k : Nat), (enumD k ds).length = ds.length
  | [], _ => rfl
  | d :: ds, k => by simp [enumD, enumD_len ds]
theorem walks_enum {G : Hp} {a : Addr} {vs : List V} {ds : List D} (h : G a = some (.lst vs)) (al : AtL c.P G vs ds) : Walks c (Ite c.K a) (enumD 0 ds) G := by
  refine ⟨fun i H e z => ⟨vs, .inl (.inl (e _ _ h)), ?_⟩, fun i H e z => ?_, fun i H x H' e z hP y G2 e2 e3 => ?_⟩
  · rw [AtL.length al]; rw [enumD_len] at z; exact Nat.le_of_eq z.symm
  · have z' : i < vs.length := by rw [AtL.length al]; rw [enumD_len] at z; exact z
    exact ⟨vs, vs[i], .inl (.inl (e _ _ h)), List.getElem?_eq_getElem z'⟩
  · obtain ⟨T, v, rfl, hT, rfl, y⟩ := y
    obtain ⟨d, ed, ad⟩ := AtL.getV al (y vs (.inl (.inl (e _ _ h))))
    have g := enumD_get ds 0 i d ed
    rw [Nat.zero_add] at g
    exact ⟨_, _, g, Stp.lay e3 hT, fun b hb => upd_ne (fun z => hP b hb (by rw [z]; exact hT)), at_new_t e3 hT (.cons (.int _) (.cons (At.mono e2 ad) .nil))⟩
/-- an iterable's reading -/
def SI (c : Cfg) (E : St → XK) (wi : TI) (a : M (List D)) : Prop := Sn c E (fun G J ds => Walks c J ds G) wi a
theorem si_list {t : TE} {a : M D} (ha : SE c E t a) : SI c E (iList c.K t) (mbind a fun x => mlift (lstOf x)) := by
  intro G0 H0 G H σ l pot r Q post
  refine Sn.go ha r post fun x dx p G1 H1 s1 r1 hx post1 => ?_
  cases dx with
  | lst ds =>
    obtain ⟨q, vs, rfl, h, al⟩ := at_lst hx
    exact ⟨q, rfl, ⟨vs, .inl (.inl (r1.stp.gh _ _ h))⟩, Post.ok post1 r1 (walks_list h al)⟩
  | _ => exact post1.elim
def tupOf : D → Option (List D)
  | .tup ds => some ds
  | _ => none
theorem si_tup {t : TE} {a : M D} (ha : SE c E t a) : SI c E (iTup c.K t) (mbind a fun x => mlift (tupOf x)) := by
  intro G0 H0 G H σ l pot r Q post
  refine Sn.go ha r post fun x dx p G1 H1 s1 r1 hx post1 => ?_
  cases dx with
  | tup ds =>
    obtain ⟨q, vs, rfl, h, al⟩ := at_tup hx
    exact ⟨q, rfl, ⟨vs, .inl (.inl (r1.stp.gh _ _ h))⟩, Post.ok post1 r1 (walks_tup h al)⟩
  | _ => exact post1.elim
theorem post_lift0 {α β : Type} {rel : Hp → α → β → Prop} {G0 H0 G H : Hp} {σ : St} {l : Loc} {pot : List Int} {o : Option β} {Q : α → Hp → Prop} (post : Post c E rel G0 H0 G H σ l (mlift o l pot) Q) :
    ∃ g, o = some g ∧ Post c E rel G0 H0 G H σ l (.ok g pot) Q := by
  cases o with
  | none => exact post.elim
  | some g => exact ⟨g, rfl, post⟩
def rng1 : List D → Option (List D)
  | [.int j] => if j.natAbs < 4611686018427387904 then some (rngD 0 j.toNat) else none
  | _ => none
theorem si_rng1 {t : TA} {a : M (List D)} (ha : SA c E t a) : SI c E (iRng1 t) (mbind a fun x => mlift (rng1 x)) := by
  intro G0 H0 G H σ l pot r Q post
  refine Sn.go ha r post fun x dx p G1 H1 s1 r1 hx post1 => ?_
  obtain ⟨ds, e, post2⟩ := post_lift0 post1
  unfold rng1 at e
  split at e
  · split at e
    · rename_i z
      cases e
      obtain ⟨y, rfl, hy⟩ := atl1 hx
      rw [at_int hy]
      exact ⟨_, rfl, by omega, by omega, Post.ok post2 r1 walks_rng⟩
    · cases e
  · cases e
def rng2 : List D → Option (List D)
  | [.int i, .int j] => if i.natAbs < 4611686018427387904 ∧ j.natAbs < 4611686018427387904 then some (rngD i (j - i).toNat) else none
  | _ => none
theorem si_rng2 {t : TA} {a : M (List D)} (ha : SA c E t a) : SI c E (iRng2 t) (mbind a fun x => mlift (rng2 x)) := by
  intro G0 H0 G H σ l pot r Q post
  refine Sn.go ha r post fun x dx p G1 H1 s1 r1 hx post1 => ?_
  obtain ⟨ds, e, post2⟩ := post_lift0 post1
  unfold rng2 at e
  split at e
  · split at e
    · rename_i z
      cases e
      obtain ⟨y, y2, rfl, hy, hy2⟩ := atl2 hx
      rw [at_int hy, at_int hy2]
      exact ⟨_, _, rfl, by omega, Post.ok post2 r1 walks_rng⟩
    · cases e
  · cases e
def enum1 : List D → Option (List D)
  | [.lst ds] => some (enumD 0 ds)
  | _ => none
theorem si_enum {t : TA} {a : M (List D)} (ha : SA c E t a) : SI c E (iEnum c.K t) (mbind a fun x => mlift (enum1 x)) := by
  intro G0 H0 G H σ l pot r Q post
  refine Sn.go ha r post fun x dx p G1 H1 s1 r1 hx post1 => ?_
  obtain ⟨ds, e, post2⟩ := post_lift0 post1
  unfold enum1 at e
  split at e
  · cases e
    obtain ⟨y, rfl, hy⟩ := atl1 hx
    obtain ⟨q, vs, rfl, h, al⟩ := at_lst hy
    exact ⟨q, vs, rfl, .inl (.inl (r1.stp.gh _ _ h)), Post.ok post2 r1 (walks_enum h al)⟩
  · cases e
/-- for x in ..: body -/
def loop (tg : D → Loc → Option Loc) (body : MS) : List D → MS
  | [] => sskip
  | d :: ds => fun l p => match tg d l with
    | none => .bad
    | some l1 => match body l1 p with
      | .nx l' p' => loop tg body ds l' p'
      | .ct l' p' => loop tg body ds l' p'
      | .bk l' p' => .nx l' p'
      | o => o
def sfor (a : M (List D)) (tg : D → Loc → Option Loc) (body : MS) : MS := sbind a fun ds => loop tg body ds
theorem ss_for {wi : TI} {g : TG} {tb : TS} {a : M (List D)} {tg : D → Loc → Option Loc} {body : MS} (ha : SI c E wi a) (hg : SG c g tg) (hb : SS c E tb body) : SS c E (tFor wi g tb) (sfor a tg body) := by
  intro G0 H0 G H σ l pot r De post
  refine Sn.goS ha r post fun J ds p G1 H1 s1 r1 w post1 => ?_
  refine ⟨fun i m σ H => m = ds.length - i ∧ i ≤ ds.length ∧ ∃ G l p, Ex G1 G ∧ Rel c G0 H0 G H σ l p ∧ PostS c E G0 H0 G De (loop tg body (ds.drop i) l p), ⟨_, rfl, Nat.zero_le _, G1, l, p, Ex.refl _, r1, post1⟩, ?_⟩
  rintro i m σ H ⟨rfl, hi, G, l, p, eg, r, post⟩
  by_cases hlt : i < ds.length
  · refine .inr ⟨w.go i H (eg.trans r.stp.gh) hlt, fun σ' H' => ∃ G l p, Ex G1 G ∧ Rel c G0 H0 G H' σ' l p ∧ PostS c E G0 H0 G De (loop tg body (ds.drop (i + 1)) l p), fun σ' H' ⟨G, l, p, a, b, q⟩ => ⟨_, by omega, rfl, hlt, G, l, p, a, b, q⟩, fun x H' y => ?_⟩
    obtain ⟨d, G3, ed, s3, hP, ad⟩ := w.yld i H x H' (eg.trans r.stp.gh) hlt r.hp y G eg r.stp.gh
    have r3 := r.same s3 hP
    have edr : ds.drop i = d :: ds.drop (i + 1) := by
      obtain ⟨h1, h2⟩ := List.getElem?_eq_some_iff.mp ed
      rw [List.drop_eq_getElem_cons h1, h2]
    rw [edr] at post
    unfold loop at post
    cases e1 : tg d l with
    | none => simp only [e1] at post; exact post.elim
    | some l1 =>
      simp only [e1] at post
      refine hg G0 H0 G3 H' σ l l1 p x d r3 ad e1 _ fun σ' r4 => ?_
      refine hb _ _ _ _ _ _ _ r4 _ ?_
      have post := PostS.mono post s3.gg
      cases e2 : body l1 p with
      | nx l' p' =>
        simp only [e2] at post
        exact fun G' H' σ' e' r' => ⟨G', l', p', (eg.trans s3.gg).trans e', r', PostS.mono post e'⟩
      | ct l' p' =>
        simp only [e2] at post
        exact fun G' H' σ' e' r' => ⟨G', l', p', (eg.trans s3.gg).trans e', r', PostS.mono post e'⟩
      | bk l' p' => simp only [e2] at post; exact post
      | rt d p' => simp only [e2] at post; exact post
      | err n l' p' => simp only [e2] at post; exact post
      | bad => simp only [e2] at post; exact post
  · have e : i = ds.length := by omega
    refine .inl ⟨w.stop i H (eg.trans r.stp.gh) e, ?_⟩
    rw [e, List.drop_length] at post
    exact PostS.of post r
end
end Den
namespace Den
open PySem L2
section
variable {X : Cx} {CX : CXT} {k : Nat} {f : Addr} {sp : Sp} {E : St → XK} {x : Str} {p pos sp_ : Pos} {e : Expr} {es : List Expr} {t : TA} {te : TE}
theorem run_fnRS {pins : List (Addr × Obj)} {σ : St} {H : Hp} {s : Shared} {Q : VK} {us : List Value} {vs : List V} (F : FnR X.prog X.w X.K X.mg X.base CX k f sp) (hr : Room k X.A) (hx : PassesAt CX X σ (E σ))
    (I : Inv X pins σ H s) (r : Vals vs us) (h : sp vs H Q (E σ)) : wpAny (model X.prog X.w) X.A (call (.ref f) us) (EP X pins σ Q) X.xe s := by
  refine wpAny_call (codeAny_mono (F X.A X.stack s H us vs Q (E σ) hr I.env0 r h) fun r s' hq => ?_)
  cases r with
  | error e => exact hx pins H s e s' I hq
  | ok fl =>
    cases fl with
    | ret u => exact I.after hq
    | next => exact False.elim hq
    | brk => exact False.elim hq
    | cont => exact False.elim hq
theorem pe_callRS (F : FnR X.prog X.w X.K X.mg X.base CX k f sp) (hr : Room k X.A) (hg : Gl X x) (hm : X.mg x = some (.ref f)) (hk : PySem.W.keepIn X.K (.ref f) = true) (hx : ∀ σ, PassesAt CX X σ (E σ))
    (ha : PA X (e :: es) t) (hdb : (x == ("__debug__" : Str)) = false := by decide) (he : starEach (e :: es) X.env = (false, eval e X.env) :: starEach es X.env := by rfl) (hpl : (backTo pos (starEach es X.env)).any (·.1) = false := by rfl) :
    PE X (.Call (.Name x p) (e :: es) [] pos) (tCallS sp E t) := by
  refine ⟨fun pins s σ H Q I h => ?_⟩
  refine wpAny_Call_Name_kw (ld_glob I hg hm ?_ hdb)
  refine PySem.W.callWith_K (h₀ := X.base) I.ok.mod.kin hk (thn (ha.run pos pins s σ H _ I h) fun us s1 ⟨vs, H1, I1, r, q⟩ => ⟨I1.kIn, ?_⟩) he hpl
  exact run_fnRS F hr (hx σ) I1 r q
/-- x(*y) -/
def tCallStar (K : PySem.W.Frag) (sp : Sp) (E : St → XK) (te : TE) : TE := fun σ H Q => te σ H fun y H1 => ∃ a xs, y = V.ref a ∧ (SqT K H1 a xs ∨ SqL K H1 a xs) ∧ sp xs H1 Q (E σ)
theorem pe_callStar (F : FnR X.prog X.w X.K X.mg X.base CX k f sp) (hr : Room k X.A) (hk : PySem.W.keepIn X.K (.ref f) = true) (hg : Gl X x) (hm : X.mg x = some (.ref f)) (hx : ∀ σ, PassesAt CX X σ (E σ)) (he : PE X e te) (hd : (x == ("__debug__" : Str)) = false := by decide)
    (hst : starEach [.Starred e sp_] X.env = [(true, eval e X.env)] := by rfl) : PE X (.Call (.Name x p) [.Starred e sp_] [] pos) (tCallStar X.K sp E te) := by
  refine ⟨fun pins s σ H Q I h => ?_⟩
  refine wpAny_Call_Name_kw (ld_glob I hg hm ?_ hd)
  refine PySem.W.callWith_S (h₀ := X.base) I.ok.mod.kin hk (thn (he.run pins s σ H _ I h) fun v s1 ⟨y, H1, I1, ry, a, xs, ey, hxs, q⟩ => ?_) hst
  subst ey
  obtain rfl : v = Value.ref a := ry
  exact StX.star_any I1 hxs fun us s2 I2 rv => ⟨I2.kIn, run_fnRS F hr (hx σ) I2 rv q⟩
theorem passE {W : XK} (tk : Takes X (fun cls d _ H => W cls d H)) : ∀ σ, PassesAt (L2.CX X.prog X.w) X σ ((fun _ => W : St → XK) σ) := fun σ => passAt tk σ
theorem passNo : ∀ σ, PassesAt (L2.CX X.prog X.w) X σ ((fun _ => E0 : St → XK) σ) := fun σ pins H s e s' I h => passL pins σ H s e s' I h
end
section
variable {c : Cfg} {E : St → XK}
def mstar (f : RF) (a : M D) : M D := mbind a fun x => mbind (mlift (seqOf x)) fun ds _ p => f ds p
theorem se_star {f : RF} {t : TE} {a : M D} (ha : SE c E t a) : SE c E (tCallStar c.K (spD c f) E t) (mstar f a) := by
  intro G0 H0 G H σ l pot r Q post
  refine Sn.go ha r post fun x dx p G1 H1 s1 r1 hx post1 => ?_
  obtain ⟨ds, e, post2⟩ := post_lift post1
  obtain ⟨q, vs, rfl, h, al⟩ := seq_at hx e
  exact ⟨q, vs, rfl, (sqLT r1.stp.gh h).symm, spD_of r1 al post2⟩

theorem Stp.poke {B : Addr → Prop} {G1 H1 G H : Hp} {q : Addr} {o : HO} (s : Stp B G1 H1 G H) (h1 : H1 q = none) (hG : G q = none) : Stp B G1 H1 G (upd H q o) := by
  refine ⟨s.gg, fun b u e => ?_, fun b u e n => ?_, fun b e => ?_, s.new⟩
  · rw [upd_ne (fun z => by subst z; rw [hG] at e; cases e)]; exact s.gh b u e
  · rw [upd_ne (ne_of_none e h1)]; exact s.keep b u e n
  · by_cases z : b = q
    · subst z; exact h1
    · rw [upd_ne z] at e; exact s.there b e
theorem mbind_ok {α β : Type} {a : M α} {k : α → M β} {l : Loc} {p q : List Int} {x : α} (e : a l p = .ok x q) : mbind a k l p = k x l q := by
  unfold mbind
  rw [e]
  rfl
theorem mbind_err {α β : Type} {a : M α} {k : α → M β} {l : Loc} {p q : List Int} {n : Nat} (e : a l p = .err n q) : mbind a k l p = .err n q := by
  unfold mbind
  rw [e]
  rfl
theorem mbind_bad {α β : Type} {a : M α} {k : α → M β} {l : Loc} {p : List Int} (e : a l p = .bad) : mbind a k l p = .bad := by
  unfold mbind
  rw [e]
  rfl
def turn (t : M Bool) (e : M D) : M (Option D) := mbind t fun b => if b = true then mbind e fun x => mret (some x) else mret none
def comp (i : Nat) (t : M Bool) (e : M D) : List D → M (List D)
  | [] => mret []
  | d :: ds => fun l p => if i < l.length then (match turn t e (l.set i (some (.dat d))) p with
    | .ok o p' => (match comp i t e ds l p' with
      | .ok r p'' => .ok (o.toList ++ r) p''
      | x => x)
    | _ => .bad) else .bad
def mcomp (a : M (List D)) (i : Nat) (t : M Bool) (e : M D) : M (List D) := mbind a fun ds => if ds.length ≤ 1000 then comp i t e ds else fun _ _ => .bad
def pre (acc : List D) : R (List D) → R (List D)
  | .ok r p => .ok (acc ++ r) p
  | .err n p => .err n p
  | .bad => .bad
theorem pre_nil (r : R (List D)) : pre [] r = r := by cases r <;> rfl
def mtrue : M Bool := mret true
theorem st_true : ST c E tYes mtrue := fun G0 H0 G H σ l pot r Q post => Post.ok post r rfl
theorem sen_comp {wi : TI} {i : Nat} {tt : TT} {te : TE} {a : M (List D)} {t : M Bool} {e : M D} (ha : SI c E wi a) (ht : ST c (fun _ => E0) tt t) (he : SE c (fun _ => E0) te e) : SEN c E (tLc wi (gName i) tt te [i]) (mcomp a i t e) := by
  intro G0 H0 G H σ l pot r Q post
  refine Sn.goN ha r post fun J ds p G1 H1 s1 r1 w post1 => ?_
  split at post1
  · rename_i hlen
    intro Dl hD
    have hPD : ∀ a, c.B a → a ≠ Dl := fun a b z => r1.hp a b (by rw [z]; exact hD)
    have hG1 : G1 Dl = none := by
      cases eg : G1 Dl with
      | none => rfl
      | some u => have := r1.stp.gh Dl u eg; rw [hD] at this; cases this
    refine ⟨fun j m H => m = ds.length - j ∧ j ≤ ds.length ∧ ∃ G p acc aD, Stp c.B G1 H1 G H ∧ c.inv p H ∧ H Dl = some (.lst acc) ∧ AtL c.P G acc aD ∧ G Dl = none ∧ aD.length ≤ j ∧ PostN c E G0 H0 G1 H1 σ l (pre aD (comp i t e (ds.drop j) l p)) Q,
      ⟨_, rfl, Nat.zero_le _, G1, p, [], [], Stp.lay0 r1.stp.gh hD, c.ext (fun a b => upd_ne (hPD a b)) r1.pot, upd_same, .nil, hG1, Nat.le_refl _, by rw [pre_nil]; exact post1⟩, ?_⟩
    rintro j m H ⟨rfl, hj, G, p, acc, aD, sG, hp, hDl, al, hG, hl, post⟩
    by_cases hlt : j < ds.length
    · refine .inr ⟨w.go j H (sG.gg.trans sG.gh) hlt, fun H => ∃ G p acc aD, Stp c.B G1 H1 G H ∧ c.inv p H ∧ H Dl = some (.lst acc) ∧ AtL c.P G acc aD ∧ G Dl = none ∧ aD.length ≤ j + 1 ∧ PostN c E G0 H0 G1 H1 σ l (pre aD (comp i t e (ds.drop (j + 1)) l p)) Q,
        fun H' ⟨G, p, acc, aD, h⟩ => ⟨_, by omega, rfl, hlt, G, p, acc, aD, h⟩, fun x H' y => ?_⟩
      obtain ⟨d, G3, ed, s3, hP3, ad⟩ := w.yld j H x H' (sG.gg.trans sG.gh) hlt (c.full hp) y G sG.gg sG.gh
      have edr : ds.drop j = d :: ds.drop (j + 1) := by
        obtain ⟨h1, h2⟩ := List.getElem?_eq_some_iff.mp ed
        rw [List.drop_eq_getElem_cons h1, h2]
      rw [edr] at post
      unfold comp at post
      by_cases hi : i < l.length
      · rw [if_pos hi] at post
        have s13 := sG.trans s3
        have r3 : Rel c G0 H0 G3 H' σ l p := r1.step s13 (c.ext hP3 hp)
        have hDl3 : H' Dl = some (.lst acc) := s3.keep Dl _ hDl (fun b => hPD _ b rfl)
        have noD : ∀ {Ga Ha Gb Hb : Hp}, Stp c.B Ga Ha Gb Hb → Ga Dl = none → Ha Dl ≠ none → Gb Dl = none := fun {Ga Ha Gb Hb} s h1 h2 => by
          cases eg : Gb Dl with
          | none => rfl
          | some u =>
            rcases s.new Dl u eg with z | z
            · rw [h1] at z; cases z
            · exact absurd z h2
        have hG3 := noD s3 hG (by rw [hDl]; exact fun z => nomatch z)
        have r4 : Rel c G0 H0 G3 H' (σ.set i (some x)) (l.set i (some (.dat d))) p := r3.set ad hi
        show (gName i) x (wipe σ [i]) H' _
        have ew : (wipe σ [i]).set i (some x) = σ.set i (some x) := by
          show (σ.set i none).set i (some x) = σ.set i (some x)
          rw [List.set_set]
        show wipe ((wipe σ [i]).set i (some x)) [i] = wipe σ [i] ∧ tt ((wipe σ [i]).set i (some x)) H' _
        rw [ew]
        refine ⟨by show (σ.set i (some x)).set i none = σ.set i none; rw [List.set_set], ?_⟩
        refine ht _ _ _ _ _ _ _ r4 _ ?_
        unfold turn at post
        cases e1 : t (l.set i (some (.dat d))) p with
        | err n p1 => rw [mbind_err e1] at post; exact post.elim
        | bad => rw [mbind_bad e1] at post; exact post.elim
        | ok b p1 =>
          rw [mbind_ok e1] at post
          intro b' G5 H5 s5 r5 eb
          subst eb
          have s15 := s13.trans s5
          have hDl5 : H5 Dl = some (.lst acc) := s5.keep Dl _ hDl3 (fun b => hPD _ b rfl)
          have hG5 := noD s5 hG3 (by rw [hDl3]; exact fun z => nomatch z)
          cases b' with
          | false =>
            rw [if_neg Bool.false_ne_true]
            rw [if_neg Bool.false_ne_true] at post
            refine ⟨G5, p1, acc, aD, s15, r5.pot, hDl5, AtL.mono (s3.gg.trans s5.gg) al, hG5, Nat.le_succ_of_le hl, ?_⟩
            dsimp only [mret] at post
            cases e2 : comp i t e (ds.drop (j + 1)) l p1 with
            | ok r' p2 => rw [e2] at post; exact post
            | err n p2 => rw [e2] at post; exact post
            | bad => rw [e2] at post; exact post
          | true =>
            rw [if_pos rfl]
            rw [if_pos rfl] at post
            refine he _ _ _ _ _ _ _ r5 _ ?_
            cases e2 : e (l.set i (some (.dat d))) p1 with
            | err n p2 => rw [mbind_err e2] at post; exact post.elim
            | bad => rw [mbind_bad e2] at post; exact post.elim
            | ok y p2 =>
              rw [mbind_ok e2] at post
              dsimp only [mret] at post
              intro v G6 H6 s6 r6 av
              have s16 := s15.trans s6
              have hDl6 : H6 Dl = some (.lst acc) := s6.keep Dl _ hDl5 (fun b => hPD _ b rfl)
              have hG6 := noD s6 hG5 (by rw [hDl5]; exact fun z => nomatch z)
              have al6 : AtL c.P G6 acc aD := AtL.mono ((s3.gg.trans s5.gg).trans s6.gg) al
              refine ⟨acc, hDl6, ?_, G6, p2, acc ++ [v], aD ++ [y], s16.poke hD hG6, c.ext (fun a b => upd_ne (hPD a b)) r6.pot, upd_same, AtL.append al6 (.cons av .nil), hG6, by rw [List.length_append]; exact Nat.succ_le_succ hl, ?_⟩
              · rw [AtL.length al6]
                have z : aD.length ≤ 1000 := by omega
                exact Nat.lt_of_le_of_lt z (by decide)
              · cases e3 : comp i t e (ds.drop (j + 1)) l p2 with
                | ok r' p3 =>
                  rw [e3] at post
                  have ea : aD ++ ([y] ++ r') = aD ++ [y] ++ r' := by rw [List.append_assoc]
                  show PostN c E G0 H0 G1 H1 σ l (.ok (aD ++ [y] ++ r') p3) Q
                  rw [← ea]
                  exact post
                | err n p3 => rw [e3] at post; exact post
                | bad => rw [e3] at post; exact post
      · rw [if_neg hi] at post
        exact post.elim
    · have ej : j = ds.length := by omega
      refine .inl ⟨w.stop j H (sG.gg.trans sG.gh) ej, ?_⟩
      rw [ej, List.drop_length] at post
      have post' : PostN c E G0 H0 G1 H1 σ l (.ok (aD ++ []) p) Q := post
      rw [List.append_nil] at post'
      exact post' Dl acc G H sG (r1.step sG hp) hDl al hG hD
  · exact post1.elim
def sraise (n : Nat) : MS := fun l p => .err n l p
theorem ss_raise {n : Nat} : SS c E (fun _ σ H => E σ (.ref (c.ec n)) none H) (sraise n) := fun G0 H0 G H σ l pot r De post => post G H σ (Ex.refl G) r
inductive Suites (c : Cfg) : List (Value × (Addr → Value → Option Addr → TS)) → List (Nat × MS) → Prop
  | nil : Suites c [] []
  | cons {m : Nat} {ts : Addr → Value → Option Addr → TS} {s : MS} {l : List (Value × (Addr → Value → Option Addr → TS))} {hs : List (Nat × MS)} (hm : m < 4) (h : ∀ a cls d, SS c (fun _ => E0) (ts a cls d) s) (t : Suites c l hs) : Suites c ((.ref (c.ec m), ts) :: l) ((m, s) :: hs)
/-- the classes that are caught and thrown stand beside one another -/
def Apart (c : Cfg) : Prop := ∀ n m : Nat, n < 4 → m < 4 → PySem.W.exmOne c.K (.ref (c.ec n)) (.ref (c.ec m)) = some (decide (n = m))
end
def locOf (n : Nat) (ds : List D) : Loc := ds.map (fun d => some (.dat d)) ++ List.replicate (n - ds.length) none
/-- what a def of n parameters and m slots does -/
def outR : O → R D
  | .rt d p => .ok d p
  | .nx _ p => .ok .non p
  | .err k _ p => .err k p
  | _ => .bad
def denF (n m : Nat) (s : MS) : RF := fun ds pot => if ds.length = n then outR (s (locOf m ds) pot) else .bad
section
variable {c : Cfg}
theorem start_rel {G H : Hp} {N : List Str} {vs : List V} {ds : List D} {pot : List Int} (a : AtL c.P G vs ds) (gh : Ex G H) (gP : (∀ a, c.B a → G a = none)) (hp : c.inv pot H) : Rel c G H G H (start N vs) (locOf N.length ds) pot := by
  have hl := AtL.length a
  refine ⟨Stp.refl gh, hp, gP, c.full hp, by simp [L2.start, locOf, hl], fun i x e => ?_, fun i j x y e1 e2 o1 o2 ne => ?_⟩
  · unfold locOf at e
    by_cases hi : i < ds.length
    · rw [List.getElem?_append_left (by simpa using hi), List.getElem?_map] at e
      have ed := List.getElem?_eq_getElem hi
      rw [ed] at e
      cases e
      obtain ⟨v, ev, av⟩ := AtL.get a ed
      have hs : (start N vs)[i]? = some (some v) := by
        unfold L2.start
        rw [List.getElem?_append_left (by simp [hl, hi]), List.getElem?_map, ev]
        rfl
      rw [hs]
      exact av
    · rw [List.getElem?_append_right (by simpa using hi), List.getElem?_replicate] at e
      split at e <;> cases e
  · exfalso
    unfold locOf at e1
    by_cases hi : i < ds.length
    · rw [List.getElem?_append_left (by simpa using hi), List.getElem?_map, List.getElem?_eq_getElem hi] at e1
      cases e1
      cases o1
    · rw [List.getElem?_append_right (by simpa using hi), List.getElem?_replicate] at e1
      split at e1 <;> cases e1
/-- the ends of a def -/
theorem post_fn {f : RF} {G0 H0 : Hp} {s : MS} {N : List Str} {n : Nat} {ds : List D} {pot : List Int} {Q : VK} {E' : XK} (hn : ds.length = n)
    (h : match denF n N.length s ds pot with
      | .ok d p => ∀ v G' H', Stp c.B G0 H0 G' H' → c.inv p H' → At c.P G' v d → Q v H'
      | .err m p => ∀ H', Stp c.B G0 H0 G0 H' → c.inv p H' → E' (.ref (c.ec m)) none H'
      | .bad => False) :
    PostS c (fun _ => E') G0 H0 G0 { nx := fun _ H' => Q .non H', rt := Q } (s (locOf N.length ds) pot) := by
  unfold denF at h
  rw [if_pos hn] at h
  cases e : s (locOf N.length ds) pot with
  | nx l p => rw [e] at h; exact fun G' H' σ' _ r => h .non G' H' r.stp r.pot .non
  | rt d p => rw [e] at h; exact fun v G' H' σ' l' _ r a => h v G' H' r.stp r.pot a
  | err k l p => rw [e] at h; exact fun G' H' σ' _ r => h H' ⟨Ex.refl _, r.stp.gg.trans r.stp.gh, r.stp.keep, r.stp.there, fun _ _ z => .inl z⟩ r.pot
  | bk l p => rw [e] at h; exact h.elim
  | ct l p => rw [e] at h; exact h.elim
  | bad => rw [e] at h; exact h.elim
variable {P : Program} {w : World} {mg : Str → Option Value} {base : Heap}
theorem fn_ss {x qual : Str} {st : Stmt} {f : Addr} {fd : FuncData} {N ps : List Str} {k : Nat} {s : MS} (F : Fun c.K x qual st f fd) (S : FnScope N ps (defScope st)) (hb : Binds c.K fd ps [])
    (hbody : ∀ (cdv : Value) (A : Around) (outer : List Env) (sh : Shared) (H : Hp) (E' : XK), Room k (A.deeper (PyProof.Rows.envOfC qual (defScope st) sh.heap.objs.size f cdv)) →
      ∃ t, PSs (cxOf (L2.CX P w) P w c.K mg base N qual (defScope st) f cdv A outer sh H E') (defBody st) t ∧ SS c (fun _ => E') t s) :
    FnR P w c.K mg base (L2.CX P w) (k + 1) f (spD c (denF ps.length N.length s)) := by
  have lenOf : ∀ vs H Q E, spD c (denF ps.length N.length s) vs H Q E → vs.length = ps.length := fun vs H Q E h => by
    obtain ⟨G, ds, pot, a, gh, gP, hp, h⟩ := h
    rw [AtL.length a]
    by_cases z : ds.length = ps.length
    · exact z
    · unfold denF at h
      rw [if_neg z] at h
      exact h.elim
  have ok : FnOk P w c.K mg base (L2.CX P w) (k + 1) f fd ps (spD c (denF ps.length N.length s)) := by
    refine F.okX S lenOf (fun cdv A outer sh H vs Q E hr h => ?_)
    have hl := lenOf vs H Q E h
    obtain ⟨G, ds, pot, a, gh, gP, hp, h⟩ := h
    obtain ⟨t, ht, hs⟩ := hbody cdv A outer sh H E hr
    refine ⟨t, ht, hs G H G H _ _ _ (start_rel a gh gP hp) _ ?_⟩
    exact post_fn (f := fun _ _ => .bad) ((AtL.length a).symm.trans hl) h
  have raw := ok.raw hb .nil
  exact raw.imp fun vs H Q E h => by rw [List.append_nil]; exact h
/-- def f(*xs) -/
def denStar (m : Nat) (s : MS) : RF := fun ds pot => denF 1 m s [.tup ds] pot
theorem fn_star_ss {x qual pv : Str} {st : Stmt} {f : Addr} {fd : FuncData} {N : List Str} {k : Nat} {s : MS} (F : Fun c.K x qual st f fd) (S : FnScope N [pv] (defScope st))
    (hbd : ∀ (kV doc pm : Value) (an : Option Addr) (cdv ct : Value) (rest : List Value), bindArgs (PySem.W.fnOf x qual (defArgs st) (defBody st) (defScope st) .none kV doc pm an cdv ct) ⟨rest, []⟩ = (newTuple rest >>= fun t => pure [(pv, t)]))
    (hbody : ∀ (cdv : Value) (A : Around) (outer : List Env) (sh : Shared) (H : Hp) (E' : XK), Room k (A.deeper (PyProof.Rows.envOfC qual (defScope st) sh.heap.objs.size f cdv)) →
      ∃ t, PSs (cxOf (L2.CX P w) P w c.K mg base N qual (defScope st) f cdv A outer sh H E') (defBody st) t ∧ SS c (fun _ => E') t s) :
    FnR P w c.K mg base (L2.CX P w) (k + 1) f (spD c (fun ds pot => if ds.length ≤ 1000 then denStar N.length s ds pot else .bad)) := by
  obtain ⟨oc, od, kV, doc, pm, an, cdv, ct, osl, rfl, lk, hcd⟩ := F.ex
  have z := StX.fn_star (CX := L2.CX P w) (P := P) (w := w) (mg := mg) (base := base) (k := k) (ps := []) (sp := spD c (denF 1 N.length s)) lk hcd S StX.cxUp (fun us rest hu => by
    cases us with
    | nil => exact hbd _ _ _ _ _ _ rest
    | cons _ _ => cases hu) (fun A outer sh H vs Q E hr h => by
    obtain ⟨G, ds, pot, a, gh, gP, hp, h⟩ := h
    obtain ⟨t, ht, hs⟩ := hbody cdv A outer sh H E hr
    refine ⟨t, ht, hs G H G H _ _ _ (start_rel a gh gP hp) _ ?_⟩
    have hl : ds.length = 1 := by
      by_cases z : ds.length = 1
      · exact z
      · unfold denF at h
        rw [if_neg z] at h
        exact h.elim
    exact post_fn (f := fun _ _ => .bad) hl h)
  refine z.imp fun vs H Q E h => ?_
  obtain ⟨G, ds, pot, a, gh, gP, hp, h⟩ := h
  by_cases hz : ds.length ≤ 1000
  · dsimp only at h
    rw [if_pos hz] at h
    refine ⟨[], vs, rfl, rfl, by rw [AtL.length a]; exact sz1000 hz, fun p hpn => ?_⟩
    have hPp : ∀ a, c.B a → a ≠ p := fun a b z => c.full hp a b (by rw [z]; exact hpn)
    have s1 : Stp c.B G H (upd G p (.tup vs)) (upd H p (.tup vs)) := Stp.lay gh hpn
    refine ⟨upd G p (.tup vs), [.tup ds], pot, .cons (at_new_t gh hpn a) .nil, s1.gh, fun a b => (upd_ne (hPp a b)).trans (gP a b), c.ext (fun a b => upd_ne (hPp a b)) hp, ?_⟩
    unfold denStar at h
    cases e : denF 1 N.length s [.tup ds] pot with
    | ok d q => rw [e] at h; exact fun v G' H' s2 hq av => h v G' H' (s1.trans s2) hq av
    | err m q => rw [e] at h; exact fun H' s2 hq => h H' ⟨Ex.refl _, (s1.trans s2).gg.trans s2.gh, (s1.trans s2).keep, (s1.trans s2).there, fun _ _ z => .inl z⟩ hq
    | bad => rw [e] at h; exact h.elim
  · dsimp only at h
    rw [if_neg hz] at h
    exact h.elim
end
end Den
namespace Den
open PySem L2
mutual
def pd : D → Option PyData
  | .non => some .none
  | .bl b => some (.bool b)
  | .int i => some (.int i)
  | .lst ds => (pdL ds).map .list
  | .tup ds => (pdL ds).map .tuple
  | .str _ => none
  | .ins _ _ _ => none
  | .pot => none
  | .ty _ => none
  | .cls _ => none
  | .dct _ => none
def pdL : List D → Option (List PyData)
  | [] => some []
  | d :: ds => match pd d, pdL ds with
    | some a, some as => some (a :: as)
    | _, _ => none
end
mutual
theorem pd_at {K : PySem.W.Frag} {P : Addr} {G H : Hp} (gh : Ex G H) : ∀ (d : D) (x : V) (q : PyData), At P G x d → pd d = some q → Dp K H x q ∧ q.canLay0 = true
  | .non, _, _, h, e => by cases h; cases e; exact ⟨.non, rfl⟩
  | .bl b, _, _, h, e => by cases h; cases e; exact ⟨.bl b, rfl⟩
  | .int i, _, _, h, e => by cases h; cases e; exact ⟨.int i, rfl⟩
  | .lst ds, _, q, h, e => by
    obtain ⟨p, vs, rfl, hg, al⟩ := at_lst h
    unfold pd at e
    cases e1 : pdL ds with
    | none => rw [e1] at e; cases e
    | some as =>
      rw [e1] at e
      cases e
      obtain ⟨h1, h2⟩ := pdL_at gh ds vs as al e1
      exact ⟨.lst (.inl (.inl (gh _ _ hg))) h1, by simp only [PyData.canLay0]; exact h2⟩
  | .tup ds, _, q, h, e => by
    obtain ⟨p, vs, rfl, hg, al⟩ := at_tup h
    unfold pd at e
    cases e1 : pdL ds with
    | none => rw [e1] at e; cases e
    | some as =>
      rw [e1] at e
      cases e
      obtain ⟨h1, h2⟩ := pdL_at gh ds vs as al e1
      exact ⟨.tup (.inl (.inl (gh _ _ hg))) h1, by simp only [PyData.canLay0]; exact h2⟩
  | .str _, _, _, _, e => by cases e
  | .ins _ _ _, _, _, _, e => by cases e
  | .pot, _, _, _, e => by cases e
  | .ty _, _, _, _, e => by cases e
  | .cls _, _, _, _, e => by cases e
  | .dct _, _, _, _, e => by cases e
theorem pdL_at {K : PySem.W.Frag} {P : Addr} {G H : Hp} (gh : Ex G H) : ∀ (ds : List D) (vs : List V) (qs : List PyData), AtL P G vs ds → pdL ds = some qs → DpAll K H vs qs ∧ PyData.canLayAll0 qs = true
  | [], _, _, h, e => by cases h; cases e; exact ⟨.nil, rfl⟩
  | d :: ds, _, qs, h, e => by
    cases h with
    | cons h1 h2 =>
      unfold pdL at e
      split at e
      · rename_i a as e1 e2
        cases e
        obtain ⟨a1, a2⟩ := pd_at gh d _ a h1 e1
        obtain ⟨b1, b2⟩ := pdL_at gh ds _ as h2 e2
        exact ⟨.cons a1 b1, by simp only [PyData.canLayAll0, a2, b2]; rfl⟩
      · cases e
end
def fEqD (neg : Bool) (x y : D) : Option D := match pd x, pd y with
  | some a, some b => if a.depth ≤ 64 ∧ b.depth ≤ 64 then some (.bl (if neg then !PyData.eqv a b else PyData.eqv a b)) else none
  | _, _ => none
section
variable {c : Cfg} {E : St → XK}
theorem shp {q : PyData} (h1 : q.canLay0 = true) (h2 : q.depth ≤ 64) : SeqAt.shaped q = true := by
  unfold SeqAt.shaped
  rw [h1, decide_eq_true h2]
  rfl
theorem s2_eqD : S2 c (rEqD c.K) (fEqD false) := ⟨fun G H x y dx dy d gh _ hx hy e => by
  unfold fEqD at e
  split at e
  · rename_i a b e1 e2
    split at e
    · rename_i z
      cases e
      obtain ⟨a1, a2⟩ := pd_at (K := c.K) gh dx x a hx e1
      obtain ⟨b1, b2⟩ := pd_at (K := c.K) gh dy y b hy e2
      exact ops_pure gh (.bl _) fun Q q => ⟨a, b, a1, b1, shp a2 z.1, shp b2 z.2, q⟩
    · cases e
  · cases e⟩
theorem s2_neD : S2 c (rNeD c.K) (fEqD true) := ⟨fun G H x y dx dy d gh _ hx hy e => by
  unfold fEqD at e
  split at e
  · rename_i a b e1 e2
    split at e
    · rename_i z
      cases e
      obtain ⟨a1, a2⟩ := pd_at (K := c.K) gh dx x a hx e1
      obtain ⟨b1, b2⟩ := pd_at (K := c.K) gh dy y b hy e2
      exact ops_pure gh (.bl _) fun Q q => ⟨a, b, a1, b1, shp a2 z.1, shp b2 z.2, q⟩
    · cases e
  · cases e⟩
def minc (neg : Bool) (a : M D) (i : Nat) : M D := mbind a fun x l p => match l[i]? with
  | some (some (.cell ds)) => match sc x, scL ds with
    | some v, some vs => .ok (.bl (if neg then !inV v vs else inV v vs)) p
    | _, _ => .bad
  | _ => .bad
theorem se_inc {neg : Bool} {t : TE} {a : M D} {i : Nat} (ha : SE c E t a) : SE c E (tOp (rIn c.K neg) t (tVar i)) (minc neg a i) := by
  intro G0 H0 G H σ l pot r Q post
  refine Sn.go ha r post fun x dx p G1 H1 s1 r1 hx post1 => ?_
  split at post1
  · rename_i ds hc
    obtain ⟨q, vs, hσ, h1, h2⟩ := cell_at r1 hc
    split at post1
    · rename_i v ws e1 e2
      obtain ⟨q1, q2⟩ := scL_at h2 e2
      subst q1
      rw [sc_at hx e1]
      exact ⟨.ref q, hσ, q, vs, rfl, .inl (.inl (.inl h1)), sc_flat e1, q2, post1 _ _ _ (Stp.refl r1.stp.gh) r1 (.bl _)⟩
    · exact post1.elim
  · exact post1.elim

theorem lookup_zip {P : Addr} {G : Hp} {f : Str} : ∀ {ns : List Str} {vs : List V} {ds : List D} {d : D}, AtL P G vs ds → (ns.zip ds).lookup f = some d → ∃ v, (ns.zip vs).lookup f = some v ∧ At P G v d
  | [], _, _, _, _, e => by simp at e
  | _ :: _, _, [], _, .nil, e => by simp at e
  | n :: ns, _, d' :: ds, d, .cons (v := v) (vs := vs) h t, e => by
    rw [List.zip_cons_cons, List.lookup_cons] at e ⊢
    cases q : f == n with
    | true => rw [q] at e; cases e; exact ⟨v, rfl, h⟩
    | false => rw [q] at e; exact lookup_zip t e
def fFld (C : Addr) (f : Str) : D → Option D
  | .ins C' ns ds => if C' = C then (ns.zip ds).lookup f else none
  | _ => none
def mfld (C : Addr) (f : Str) (a : M D) : M D := op1 (fFld C f) a
theorem fld_at {G : Hp} {C : Addr} {f : Str} {x : V} {d dd : D} (hx : At c.P G x d) (e : fFld C f d = some dd) : ∃ p dx fs v, x = .ref p ∧ G p = some (.ins C dx fs) ∧ fs.lookup f = some v ∧ At c.P G v dd := by
  cases d with
  | ins C' ns ds =>
    unfold fFld at e
    dsimp only at e
    split at e
    · rename_i z
      subst z
      cases hx with
      | ins h al =>
        obtain ⟨v, e1, av⟩ := lookup_zip al e
        exact ⟨_, _, _, v, rfl, h, e1, av⟩
    · cases e
  | _ => cases e
/-- a property that hands a field out -/
theorem se_prop {C : Addr} {f : Str} {t : TE} {a : M D} (ha : SE c E t a) : SE c E (tProp C (getSp C f) [] E0 t) (mfld C f a) := by
  intro G0 H0 G H σ l pot r Q post
  refine Sn.go ha r post fun x dx p G1 H1 s1 r1 hx post1 => ?_
  obtain ⟨dd, e, post2⟩ := post_lift0 post1
  obtain ⟨q, ddx, fs, v, rfl, h, e1, av⟩ := fld_at hx e
  exact ⟨q, ddx, fs, rfl, r1.stp.gh _ _ h, q, ddx, fs, v, rfl, r1.stp.gh _ _ h, e1, Post.ok post2 r1 av⟩
/-- self._f in the making: slot i holds the instance -/
def mfldO (C : Addr) (i : Nat) (f : Str) : M D := fun l p => match l[i]? with
  | some (some (.obj _ C' ns ds)) => if C' = C then (match (ns.zip ds).lookup f with
    | some d => .ok d p
    | none => .bad) else .bad
  | _ => .bad
theorem obj_at {G0 H0 G H : Hp} {σ : St} {l : Loc} {pot : List Int} {i : Nat} {ea C : Addr} {ns : List Str} {ds : List D} (r : Rel c G0 H0 G H σ l pot) (hc : l[i]? = some (some (.obj ea C ns ds))) :
    ∃ p vs dx, p = ea ∧  σ[i]? = some (some (.ref p)) ∧ H p = some (.ins C dx (ns.zip vs)) ∧ AtL c.P G vs ds ∧ G p = none ∧ H0 p = none ∧ ¬ c.B p := by
  have q := r.slot i _ hc
  cases ho : σ[i]? with
  | none => rw [ho] at q; exact q.elim
  | some o =>
    cases o with
    | none => rw [ho] at q; exact q.elim
    | some v =>
      cases v with
      | ref p =>
        rw [ho] at q
        obtain ⟨hea, vs, dx, h1, h2, h3, h4, h5⟩ := q
        exact ⟨p, vs, dx, hea, rfl, h1, h2, h3, h4, h5⟩
      | _ => rw [ho] at q; exact q.elim
theorem se_fldO {C : Addr} {i : Nat} {f : Str} (hC : Cls c.K C) (hN : NoAttr c.K C f) : SE c E (tFld c.K (tVar i) f) (mfldO C i f) := by
  intro G0 H0 G H σ l pot r Q post
  unfold mfldO at post
  split at post
  · rename_i ea C' ns ds hc
    split at post
    · rename_i z
      subst z
      obtain ⟨p, vs, dx, _, hσ, h1, h2, _⟩ := obj_at r hc
      split at post
      · rename_i d e
        obtain ⟨v, e1, av⟩ := lookup_zip h2 e
        exact ⟨.ref p, hσ, p, C', dx, _, v, rfl, h1, hC, hN, e1, Post.ok post r av⟩
      · exact post.elim
    · exact post.elim
  · exact post.elim
/-- self._f = e, a new attribute -/
def sfldO (C : Addr) (i : Nat) (f : Str) (a : M D) : MS := sbind a fun x l p => match l[i]? with
  | some (some (.obj ea C' ns ds)) => if C' = C ∧ ns.length = ds.length ∧ ns.length < 1000 ∧ f ∉ ns then .nx (l.set i (some (.obj ea C (ns ++ [f]) (ds ++ [x])))) p else .bad
  | _ => .bad
theorem putF_zip {f : Str} {v : V} : ∀ {ns : List Str} {vs : List V}, ns.length = vs.length → f ∉ ns → putF f v (ns.zip vs) = (ns ++ [f]).zip (vs ++ [v])
  | [], [], _, _ => rfl
  | [], _ :: _, h, _ => by cases h
  | _ :: _, [], h, _ => by cases h
  | n :: ns, w :: vs, h, hf => by
    have hn : n ≠ f := fun z => hf (by rw [z]; exact List.mem_cons_self)
    rw [List.zip_cons_cons, List.cons_append, List.cons_append, List.zip_cons_cons]
    show (if n = f then _ else _) = _
    rw [if_neg hn]
    exact congrArg _ (putF_zip (by simpa using h) fun z => hf (List.mem_cons_of_mem _ z))
theorem Rel.writeO {G0 H0 G H : Hp} {σ : St} {l : Loc} {pot : List Int} {i : Nat} {p ea C dx : Addr} {ns ns' : List Str} {vs : List V} {ds es : List D} (r : Rel c G0 H0 G H σ l pot) (hc : l[i]? = some (some (.obj ea C ns es))) (hσ : σ[i]? = some (some (.ref p))) (a : AtL c.P G vs ds) :
    Rel c G0 H0 G (upd H p (.ins C dx (ns'.zip vs))) σ (l.set i (some (.obj ea C ns' ds))) pot := by
  have q := r.slot i _ hc
  rw [hσ] at q
  obtain ⟨hea, ws, dx0, h1, h2, h3, h4, h5⟩ := q
  have hi : i < l.length := (List.getElem?_eq_some_iff.mp hc).1
  refine ⟨⟨r.stp.gg, fun b o e => ?_, fun b o e n => ?_, fun b e => ?_, r.stp.new⟩, c.ext (fun a b => upd_ne (fun z => h5 (by rw [← z]; exact b))) r.pot, r.gP, r.hP, by rw [List.length_set, r.len], fun j x e => ?_, fun j k x y e1 e2 o1 o2 ne => ?_⟩
  · rw [upd_ne (fun z => by subst z; rw [h3] at e; cases e)]; exact r.stp.gh b o e
  · rw [upd_ne (fun z => by subst z; rw [h4] at e; cases e)]; exact r.stp.keep b o e n
  · by_cases z : b = p
    · subst z; exact h4
    · rw [upd_ne z] at e; exact r.stp.there b e
  · by_cases z : j = i
    · subst z
      rw [List.getElem?_set_self hi] at e
      cases e
      rw [hσ]
      exact ⟨hea, vs, dx, upd_same, a, h3, h4, h5⟩
    · rw [List.getElem?_set_ne (Ne.symm z)] at e
      have a2 := r.slot j x e
      match ho : σ[j]?, x, a2 with
      | some (some v), .dat d, a2 => exact a2
      | some (some (.ref q)), .cell ds', ⟨ws', g1, g2, g3, g4⟩ =>
        have nq : q ≠ p := fun w => r.dist j i _ _ e hc rfl rfl z (by rw [ho, hσ, w])
        exact ⟨ws', (upd_ne nq).trans g1, g2, g3, g4⟩
      | some (some (.ref q)), .obj ea C ns ds', ⟨hea, ws', dx, g1, g2, g3, g4, g5⟩ =>
        have nq : q ≠ p := fun w => r.dist j i _ _ e hc rfl rfl z (by rw [ho, hσ, w])
        exact ⟨hea, ws', dx, (upd_ne nq).trans g1, g2, g3, g4, g5⟩
  · have back : ∀ (m : Nat) (x : L), (l.set i (some (.obj ea C ns' ds)))[m]? = some (some x) → owned x = true → ∃ y, l[m]? = some (some y) ∧ owned y = true := fun m x e o => by
      by_cases z : m = i
      · subst z; exact ⟨_, hc, rfl⟩
      · rw [List.getElem?_set_ne (Ne.symm z)] at e; exact ⟨x, e, o⟩
    obtain ⟨x', e1', o1'⟩ := back j x e1 o1
    obtain ⟨y', e2', o2'⟩ := back k y e2 o2
    exact r.dist j k x' y' e1' e2' o1' o2' ne
theorem ss_fldO {C : Addr} {i : Nat} {f : Str} {t : TE} {a : M D} (hC : Cls c.K C) (hN : NoAttr c.K C f) (ha : SE c E t a) : SS c E (sFld c.K (tVar i) t f) (sfldO C i f a) := by
  intro G0 H0 G H σ l pot r De post
  refine Sn.goS ha r post fun x dx p G1 H1 s1 r1 hx post1 => ?_
  split at post1
  · rename_i ea C' ns ds hc
    split at post1
    · rename_i z
      obtain ⟨rfl, z1, z2, z3⟩ := z
      obtain ⟨q, vs, ddx, _, hσ, h1, h2, _⟩ := obj_at r1 hc
      have hlen : ns.length = vs.length := z1.trans (AtL.length h2).symm
      refine ⟨.ref q, hσ, q, C', ddx, _, rfl, h1, hC, hN, ?_, ?_⟩
      · rw [List.length_zip, ← hlen, Nat.min_self]; exact z2
      · rw [putF_zip hlen z3]
        exact PostS.of post1 (r1.writeO hc hσ (AtL.append h2 (.cons hx .nil)))
    · exact post1.elim
  · exact post1.elim
abbrev RI := List D → List Int → R (List Str × List D)
def spI (c : Cfg) (C : Addr) (f : RI) : Sp := fun vs H Q E => ∃ x dx vs' H1 G ds pot, vs = .ref x :: vs' ∧ H = upd (upd H1 dx (.own x)) x (.ins C dx []) ∧ H1 x = none ∧ H1 dx = none ∧ dx ≠ x ∧ AtL c.P G vs' ds ∧ Ex G H1 ∧ (∀ a, c.B a → G a = none) ∧ c.inv pot H1 ∧ (match f ds pot with
  | .ok (ns, es) p => ∀ G' H' dx' ws, Stp c.B G H1 G' H' → H' x = some (.ins C dx' (ns.zip ws)) → AtL c.P G' ws es → G' x = none → c.inv p H' → Q .non H'
  | .err m p => ∀ H', Stp c.B G H1 G H' → c.inv p H' → E (.ref (c.ec m)) none H'
  | .bad => False)
def mmake (C : Addr) (f : RI) (a : M (List D)) : M D := mbind a fun ds _ p => match f ds p with
  | .ok (ns, es) q => .ok (.ins C ns es) q
  | .err m q => .err m q
  | .bad => .bad
theorem se_make {C : Addr} {f : RI} {E' : XK} {t : TA} {a : M (List D)} (ha : SA c (fun _ => E') t a) : SE c (fun _ => E') (StX.tMakeR C (spI c C f) E' t) (mmake C f a) := by
  intro G0 H0 G H σ l pot r Q post
  refine Sn.go ha r post fun x dx p G1 H1 s1 r1 hx post1 => ?_
  intro y dy hy hdy ne
  refine ⟨y, dy, x, H1, G1, dx, p, rfl, rfl, hy, hdy, ne, hx, r1.stp.gh, r1.gP, r1.pot, ?_⟩
  cases e : f dx p with
  | bad => rw [e] at post1; exact post1.elim
  | err m q =>
    rw [e] at post1
    exact fun H' s hp => post1 G1 H' (Ex.refl _) (r1.step s hp)
  | ok z q =>
    obtain ⟨ns, es⟩ := z
    rw [e] at post1
    intro G' H' dx' ws s h1 h2 h3 h4
    have rr := r1.step s h4
    have h0 : H0 y = none := r1.stp.there y hy
    have hP : ¬ c.B y := fun z => r.hP y z h0
    have r2 := Rel.freeze rr h1 h0 hP (fun i x e ho => r1.own_ne hy i x e ho) h3
    refine ⟨rfl, post1 (.ref y) _ H' ⟨s.gg.trans (Ex.new h3), r2.stp.gh, s.keep, s.there, fun b u e => ?_⟩ r2 (.ins upd_same (AtL.mono (Ex.new h3) h2))⟩
    by_cases z : b = y
    · subst z; exact .inr hy
    · rw [upd_ne z] at e; exact s.new b u e
/-- an __init__ of n parameters with self, and m slots; self stands at x -/
def outI (x C : Addr) : O → R (List Str × List D)
  | .nx l p => match l[0]? with
    | some (some (L.obj y C' ns ds)) => if y = x ∧ C' = C then .ok (ns, ds) p else .bad
    | _ => .bad
  | .err k _ p => .err k p
  | _ => .bad
def locI (x C : Addr) (n : Nat) (ds : List D) : Loc := some (.obj x C [] []) :: (ds.map (fun d => some (.dat d)) ++ List.replicate (n - (ds.length + 1)) none)
def denI (x C : Addr) (n m : Nat) (s : MS) : RI := fun ds pot => if ds.length + 1 = n then outI x C (s (locI x C m ds) pot) else .bad
end
section
variable {c : Cfg} {P : Program} {w : World} {mg : Str → Option Value} {base : Heap}
theorem startI_rel {G H1 : Hp} {N : List Str} {vs : List V} {ds : List D} {pot : List Int} {x dx C : Addr} (a : AtL c.P G vs ds) (gh : Ex G H1) (gP : (∀ a, c.B a → G a = none)) (hp : c.inv pot H1) (hx : H1 x = none) (hdx : H1 dx = none) (ne : dx ≠ x) :
    Rel c G H1 G (upd (upd H1 dx (.own x)) x (.ins C dx [])) (L2.start N (.ref x :: vs)) (locI x C N.length ds) pot := by
  have hl := AtL.length a
  have hP1 : ∀ a, c.B a → a ≠ dx := fun a b z => c.full hp a b (by rw [z]; exact hdx)
  have hP2 : ∀ a, c.B a → a ≠ x := fun a b z => c.full hp a b (by rw [z]; exact hx)
  have s1 : Stp c.B G H1 G (upd H1 dx (.own x)) := Stp.lay0 gh hdx
  have s2 : Stp c.B G (upd H1 dx (.own x)) G (upd (upd H1 dx (.own x)) x (.ins C dx [])) := Stp.lay0 s1.gh (by rw [upd_ne (Ne.symm ne)]; exact hx)
  have hG : G x = none := by
    cases e : G x with
    | none => rfl
    | some u => have := gh x u e; rw [hx] at this; cases this
  have tl : ∀ (i : Nat) (y : L), (ds.map (fun d => some (L.dat d)) ++ List.replicate (N.length - (ds.length + 1)) none)[i]? = some (some y) → ∃ d v, y = .dat d ∧ (vs.map some ++ List.replicate (N.length - (vs.length + 1)) none)[i]? = some (some v) ∧ At c.P G v d := fun i y e => by
    by_cases hi : i < ds.length
    · rw [List.getElem?_append_left (by simpa using hi), List.getElem?_map] at e
      have ed := List.getElem?_eq_getElem hi
      rw [ed] at e
      cases e
      obtain ⟨v, ev, av⟩ := AtL.get a ed
      refine ⟨_, v, rfl, ?_, av⟩
      rw [List.getElem?_append_left (by simp [hl, hi]), List.getElem?_map, ev]
      rfl
    · rw [List.getElem?_append_right (by simpa using hi), List.getElem?_replicate] at e
      split at e <;> cases e
  have est : L2.start N (.ref x :: vs) = some (.ref x) :: (vs.map some ++ List.replicate (N.length - (vs.length + 1)) none) := by
    unfold L2.start
    rw [List.map_cons, List.cons_append, List.length_cons]
  refine ⟨s1.trans s2, c.ext (fun a b => by rw [upd_ne (hP2 a b), upd_ne (hP1 a b)]) hp, gP, c.full hp, by rw [est]; simp [locI, hl], fun i y e => ?_, fun i j y z e1 e2 o1 o2 n => ?_⟩
  · rw [est]
    cases i with
    | zero =>
      cases e
      exact ⟨rfl, [], dx, upd_same, .nil, hG, hx, fun b => hP2 x b rfl⟩
    | succ i =>
      obtain ⟨d, v, rfl, ev, av⟩ := tl i y (by simpa [locI] using e)
      rw [List.getElem?_cons_succ, ev]
      exact av
  · exfalso
    cases i with
    | zero =>
      cases j with
      | zero => exact n rfl
      | succ j =>
        obtain ⟨d, v, rfl, _⟩ := tl j z (by simpa [locI] using e2)
        cases o2
    | succ i =>
      obtain ⟨d, v, rfl, _⟩ := tl i y (by simpa [locI] using e1)
      cases o1
theorem init_ss {nm qual : Str} {st : Stmt} {f C : Addr} {fd : FuncData} {N ps : List Str} {k : Nat} {s : MS} {g : RI} (F : Fun c.K nm qual st f fd) (S : FnScope N ps (defScope st)) (hb : Binds c.K fd ps [])
    (hg : ∀ x ds pot, ds.length + 1 = ps.length → g ds pot ≠ .bad → denI x C ps.length N.length s ds pot = g ds pot) (hlen : ∀ ds pot, g ds pot ≠ .bad → ds.length + 1 = ps.length)
    (hbody : ∀ (cdv : Value) (A : Around) (outer : List Env) (sh : Shared) (H : Hp) (E' : XK), Room k (A.deeper (PyProof.Rows.envOfC qual (defScope st) sh.heap.objs.size f cdv)) →
      ∃ t, PSs (cxOf (L2.CX P w) P w c.K mg base N qual (defScope st) f cdv A outer sh H E') (defBody st) t ∧ SS c (fun _ => E') t s) :
    FnR P w c.K mg base (L2.CX P w) (k + 1) f (spI c C g) := by
  have nb : ∀ {ds pot} {R' : R (List Str × List D) → Prop}, R' (g ds pot) → (R' .bad → False) → g ds pot ≠ .bad := fun {ds pot R'} h hb z => by rw [z] at h; exact hb h
  have lenOf : ∀ vs H Q E, spI c C g vs H Q E → vs.length = ps.length := fun vs H Q E h => by
    obtain ⟨x, dx, vs', H1, G, ds, pot, rfl, rfl, hx, hdx, ne, a, gh, gP, hp, h⟩ := h
    have hd := hlen ds pot (fun z => by rw [z] at h; exact h)
    rw [List.length_cons, AtL.length a]
    exact hd
  have ok : FnOk P w c.K mg base (L2.CX P w) (k + 1) f fd ps (spI c C g) := by
    refine F.okX S lenOf (fun cdv A outer sh H vs Q E hr h => ?_)
    obtain ⟨x, dx, vs', H1, G, ds, pot, rfl, rfl, hx, hdx, ne, a, gh, gP, hp, h⟩ := h
    have nbad : g ds pot ≠ .bad := fun z => by rw [z] at h; exact h
    have hd := hlen ds pot nbad
    obtain ⟨t, ht, hs⟩ := hbody cdv A outer sh _ E hr
    refine ⟨t, ht, hs G H1 G _ _ _ _ (startI_rel a gh gP hp hx hdx ne) _ ?_⟩
    have e := hg x ds pot hd nbad
    unfold denI at e
    rw [if_pos hd] at e
    rw [← e] at h
    cases e2 : s (locI x C N.length ds) pot with
    | nx l p =>
      rw [e2] at h
      unfold outI at h
      dsimp only at h
      split at h
      · rename_i z
        split at z
        · rename_i y C' ns es hl
          split at z
          · rename_i w
            obtain ⟨rfl, rfl⟩ := w
            cases z
            intro G' H' σ' eg r
            obtain ⟨q, ws, dx', eq, hσ, g1, g2, g3, _, _⟩ := obj_at r hl
            subst eq
            exact h G' H' dx' ws r.stp g1 g2 g3 r.pot
          · cases z
        · cases z
      · rename_i z
        split at z
        · split at z
          · cases z
          · cases z
        · cases z
      · exact h.elim
    | rt d p => rw [e2] at h; exact h.elim
    | err m l p =>
      rw [e2] at h
      exact fun G' H' σ' eg r => h H' ⟨Ex.refl _, r.stp.gg.trans r.stp.gh, r.stp.keep, r.stp.there, fun _ _ z => .inl z⟩ r.pot
    | bk l p => rw [e2] at h; exact h.elim
    | ct l p => rw [e2] at h; exact h.elim
    | bad => rw [e2] at h; exact h.elim
  have raw := ok.raw hb .nil
  exact raw.imp fun vs H Q E h => by rw [List.append_nil]; exact h
end
end Den
namespace Den
open PySem L2
def rListF (K : PySem.W.Frag) : List V → Hp → VK → Prop := fun xs H Q => ∃ p ys, xs = [.ref p] ∧ (SqL K H p ys ∨ SqT K H p ys) ∧ ∀ l, H l = none → Q (.ref l) (upd H l (.lst ys))
def rTupleF (K : PySem.W.Frag) : List V → Hp → VK → Prop := fun xs H Q => ∃ p ys, xs = [.ref p] ∧ ((SqL K H p ys ∧ ∀ l, H l = none → Q (.ref l) (upd H l (.tup ys))) ∨ (SqT K H p ys ∧ Q (.ref p) H))
def rMax2F : List V → Hp → VK → Prop := fun xs H Q => ∃ i j, xs = [.int i, .int j] ∧ Q (.int (if j > i then j else i)) H
def rMin2F : List V → Hp → VK → Prop := fun xs H Q => ∃ i j, xs = [.int i, .int j] ∧ Q (.int (if j < i then j else i)) H
def rIntF : List V → Hp → VK → Prop := fun xs H Q => (∃ i, xs = [.int i] ∧ Q (.int i) H) ∨ ∃ k, xs = [.bl k] ∧ Q (.int (if k then 1 else 0)) H
def rIsNF : R2 := fun x y H Q => y = .non ∧ Q (.bl (decide (x = .non))) H
def rNotNF : R2 := fun x y H Q => y = .non ∧ Q (.bl (!decide (x = .non))) H
section
variable {c : Cfg} {E : St → XK}
end
theorem pe_gint {X : Cx} {x : Str} {i : Int} {pos : Pos} (hg : Gl X x) (h : ∃ t, X.mg x = some (.int i t)) (hd : (x == ("__debug__" : Str)) = false := by decide) : PE X (.Name x pos) (tC (.int i)) := by
  refine ⟨fun pins s σ H Q I hq => ?_⟩
  obtain ⟨t, h⟩ := h
  exact (pe_glob hg h (v := .int i) ⟨t, rfl⟩ hd).run pins s σ H Q I hq
theorem getter_of {CX : CXT} {P : Program} {w : World} {K : PySem.W.Frag} {mg : Str → Option Value} {base : Heap} {x qual f : Str} {st : Stmt} {g C : Addr} {fd : FuncData} {p1 p2 p3 : Pos} (F : Fun K x qual st g fd) (S : FnScope ["self"] ["self"] (defScope st))
    (hb : defBody st = [.Return (some (.Attribute (.Name "self" p1) f p2)) p3]) (hN : (["self"] : List Str)[0]? = some ("self" : Str)) (cl : Cls K C) (n : NoAttr K C f) : FnOk P w K mg base CX 1 g fd ["self"] (getSp C f) := by
  obtain ⟨oc, od, kV, doc, pm, an, cdv, ct, osl, rfl, lk, hcd⟩ := F.ex
  exact fn_getter (k := 0) lk hcd S hN hb cl n
end Den
namespace Den
open PySem L2
@[simp] theorem mret_ev {α : Type} (a : α) (l : Loc) (p : List Int) : mret a l p = .ok a p := rfl
@[simp] theorem mbind_ev {α β : Type} (a : M α) (k : α → M β) (l : Loc) (p : List Int) : mbind a k l p = (a l p).bind fun x p' => k x l p' := rfl
@[simp] theorem bind_ok {α β : Type} (a : α) (p : List Int) (k : α → List Int → R β) : (R.ok a p).bind k = k a p := rfl
@[simp] theorem bind_err {α β : Type} (n : Nat) (p : List Int) (k : α → List Int → R β) : (R.err n p : R α).bind k = .err n p := rfl
@[simp] theorem bind_bad {α β : Type} (k : α → List Int → R β) : (R.bad : R α).bind k = .bad := rfl
@[simp] theorem mlift_some {α : Type} (a : α) (l : Loc) (p : List Int) : mlift (some a) l p = .ok a p := rfl
@[simp] theorem mlift_none {α : Type} (l : Loc) (p : List Int) : (mlift none : M α) l p = .bad := rfl
theorem mvar_ev {i : Nat} {l : Loc} {p : List Int} {d : D} (h : l[i]? = some (some (.dat d))) : mvar i l p = .ok d p := by
  unfold mvar
  rw [h]
@[simp] theorem op2_ev (f : D → D → Option D) (a b : M D) (l : Loc) (p : List Int) : op2 f a b l p = (a l p).bind fun x p' => (b l p').bind fun y p'' => mlift (f x y) l p'' := rfl
@[simp] theorem op1_ev (f : D → Option D) (a : M D) (l : Loc) (p : List Int) : op1 f a l p = (a l p).bind fun x p' => mlift (f x) l p' := rfl
@[simp] theorem opn_ev (f : List D → Option D) (a : M (List D)) (l : Loc) (p : List Int) : opn f a l p = (a l p).bind fun x p' => mlift (f x) l p' := rfl
@[simp] theorem anil_ev (l : Loc) (p : List Int) : anil l p = .ok [] p := rfl
@[simp] theorem acons_ev (a : M D) (b : M (List D)) (l : Loc) (p : List Int) : acons a b l p = (a l p).bind fun x p' => (b l p').bind fun ys p'' => .ok (x :: ys) p'' := rfl
@[simp] theorem mtest_ev (a : M D) (l : Loc) (p : List Int) : mtest a l p = (a l p).bind fun x p' => mlift (boolOf x) l p' := rfl
@[simp] theorem boolOf_bl (b : Bool) : boolOf (.bl b) = some b := rfl
@[simp] theorem mcall_ev (f : RF) (a : M (List D)) (l : Loc) (p : List Int) : mcall f a l p = (a l p).bind fun x p' => f x p' := rfl
@[simp] theorem mand_ev (a b : M Bool) (l : Loc) (p : List Int) : mand a b l p = (a l p).bind fun x p' => if x = true then b l p' else .ok false p' := by
  unfold mand mbind
  congr 1; funext x p'; cases x <;> rfl
@[simp] theorem mor_ev (a b : M Bool) (l : Loc) (p : List Int) : mor a b l p = (a l p).bind fun x p' => if x = true then .ok true p' else b l p' := by
  unfold mor mbind
  congr 1; funext x p'; cases x <;> rfl
@[simp] theorem mnot_ev (a : M Bool) (l : Loc) (p : List Int) : mnot a l p = (a l p).bind fun x p' => .ok (!x) p' := rfl
@[simp] theorem mif_ev {α : Type} (t : M Bool) (a b : M α) (l : Loc) (p : List Int) : mif t a b l p = (t l p).bind fun x p' => if x = true then a l p' else b l p' := by
  unfold mif mbind
  congr 1; funext x p'; cases x <;> rfl
@[simp] theorem vand_ev (a b : M D) (l : Loc) (p : List Int) : vand a b l p = (mtest a l p).bind fun x p' => if x = true then b l p' else .ok (.bl false) p' := by
  unfold vand mbind
  congr 1; funext x p'; cases x <;> rfl
@[simp] theorem vor_ev (a b : M D) (l : Loc) (p : List Int) : vor a b l p = (mtest a l p).bind fun x p' => if x = true then .ok (.bl true) p' else b l p' := by
  unfold vor mbind
  congr 1; funext x p'; cases x <;> rfl
@[simp] theorem vnot_ev (a : M D) (l : Loc) (p : List Int) : vnot a l p = (mtest a l p).bind fun x p' => .ok (.bl (!x)) p' := rfl
@[simp] theorem mtru_ev (a : M D) (l : Loc) (p : List Int) : mtru a l p = (a l p).bind fun x p' => mlift (truOf x) l p' := rfl
@[simp] theorem mtrue_ev (l : Loc) (p : List Int) : mtrue l p = .ok true p := rfl
@[simp] theorem mfreeze_ev (a : M (List D)) (l : Loc) (p : List Int) : mfreeze a l p = (a l p).bind fun x p' => .ok (.lst x) p' := rfl
@[simp] theorem mshort_ev (a : M (List D)) (l : Loc) (p : List Int) : mshort a l p = (a l p).bind fun x p' => if x.length ≤ 1000 then .ok x p' else .bad := by
  unfold mshort mbind
  congr 1; funext x p'
  by_cases h : x.length ≤ 1000
  · simp only [if_pos h]; rfl
  · simp only [if_neg h]
@[simp] theorem mtupd_ev (a : M (List D)) (l : Loc) (p : List Int) : mtupd a l p = (mshort a l p).bind fun x p' => .ok (.tup x) p' := rfl
@[simp] theorem mlistN_ev (a : M (List D)) (l : Loc) (p : List Int) : mlistN a l p = (a l p).bind fun x p' => mlift (fSeq1 x) l p' := rfl
@[simp] theorem mpop_nil (l : Loc) (p : List Int) (a : M D) (h : a l p = .ok .pot []) : mpop a l p = .bad := by
  unfold mpop mbind; rw [h]; rfl
@[simp] theorem mfld_ev (C : Addr) (f : Str) (a : M D) (l : Loc) (p : List Int) : mfld C f a l p = (a l p).bind fun x p' => mlift (fFld C f x) l p' := rfl
@[simp] theorem sseq_nx (a b : MS) (l l' : Loc) (p p' : List Int) (h : a l p = .nx l' p') : sseq a b l p = b l' p' := by
  unfold sseq; rw [h]
def O.bind (o : O) (k : Loc → List Int → O) : O := match o with
  | .nx l p => k l p
  | o => o
@[simp] theorem O.bind_nx (l : Loc) (p : List Int) (k : Loc → List Int → O) : (O.nx l p).bind k = k l p := rfl
@[simp] theorem O.bind_rt (d : D) (p : List Int) (k : Loc → List Int → O) : (O.rt d p).bind k = .rt d p := rfl
@[simp] theorem O.bind_err (n : Nat) (l : Loc) (p : List Int) (k : Loc → List Int → O) : (O.err n l p).bind k = .err n l p := rfl
@[simp] theorem O.bind_bad (k : Loc → List Int → O) : O.bad.bind k = .bad := rfl
@[simp] theorem sseq_ev (a b : MS) (l : Loc) (p : List Int) : sseq a b l p = (a l p).bind b := by
  unfold sseq O.bind; cases a l p <;> rfl
@[simp] theorem sskip_ev (l : Loc) (p : List Int) : sskip l p = .nx l p := rfl
def R.toO {α : Type} (r : R α) (l : Loc) (k : α → List Int → O) : O := match r with
  | .ok x p => k x p
  | .err n p => .err n l p
  | .bad => .bad
@[simp] theorem toO_ok {α : Type} (a : α) (p : List Int) (l : Loc) (k : α → List Int → O) : (R.ok a p).toO l k = k a p := rfl
@[simp] theorem toO_err {α : Type} (n : Nat) (p : List Int) (l : Loc) (k : α → List Int → O) : (R.err n p : R α).toO l k = .err n l p := rfl
@[simp] theorem toO_bad {α : Type} (l : Loc) (k : α → List Int → O) : (R.bad : R α).toO l k = .bad := rfl
theorem sbind_ev {α : Type} (a : M α) (k : α → MS) (l : Loc) (p : List Int) : sbind a k l p = (a l p).toO l fun x p' => k x l p' := by
  unfold sbind R.toO; cases a l p <;> rfl
@[simp] theorem sif_ev (t : M Bool) (a b : MS) (l : Loc) (p : List Int) : sif t a b l p = (t l p).toO l fun x p' => if x = true then a l p' else b l p' := by
  unfold sif; rw [sbind_ev]; congr 1; funext x p'; cases x <;> rfl
@[simp] theorem sret_ev (a : M D) (l : Loc) (p : List Int) : sret a l p = (a l p).toO l fun x p' => .rt x p' := by unfold sret; rw [sbind_ev]
@[simp] theorem sdrop_ev (a : M D) (l : Loc) (p : List Int) : sdrop a l p = (a l p).toO l fun x p' => .nx l p' := by unfold sdrop; rw [sbind_ev]
@[simp] theorem sasg_ev (a : M D) (tg : D → Loc → Option Loc) (l : Loc) (p : List Int) : sasg a tg l p = (a l p).toO l fun x p' => match tg x l with
  | some l' => .nx l' p'
  | none => .bad := by unfold sasg; rw [sbind_ev] <;> rfl
@[simp] theorem sown_ev (a : M (List D)) (i : Nat) (l : Loc) (p : List Int) : sown a i l p = (a l p).toO l fun x p' => if i < l.length then .nx (l.set i (some (.cell x))) p' else .bad := by unfold sown; rw [sbind_ev]
@[simp] theorem sraise_ev (n : Nat) (l : Loc) (p : List Int) : sraise n l p = .err n l p := rfl
@[simp] theorem sfor_ev (a : M (List D)) (tg : D → Loc → Option Loc) (body : MS) (l : Loc) (p : List Int) : sfor a tg body l p = (a l p).toO l fun x p' => loop tg body x l p' := by unfold sfor; rw [sbind_ev]
@[simp] theorem outR_rt (d : D) (p : List Int) : outR (.rt d p) = .ok d p := rfl
@[simp] theorem outR_nx (l : Loc) (p : List Int) : outR (.nx l p) = .ok .non p := rfl
@[simp] theorem outR_err (n : Nat) (l : Loc) (p : List Int) : outR (.err n l p) = .err n p := rfl

@[simp] theorem fEq_int (i j : Int) : fEq (.int i) (.int j) = some (.bl (decide (i = j))) := by
  show (if scal (V.int i) (V.int j) = true then some (D.bl (decide (V.int i = V.int j))) else none) = _
  simp [scal]
@[simp] theorem fNe_int (i j : Int) : fNe (.int i) (.int j) = some (.bl (!decide (i = j))) := by
  show (if scal (V.int i) (V.int j) = true then some (D.bl (!decide (V.int i = V.int j))) else none) = _
  simp [scal]
theorem fEq_str (i j : Str) : fEq (.str i) (.str j) = some (.bl (decide (i = j))) := by
  show (if scal (V.str i) (V.str j) = true then some (D.bl (decide (V.str i = V.str j))) else none) = _
  simp [scal]
@[simp] theorem fAdd_int (i j : Int) : fAdd (.int i) (.int j) = some (.int (i + j)) := rfl
@[simp] theorem fSub_int (i j : Int) : fSub (.int i) (.int j) = some (.int (i - j)) := rfl
@[simp] theorem fLt_int (i j : Int) : fLt (.int i) (.int j) = some (.bl (decide (i < j))) := rfl
@[simp] theorem fLe_int (i j : Int) : fLe (.int i) (.int j) = some (.bl (decide (i ≤ j))) := rfl
@[simp] theorem fGt_int (i j : Int) : fGt (.int i) (.int j) = some (.bl (decide (j < i))) := rfl
@[simp] theorem fGe_int (i j : Int) : fGe (.int i) (.int j) = some (.bl (decide (j ≤ i))) := rfl
@[simp] theorem fNeg_int (i : Int) : fNeg (.int i) = some (.int (-i)) := rfl
theorem fMod_int {i j : Int} (h : 0 < j) : fMod (.int i) (.int j) = some (.int (i % j)) := by
  show (if 0 < j then _ else _) = _
  rw [if_pos h]
theorem fMul_int {i j : Int} (h : i.natAbs < 18446744073709551616 ∨ j.natAbs < 18446744073709551616) : fMul (.int i) (.int j) = some (.int (i * j)) := by
  show (if i.natAbs < 18446744073709551616 ∨ j.natAbs < 18446744073709551616 then _ else _) = _
  rw [if_pos h]
@[simp] theorem fIsN_ev (d : D) : fIsN d .non = some (.bl (isNon d)) := rfl
@[simp] theorem fNotN_ev (d : D) : fNotN d .non = some (.bl (!isNon d)) := rfl
@[simp] theorem fLen_lst (ds : List D) : fLen [.lst ds] = some (.int ds.length) := rfl
@[simp] theorem fLen_tup (ds : List D) : fLen [.tup ds] = some (.int ds.length) := rfl
@[simp] theorem fInt_int (i : Int) : fInt [.int i] = some (.int i) := rfl
@[simp] theorem fAbs_int (i : Int) : fAbs [.int i] = some (.int (if i < 0 then -i else i)) := rfl
@[simp] theorem fMax2_int (i j : Int) : fMax2 [.int i, .int j] = some (.int (if j > i then j else i)) := rfl
@[simp] theorem fMin2_int (i j : Int) : fMin2 [.int i, .int j] = some (.int (if j < i then j else i)) := rfl
@[simp] theorem seqOf_lst (ds : List D) : seqOf (.lst ds) = some ds := rfl
@[simp] theorem seqOf_tup (ds : List D) : seqOf (.tup ds) = some ds := rfl
@[simp] theorem lstOf_lst (ds : List D) : lstOf (.lst ds) = some ds := rfl
@[simp] theorem tupOf_tup (ds : List D) : tupOf (.tup ds) = some ds := rfl
@[simp] theorem fSeq1_lst (ds : List D) : fSeq1 [.lst ds] = some ds := rfl
@[simp] theorem fSeq1_tup (ds : List D) : fSeq1 [.tup ds] = some ds := rfl
@[simp] theorem fTuple_lst (ds : List D) : fTuple [.lst ds] = some (.tup ds) := rfl
@[simp] theorem fTuple_tup (ds : List D) : fTuple [.tup ds] = some (.tup ds) := rfl
@[simp] theorem truOf_lst (ds : List D) : truOf (.lst ds) = some (!ds.isEmpty) := rfl
@[simp] theorem truOf_tup (ds : List D) : truOf (.tup ds) = some (!ds.isEmpty) := rfl
@[simp] theorem truOf_bl (b : Bool) : truOf (.bl b) = some b := rfl
@[simp] theorem truOf_int (i : Int) : truOf (.int i) = some (i != 0) := rfl
theorem atI_nat' {ds : List D} {i : Int} {d : D} (h0 : 0 ≤ i) (h : ds[i.toNat]? = some d) : atI ds i = some d := by
  obtain ⟨n, rfl⟩ := Int.eq_ofNat_of_zero_le h0
  exact atI_nat (by simpa using h)
@[simp] theorem fIx_lst (ds : List D) (i : Int) : fIx (.lst ds) (.int i) = atI ds i := rfl
@[simp] theorem fIx_tup (ds : List D) (i : Int) : fIx (.tup ds) (.int i) = atI ds i := rfl
@[simp] theorem atI_0 (d : D) (ds : List D) : atI (d :: ds) 0 = some d := atI_nat (j := 0) rfl
@[simp] theorem atI_1 (d e : D) (ds : List D) : atI (d :: e :: ds) 1 = some e := atI_nat (j := 1) rfl
@[simp] theorem atI_2 (d e f : D) (ds : List D) : atI (d :: e :: f :: ds) 2 = some f := atI_nat (j := 2) rfl
@[simp] theorem atI_3 (d e f g : D) (ds : List D) : atI (d :: e :: f :: g :: ds) 3 = some g := atI_nat (j := 3) rfl
@[simp] theorem isNon_non : isNon .non = true := rfl
@[simp] theorem isNon_int (i : Int) : isNon (.int i) = false := rfl
@[simp] theorem isNon_tup (ds : List D) : isNon (.tup ds) = false := rfl
@[simp] theorem isNon_lst (ds : List D) : isNon (.lst ds) = false := rfl
@[simp] theorem lset_lt (i : Nat) (d : D) (l : Loc) (h : i < l.length) : gset i d l = some (l.set i (some (.dat d))) := if_pos h
end Den
namespace Den
open PySem L2
theorem loop_run {tg : D → Loc → Option Loc} {body : MS} (I : Nat → Loc → List Int → Prop) : ∀ {ds : List D} {k : Nat} {l : Loc} {p : List Int}, I k l p →
    (∀ (i : Nat) d l p, ds[i]? = some d → I (k + i) l p → ∃ l1, tg d l = some l1 ∧ ∃ l2 p2, (body l1 p = .nx l2 p2 ∨ body l1 p = .ct l2 p2) ∧ I (k + i + 1) l2 p2) →
    ∃ l' p', loop tg body ds l p = .nx l' p' ∧ I (k + ds.length) l' p'
  | [], k, l, p, h0, _ => ⟨l, p, rfl, h0⟩
  | d :: ds, k, l, p, h0, hs => by
    obtain ⟨l1, e1, l2, p2, e2, h2⟩ := hs 0 d l p rfl h0
    obtain ⟨l', p', e3, h3⟩ := loop_run I (ds := ds) (k := k + 1) (l := l2) (p := p2) h2 fun i d' l p hd hI => by
      have e : k + (i + 1) = k + 1 + i := by omega
      have := hs (i + 1) d' l p (by simpa using hd) (by rw [e]; exact hI)
      rw [e] at this
      exact this
    refine ⟨l', p', ?_, by rw [List.length_cons, show k + (ds.length + 1) = k + 1 + ds.length by omega]; exact h3⟩
    unfold loop
    rw [e1]
    rcases e2 with e2 | e2
    · simp only [e2]; exact e3
    · simp only [e2]; exact e3
theorem comp_run {i : Nat} {t : M Bool} {e : M D} {l : Loc} (hi : i < l.length) (f : D → Option D) {p : List Int} : ∀ {ds : List D}, (∀ d ∈ ds, turn t e (l.set i (some (.dat d))) p = .ok (f d) p) → comp i t e ds l p = .ok (ds.filterMap f) p
  | [], _ => rfl
  | d :: ds, h => by
    unfold comp
    rw [if_pos hi, h d List.mem_cons_self]
    have ih := comp_run hi f (p := p) (ds := ds) fun d' hd => h d' (List.mem_cons_of_mem _ hd)
    simp only [ih]
    rw [List.filterMap_cons]
    cases f d <;> rfl
theorem comp_map {i : Nat} {e : M D} {l : Loc} (hi : i < l.length) (f : D → D) {p : List Int} {ds : List D} (h : ∀ d ∈ ds, e (l.set i (some (.dat d))) p = .ok (f d) p) : comp i mtrue e ds l p = .ok (ds.map f) p := by
  rw [comp_run hi (fun d => some (f d)) fun d hd => ?_]
  · rw [List.filterMap_eq_map']
  · unfold turn
    rw [mbind_ok (show mtrue (l.set i (some (.dat d))) p = .ok true p from rfl), if_pos rfl, mbind_ok (h d hd)]
    rfl
theorem comp_filter {i : Nat} {t : M Bool} {e : M D} {l : Loc} (hi : i < l.length) (b : D → Bool) {p : List Int} {ds : List D} (h : ∀ d ∈ ds, t (l.set i (some (.dat d))) p = .ok (b d) p) (he : ∀ d ∈ ds, e (l.set i (some (.dat d))) p = .ok d p) : comp i t e ds l p = .ok (ds.filter b) p := by
  rw [comp_run hi (fun d => if b d = true then some d else none) fun d hd => ?_]
  · congr 1
    clear h he
    induction ds with
    | nil => rfl
    | cons d ds ih =>
      rw [List.filterMap_cons, List.filter_cons, ih]
      cases b d <;> simp
  · unfold turn
    rw [mbind_ok (h d hd)]
    cases hb : b d with
    | true => rw [if_pos rfl, if_pos rfl, mbind_ok (he d hd)]; rfl
    | false => rw [if_neg Bool.false_ne_true, if_neg Bool.false_ne_true]; rfl
/-- elements that draw -/
theorem comp_ex {i : Nat} {e : M D} {l : Loc} (hi : i < l.length) (Qd : D → D → Prop) : ∀ {ds : List D} {p : List Int}, (∀ d ∈ ds, ∀ p, ∃ y p', e (l.set i (some (.dat d))) p = .ok y p' ∧ Qd d y) →
    ∃ ys p', comp i mtrue e ds l p = .ok ys p' ∧ ys.length = ds.length ∧ ∀ y ∈ ys, ∃ d ∈ ds, Qd d y
  | [], p, _ => ⟨[], p, rfl, rfl, fun _ h => nomatch h⟩
  | d :: ds, p, h => by
    obtain ⟨y, p1, e1, q1⟩ := h d List.mem_cons_self p
    obtain ⟨ys, p2, e2, q2, q3⟩ := comp_ex hi Qd (ds := ds) (p := p1) fun d' hd => h d' (List.mem_cons_of_mem _ hd)
    refine ⟨y :: ys, p2, ?_, by simp [q2], fun z hz => ?_⟩
    · unfold comp
      rw [if_pos hi]
      unfold turn
      rw [mbind_ok (show mtrue (l.set i (some (.dat d))) p = .ok true p from rfl), if_pos rfl, mbind_ok e1]
      simp only [mret_ev, e2]
      rfl
    · rcases List.mem_cons.mp hz with rfl | hz
      · exact ⟨d, List.mem_cons_self, q1⟩
      · obtain ⟨d', h1, h2⟩ := q3 z hz
        exact ⟨d', List.mem_cons_of_mem _ h1, h2⟩
theorem mcomp_ev {a : M (List D)} {i : Nat} {t : M Bool} {e : M D} {l : Loc} {p p' : List Int} {ds : List D} (ha : a l p = .ok ds p') (hl : ds.length ≤ 1000) : mcomp a i t e l p = comp i t e ds l p' := by
  unfold mcomp
  rw [mbind_ok ha, if_pos hl]
theorem rng1_int {n : Int} (h1 : n.natAbs < 4611686018427387904) : rng1 [.int n] = some (rngD 0 n.toNat) := by
  show (if n.natAbs < 4611686018427387904 then _ else _) = _
  rw [if_pos h1]
theorem rng2_int {i n : Int} (hi : i.natAbs < 4611686018427387904) (h1 : n.natAbs < 4611686018427387904) : rng2 [.int i, .int n] = some (rngD i (n - i).toNat) := by
  show (if i.natAbs < 4611686018427387904 ∧ n.natAbs < 4611686018427387904 then _ else _) = _
  rw [if_pos ⟨hi, h1⟩]
theorem rngD_len (lo : Int) (n : Nat) : (rngD lo n).length = n := by simp [rngD]
theorem rngD_get {lo : Int} {n i : Nat} {d : D} (h : (rngD lo n)[i]? = some d) : i < n ∧ d = .int (lo + i) := by
  have hi : i < n := by
    have := (List.getElem?_eq_some_iff.mp h).1
    rwa [rngD_len] at this
  refine ⟨hi, ?_⟩
  simp [rngD, hi] at h
  exact h.symm
theorem rngD_mem {lo : Int} {n : Nat} {d : D} (h : d ∈ rngD lo n) : ∃ i, i < n ∧ d = .int (lo + (i : Int)) := by
  obtain ⟨i, hi⟩ := List.getElem?_of_mem h
  exact ⟨i, rngD_get hi⟩

/-- a loop that only looks: its target's slot alone changes -/
theorem loop_env {i : Nat} {body : MS} (F : Option L → Loc) {p : List Int} (hF : ∀ o d, gset i d (F o) = some (F (some (.dat d)))) : ∀ {ds : List D}, (∀ d ∈ ds, body (F (some (.dat d))) p = .nx (F (some (.dat d))) p) → ∀ o, ∃ o', loop (gset i) body ds (F o) p = .nx (F o') p
  | [], _, o => ⟨o, rfl⟩
  | d :: ds, h, o => by
    obtain ⟨o', e⟩ := loop_env F (p := p) (body := body) hF (ds := ds) (fun d' hd => h d' (List.mem_cons_of_mem _ hd)) (some (.dat d))
    refine ⟨o', ?_⟩
    unfold loop
    rw [hF]
    simp only [h d List.mem_cons_self]
    exact e

theorem comp_mapL {α : Type} {i : Nat} {e : M D} {l : Loc} (hi : i < l.length) (g f : α → D) {p : List Int} : ∀ {xs : List α}, (∀ x ∈ xs, e (l.set i (some (.dat (g x)))) p = .ok (f x) p) → comp i mtrue e (xs.map g) l p = .ok (xs.map f) p
  | [], _ => rfl
  | x :: xs, h => by
    have ih := comp_mapL hi g f (p := p) (xs := xs) fun y hy => h y (List.mem_cons_of_mem _ hy)
    show comp i mtrue e (g x :: xs.map g) l p = _
    unfold comp
    rw [if_pos hi]
    unfold turn
    rw [mbind_ok (show mtrue (l.set i (some (.dat (g x)))) p = .ok true p from rfl), if_pos rfl, mbind_ok (h x List.mem_cons_self)]
    simp only [mret_ev, ih]
    rfl
theorem comp_filterL {α : Type} {i : Nat} {t : M Bool} {e : M D} {l : Loc} (hi : i < l.length) (g : α → D) (b : α → Bool) {p : List Int} : ∀ {xs : List α}, (∀ x ∈ xs, t (l.set i (some (.dat (g x)))) p = .ok (b x) p) → (∀ x ∈ xs, e (l.set i (some (.dat (g x)))) p = .ok (g x) p) → comp i t e (xs.map g) l p = .ok ((xs.filter b).map g) p
  | [], _, _ => rfl
  | x :: xs, h, he => by
    have ih := comp_filterL hi g b (p := p) (xs := xs) (fun y hy => h y (List.mem_cons_of_mem _ hy)) fun y hy => he y (List.mem_cons_of_mem _ hy)
    show comp i t e (g x :: xs.map g) l p = _
    unfold comp
    rw [if_pos hi]
    unfold turn
    rw [mbind_ok (h x List.mem_cons_self)]
    rw [List.filter_cons]
    cases hb : b x with
    | true =>
      rw [if_pos rfl, mbind_ok (he x List.mem_cons_self)]
      simp only [mret_ev, ih]
      rfl
    | false =>
      rw [if_neg Bool.false_ne_true]
      simp only [mret_ev, ih]
      rfl
theorem sfldO_ev {C : Addr} {i : Nat} {f : Str} {a : M D} {l : Loc} {p p' : List Int} {x : D} {ea : Addr} {ns : List Str} {ds : List D} (ha : a l p = .ok x p') (hl : l[i]? = some (some (.obj ea C ns ds))) (h : ns.length = ds.length ∧ ns.length < 1000 ∧ f ∉ ns) :
    sfldO C i f a l p = .nx (l.set i (some (.obj ea C (ns ++ [f]) (ds ++ [x])))) p' := by
  unfold sfldO
  rw [sbind_ev, ha]
  show (match l[i]? with
    | some (some (.obj ea C' ns ds)) => if C' = C ∧ ns.length = ds.length ∧ ns.length < 1000 ∧ f ∉ ns then O.nx (l.set i (some (.obj ea C (ns ++ [f]) (ds ++ [x])))) p' else .bad
    | _ => .bad) = _
  rw [hl]
  exact if_pos ⟨rfl, h⟩
end Den
namespace Den
open PySem L2 PyProof.Rows
section
variable {X : Cx} {tg : Expr}
def iSeq (K : PySem.W.Frag) (tl : TE) : TI := fun σ H R => tl σ H fun x H1 => ∃ a, x = .ref a ∧ (((∃ xs, SqL K H1 a xs) ∧ R (Itl K a) H1) ∨ ((∃ xs, SqT K H1 a xs) ∧ R (Itt K a) H1))
theorem pi_seq {l : Expr} {tl : TE} (hl : PE X l tl) : PI X tg l (iSeq X.K tl) := by
  refine ⟨fun pins s σ H R I h => ?_⟩
  refine thn (hl.run pins s σ H _ I h) fun v s1 ⟨x, H1, I1, r1, q1⟩ => ?_
  obtain ⟨a, e, q1⟩ := q1
  subst e
  cases r1
  rcases q1 with ⟨⟨xs, hq⟩, q⟩ | ⟨⟨xs, hq⟩, q⟩
  · obtain ⟨its, rv, p, hz⟩ := I1.list hq
    refine wpAny_pyIter_list p.isList ?_
    refine ⟨s1.heap.objs.size, [s1.heap.objs.size], _, _, H1, rfl, I1.kept (t' := s1.toks) fun b o e => Heap.get?_push_of_some _ e, turn_list a _, ⟨_, Heap.get?_push_size _ rfl, rfl, rfl⟩, fun b hb => ?_, q⟩
    have e : b = s1.heap.objs.size := by simpa using hb
    subst e
    exact I1.fpOk (Nat.le_refl _) (I1.hok.fresh (Nat.le_refl _))
  · obtain ⟨its, rv, p, hz⟩ := I1.tuple hq
    refine wpAny_pyIter_tuple (show s1.heap.IsTuple a its.toArray from p) ?_
    refine ⟨s1.heap.objs.size, [s1.heap.objs.size], _, _, H1, rfl, I1.kept (t' := s1.toks) fun b o e => Heap.get?_push_of_some _ e, turn_tuple a _, ⟨_, Heap.get?_push_size _ rfl, rfl, rfl⟩, fun b hb => ?_, q⟩
    have e : b = s1.heap.objs.size := by simpa using hb
    subst e
    exact I1.fpOk (Nat.le_refl _) (I1.hok.fresh (Nat.le_refl _))
end
section
variable {c : Cfg} {E : L2.St → XK}
theorem si_seq {t : TE} {a : M D} (ha : SE c E t a) : SI c E (iSeq c.K t) (mbind a fun x => mlift (seqOf x)) := by
  intro G0 H0 G H σ l pot r Q post
  refine Sn.go ha r post fun x dx p G1 H1 s1 r1 hx post1 => ?_
  cases dx with
  | lst ds =>
    obtain ⟨q, vs, rfl, h, al⟩ := at_lst hx
    exact ⟨q, rfl, .inl ⟨⟨vs, .inl (.inl (r1.stp.gh _ _ h))⟩, Post.ok post1 r1 (walks_list h al)⟩⟩
  | tup ds =>
    obtain ⟨q, vs, rfl, h, al⟩ := at_tup hx
    exact ⟨q, rfl, .inr ⟨⟨vs, .inl (.inl (r1.stp.gh _ _ h))⟩, Post.ok post1 r1 (walks_tup h al)⟩⟩
  | _ => exact post1.elim
end
end Den
namespace Den
open PySem L2
section
variable {c : Cfg} {E : L2.St → XK}
def fRg : D → D → Option (List D)
  | .int i, .int j => if i.natAbs < 4611686018427387904 ∧ j.natAbs < 4611686018427387904 ∧ (j - i).toNat ≤ 1000 then some (rngD i (j - i).toNat) else none
  | _, _ => none
def mrg (a b : M D) : M (List D) := mbind a fun x => mbind b fun y => mlift (fRg x y)
def mrgT (a b : M D) : M D := mbind a fun x => mbind b fun y => mlift ((fRg x y).map D.tup)
/-- a op b op' d -/
def mchain (f g : D → D → Option D) (a b d : M D) : M D := mbind a fun x => mbind b fun y => mbind (mlift ((f x y).bind boolOf)) fun k => if k = true then mbind d fun w => mlift (g y w) else mret (.bl false)
/-- xs.index(y) of flat things -/
def idxV (y : V) : List V → Option Nat
  | [] => none
  | z :: zs => if eqV z y = true then some 0 else (idxV y zs).map (· + 1)
def fIdx (ds : List D) (y : D) : Option D := match scL ds, sc y with
  | some vs, some v => (idxV v vs).map fun j => .int (j : Int)
  | _, _ => none
def mindex (a b : M D) : M D := mbind a fun x => mbind (mlift (lstOf x)) fun ds => mbind b fun y => mlift (fIdx ds y)
end
@[simp] theorem mrg_ev (a b : M D) (l : Loc) (p : List Int) : mrg a b l p = (a l p).bind fun x p' => (b l p').bind fun y p'' => mlift (fRg x y) l p'' := rfl
@[simp] theorem mrgT_ev (a b : M D) (l : Loc) (p : List Int) : mrgT a b l p = (a l p).bind fun x p' => (b l p').bind fun y p'' => mlift ((fRg x y).map D.tup) l p'' := rfl
@[simp] theorem mchain_ev (f g : D → D → Option D) (a b d : M D) (l : Loc) (p : List Int) : mchain f g a b d l p = (a l p).bind fun x p' => (b l p').bind fun y p'' => (mlift ((f x y).bind boolOf) l p'').bind fun k p3 => if k = true then (d l p3).bind fun w p4 => mlift (g y w) l p4 else .ok (.bl false) p3 := by
  unfold mchain mbind
  congr 1; funext x p'
  dsimp only
  congr 1; funext y p''
  congr 1; funext k p3
  cases k <;> rfl
@[simp] theorem mindex_ev (a b : M D) (l : Loc) (p : List Int) : mindex a b l p = (a l p).bind fun x p' => (mlift (lstOf x) l p').bind fun ds p'' => (b l p'').bind fun y p3 => mlift (fIdx ds y) l p3 := rfl
end Den
namespace PL
open PySem L2 Den
/-- where the text's own classes stand -/
structure CA where
  Web : Addr
  Heights : Addr
  Verdict : Addr
  Paper : Addr
  Plan : Addr
  FirstPlan : Addr
  SecondPlan : Addr
  Play : Addr
  Share : Addr
  Table : Addr
  TokenPlan : Addr
end PL
namespace PL
open PySem L2 Den
noncomputable section
def dn_is_integer : MS := (sret (vand (opn fIs1 (acons (mvar 0) (acons (mret (D.ty Ty.int)) anil))) (vnot (opn fIs1 (acons (mvar 0) (acons (mret (D.ty Ty.bl)) anil))))))
def D_is_integer : RF := denF 1 1 (dn_is_integer)
def dn_check_whole : MS := (sfor (mbind (mvar 0) fun x => mlift (tupOf x)) (gset 1) (sif (mnot (mtru (mcall D_is_integer (acons (mvar 1) anil)))) (sraise 0) sskip))
def D_check_whole : RF := fun ds pot => if ds.length ≤ 1000 then denStar 2 (dn_check_whole) ds pot else .bad
def dn_whole_list : MS := (sseq (sif (mnot (mtru (opn fIs2 (acons (mvar 0) (acons (mtupd (acons (mret (D.ty Ty.lst)) (acons (mret (D.ty Ty.tup)) anil))) anil))))) (sraise 0) sskip)
    (sseq (sdrop (mstar D_check_whole (mvar 0)))
    (sret (opn fTuple (acons (mvar 0) anil)))))
def D_whole_list : RF := denF 1 1 (dn_whole_list)
def dn_check_range : MS := (sif (mor (mtest (op2 fLt (mvar 0) (mvar 1))) (mtest (op2 fGt (mvar 0) (mvar 2)))) (sraise 1) sskip)
def D_check_range : RF := denF 3 3 (dn_check_range)
def dn_check_least : MS := (sif (mtest (op2 fLt (mvar 0) (mvar 1))) (sraise 1) sskip)
def D_check_least : RF := denF 2 2 (dn_check_least)
def dn_check_most : MS := (sif (mtest (op2 fGt (mvar 0) (mvar 1))) (sraise 3) sskip)
def D_check_most : RF := denF 2 2 (dn_check_most)
def dn_as_stands : MS := (sseq (sasg (mcall D_whole_list (acons (mvar 0) anil)) (gset 2))
    (sseq (sfor (mbind (mvar 2) fun x => mlift (tupOf x)) (gset 3) (sdrop (mcall D_check_range (acons (mvar 3) (acons (mret (D.int 0)) (acons (op2 fSub (mvar 1) (mret (D.int 1))) anil))))))
    (sret (opn fTuple (acons (op1 fSortSet (mvar 2)) anil)))))
def D_as_stands : RF := denF 2 4 (dn_as_stands)
def dn_is_due : MS := (sseq (sif (mtest (op2 fIsN (mvar 0) (mret D.non))) (sret (mret (D.bl true))) sskip)
    (sseq (sif (mor (mnot (mtru (opn fIs2 (acons (mvar 0) (acons (mtupd (acons (mret (D.ty Ty.lst)) (acons (mret (D.ty Ty.tup)) anil))) anil))))) (mtest (op2 fNe (opn fLen (acons (mvar 0) anil)) (mret (D.int 2))))) (sret (mret (D.bl false))) sskip)
    (sret (vand (opn fIs1 (acons (op2 fIx (mvar 0) (mret (D.int 0))) (acons (mret (D.ty Ty.str)) anil))) (mcall D_is_integer (acons (op2 fIx (mvar 0) (mret (D.int 1))) anil))))))
def D_is_due : RF := denF 1 1 (dn_is_due)
def dn_due_in_range : MS := (sret (vor (op2 fIsN (mvar 0) (mret D.non)) (vand (op2 (fInB false) (op2 fIx (mvar 0) (mret (D.int 0))) (mtupd (acons (mret (D.str "chips")) (acons (mret (D.str "less")) anil)))) (op2 fGe (op2 fIx (mvar 0) (mret (D.int 1))) (mret (D.int 0))))))
def D_due_in_range : RF := denF 1 1 (dn_due_in_range)
def dn_due_too_great : MS := (sret (vand (op2 fNotN (mvar 0) (mret D.non)) (op2 fGt (op2 fIx (mvar 0) (mret (D.int 1))) (mret (D.int 10000000000000000000000000000000000000000)))))
def D_due_too_great : RF := denF 1 1 (dn_due_too_great)
def dn_check_due : MS := (sif (mnot (mtru (mcall D_is_due (acons (mvar 0) anil)))) (sraise 0) sskip)
def D_check_due : RF := denF 1 1 (dn_check_due)
abbrev Due := Option (Bool × Int)
structure Wb where
  first : List (List Int)
  second : List (List Int)
  marks : List Int
  dues : List Due
def dI (ns : List Int) : D := .lst (ns.map .int)
def dDue : Due → D
  | none => .non
  | some (true, x) => .tup [.str "chips", .int x]
  | some (false, x) => .tup [.str "less", .int x]
def encW (wb : Wb) : List D := [.lst (wb.first.map dI), .lst (wb.second.map dI), dI wb.marks, .lst (wb.dues.map dDue)]
structure Valid (wb : Wb) : Prop where
  n1 : 1 ≤ wb.marks.length
  n2 : wb.marks.length ≤ 60
  l1 : wb.first.length = wb.marks.length
  l2 : wb.second.length = wb.marks.length
  l3 : wb.dues.length = wb.marks.length
  s1 : ∀ ss ∈ wb.first, ss.length < 60 ∧ ∀ x ∈ ss, 0 ≤ x ∧ x < (wb.marks.length : Int)
  s2 : ∀ ss ∈ wb.second, ss.length < 60 ∧ ∀ x ∈ ss, 0 ≤ x ∧ x < (wb.marks.length : Int)
  both : ∀ (i : Nat) (a b : List Int), wb.first[i]? = some a → wb.second[i]? = some b → a.isEmpty = b.isEmpty
  mks : ∀ m ∈ wb.marks, m = 1 ∨ m = 2
  du : ∀ d ∈ wb.dues, ∀ b x, d = some (b, x) → 0 ≤ x ∧ x ≤ 1000
def dS (ss : List Int) : D := .tup ((sortSet ss).map .int)
def moves (wb : Wb) (d : D) : Bool := match (fIx (.lst (wb.first.map dI)) d).bind truOf with
  | some b => b
  | none => false
def gdI : Due → Int
  | none => 0
  | some (_, x) => x
def gdD (wb : Wb) : D := match wb.dues.map gdI with
  | [] => .non
  | n :: ns => .int (maxL n ns)
def evB (wb : Wb) : Bool := match pd (.tup (wb.first.map dS)), pd (.tup (wb.second.map dS)) with
  | some a, some b => PyData.eqv a b
  | _, _ => false
def wnames : List Str := ["_size", "_first", "_second", "_marks", "_dues", "_ends", "_moving", "_greatest_due", "_even"]
def wfields (wb : Wb) : List D := [.int wb.marks.length, .tup (wb.first.map dS), .tup (wb.second.map dS), .tup (wb.marks.map .int), .tup (wb.dues.map dDue), .tup ((rngD 0 wb.marks.length).filter fun d => !moves wb d), .tup ((rngD 0 wb.marks.length).filter fun d => moves wb d), gdD wb, .bl (evB wb)]
def dn_check_web (A : CA) : MS := (sif (mnot (mtru (opn (fIsC A.Web) (acons (mvar 0) (acons (mret (D.cls A.Web)) anil))))) (sraise 0) sskip)
def D_check_web (A : CA) : RF := denF 1 1 (dn_check_web A)
def dn_law_draw : MS := (sseq (sif (mtest (op2 fEq (mlenp (mvar 0)) (mret (D.int 0)))) (sret (mret (D.int 0))) sskip)
    (sret (op2 fMod (opn fInt (acons (mpop (mvar 0)) anil)) (mvar 1))))
def D_law_draw : RF := denF 2 2 (dn_law_draw)
def dn_law_lot : MS := (sseq (sown (mshort (acons (mcall D_law_draw (acons (mvar 0) (acons (mvar 1) anil))) anil)) 2)
    (sseq (sfor (mbind (acons (mcall D_law_draw (acons (mvar 0) (acons (mret (D.int 3)) anil))) anil) fun x => mlift (rng1 x)) (gset 3) (sseq (sasg (mcall D_law_draw (acons (mvar 0) (acons (mvar 1) anil))) (gset 4))
    (sif (mtest (minc true (mvar 4) 2)) (sappend 2 (mvar 4)) sskip)))
    (sgive 2 (sret (mvar 2)))))
def D_law_lot : RF := denF 2 5 (dn_law_lot)
def dn_law_due : MS := (sseq (sasg (mcall D_law_draw (acons (mvar 0) (acons (mret (D.int 6)) anil))) (gset 1))
    (sseq (sif (mtest (op2 fLe (mvar 1) (mret (D.int 2)))) (sret (mtupd (acons (mret (D.str "chips")) (acons (mret (D.int 0)) anil)))) sskip)
    (sseq (sif (mtest (op2 fEq (mvar 1) (mret (D.int 3)))) (sret (mtupd (acons (mret (D.str "chips")) (acons (op2 fAdd (mret (D.int 1)) (mcall D_law_draw (acons (mvar 0) (acons (mret (D.int 4)) anil)))) anil)))) sskip)
    (sseq (sif (mtest (op2 fEq (mvar 1) (mret (D.int 4)))) (sret (mtupd (acons (mret (D.str "less")) (acons (op2 fAdd (mret (D.int 1)) (mcall D_law_draw (acons (mvar 0) (acons (mret (D.int 3)) anil)))) anil)))) sskip)
    (sret (mret D.non))))))
def D_law_due : RF := denF 1 2 (dn_law_due)
def dn_law_marks : MS := (sseq (sasg (mcall D_law_draw (acons (mvar 0) (acons (mret (D.int 4)) anil))) (gset 2))
    (sseq (sif (mtest (op2 fLe (mvar 2) (mret (D.int 1)))) (sret (mfreeze (mcomp (mbind (acons (mvar 1) anil) fun x => mlift (rng1 x)) 3 mtrue (op2 fAdd (mret (D.int 1)) (mvar 2))))) sskip)
    (sret (mfreeze (mcomp (mbind (acons (mvar 1) anil) fun x => mlift (rng1 x)) 3 mtrue (op2 fAdd (mret (D.int 1)) (mcall D_law_draw (acons (mvar 0) (acons (mret (D.int 2)) anil)))))))))
def D_law_marks : RF := denF 2 4 (dn_law_marks)
def dn_law_path : MS := (sseq (sown (mshort (acons (mfreeze (mshort anil)) (acons (mfreeze (mshort anil)) anil))) 1)
    (sseq (sfor (mbind (acons (mret (D.int 2)) (acons (mvar 0) anil)) fun x => mlift (rng2 x)) (gset 2) (sseq (sasg (op2 fSub (mvar 2) (mret (D.int 1))) (gset 3))
    (sseq (sif (mtest (op2 fEq (mvar 2) (mret (D.int 2)))) (sasg (mret (D.int 0)) (gset 3)) sskip)
    (sseq (sasg (op2 fAdd (mvar 2) (mret (D.int 1))) (gset 4))
    (sseq (sif (mtest (op2 fEq (mvar 2) (op2 fSub (mvar 0) (mret (D.int 1))))) (sasg (mret (D.int 1)) (gset 4)) sskip)
    (sappend 1 (mfreeze (mshort (acons (mvar 3) (acons (mvar 4) anil))))))))))
    (sgive 1 (sret (mvar 1)))))
def D_law_path : RF := denF 1 5 (dn_law_path)
def dn_law_web : MS := (sseq (sasg (opn fMin2 (acons (mvar 1) (acons (op2 fIx (mfreeze (mshort (acons (mret (D.int 4)) (acons (mret (D.int 3)) (acons (mret (D.int 5)) (acons (mret (D.int 4)) (acons (mret (D.int 6)) (acons (mret (D.int 2)) (acons (mret (D.int 5)) (acons (mret (D.int 3)) (acons (mret (D.int 7)) (acons (mret (D.int 1)) anil)))))))))))) (mcall D_law_draw (acons (mvar 0) (acons (mret (D.int 10)) anil)))) anil))) (gset 3))
    (sseq (sasg (mcall D_law_draw (acons (mvar 0) (acons (mret (D.int 5)) anil))) (gset 4))
    (sseq (sown (mshort anil) 5)
    (sseq (sown (mshort anil) 6)
    (sseq (sif (mand (mtest (op2 fEq (mvar 4) (mret (D.int 0)))) (mtest (op2 fGe (mvar 3) (mret (D.int 2))))) (sseq (sasg (mcall D_law_path (acons (mvar 3) anil)) (gset 5))
    (sseq (sasg (op2 fCat (mfreeze (mshort (acons (mtupd (acons (mret (D.str "chips")) (acons (mret (D.int 0)) anil))) anil))) (mfreeze (mcomp (mbind (acons (op2 fSub (mvar 3) (mret (D.int 1))) anil) fun x => mlift (rng1 x)) 7 mtrue (mret D.non)))) (gset 6))
    (sgive 5 (sown (mcomp (mbind (mvar 5) fun x => mlift (lstOf x)) 9 mtrue (mfreeze (mlistN (acons (mvar 9) anil)))) 8)))) (sseq (sown (mshort anil) 8)
    (sfor (mbind (acons (mvar 3) anil) fun x => mlift (rng1 x)) (gset 7) (sseq (sasg (vand (op2 fEq (mvar 7) (mret (D.int 0))) (op2 fNe (mvar 4) (mret (D.int 4)))) (gset 10))
    (sseq (sif (mand (mtest (op2 fEq (mvar 7) (mret (D.int 1)))) (mtest (op2 fNe (mvar 4) (mret (D.int 3))))) (sasg (mret (D.bl true)) (gset 10)) sskip)
    (sseq (sif (mand (mtest (op2 fGe (mvar 7) (mret (D.int 2)))) (mtest (op2 fEq (mcall D_law_draw (acons (mvar 0) (acons (mret (D.int 8)) anil))) (mret (D.int 7))))) (sasg (mret (D.bl true)) (gset 10)) sskip)
    (sseq (sif (mtru (mvar 10)) (sseq (sappend 5 (mfreeze (mshort anil)))
    (sappend 8 (mfreeze (mshort anil)))) (sseq (sasg (mcall D_law_lot (acons (mvar 0) (acons (mvar 3) anil))) (gset 9))
    (sseq (sappend 5 (mvar 9))
    (sif (mor (mtru (mvar 2)) (mtest (op2 fEq (mcall D_law_draw (acons (mvar 0) (acons (mret (D.int 2)) anil))) (mret (D.int 0))))) (sappend 8 (mfreeze (mlistN (acons (mvar 9) anil)))) (sappend 8 (mcall D_law_lot (acons (mvar 0) (acons (mvar 3) anil))))))))
    (sseq (sasg (mret D.non) (gset 11))
    (sseq (sif (mor (mtest (op2 fEq (mvar 7) (mret (D.int 0)))) (mand (mtru (mvar 10)) (mtest (op2 fGe (mvar 7) (mret (D.int 2)))))) (sasg (mcall D_law_due (acons (mvar 0) anil)) (gset 11)) (sif (mand (mnot (mtru (mvar 10))) (mtest (op2 fEq (mcall D_law_draw (acons (mvar 0) (acons (mret (D.int 8)) anil))) (mret (D.int 7))))) (sasg (mcall D_law_due (acons (mvar 0) anil)) (gset 11)) sskip))
    (sappend 6 (mvar 11)))))))))))
    (sgive 8 (sgive 5 (sgive 6 (sret (mfreeze (mshort (acons (mvar 5) (acons (mvar 8) (acons (mcall D_law_marks (acons (mvar 0) (acons (mvar 3) anil))) (acons (mvar 6) anil)))))))))))))))
def D_law_web : RF := denF 3 12 (dn_law_web)
end
end PL
namespace PL
open PySem L2 Den
noncomputable section
def c_law_low_1 : M (List D) := (mcomp (mbind (op2 fIx (op2 fIx (mvar 0) (mret (D.int 0))) (mvar 2)) fun x => mlift (lstOf x)) 3 mtrue (op2 fIx (mvar 1) (mvar 3)))
def dn_law_low : MS := (sret (opn fMinL (acons (mfreeze c_law_low_1) anil)))
def D_law_low : RF := denF 3 4 (dn_law_low)
def c_law_high_1 : M (List D) := (mcomp (mbind (op2 fIx (op2 fIx (mvar 0) (mret (D.int 1))) (mvar 2)) fun x => mlift (lstOf x)) 3 mtrue (op2 fIx (mvar 1) (mvar 3)))
def dn_law_high : MS := (sret (opn fMaxL (acons (mfreeze c_law_high_1) anil)))
def D_law_high : RF := denF 3 4 (dn_law_high)
end
end PL
namespace PL
open PySem L2 Den
noncomputable section
end
end PL
namespace PL
open PySem L2 Den
noncomputable section
end
end PL
namespace PySem
open AutoSeq1 (wpAny_loadPart')
/-- enumerate(v), v told by how its iterator begins -/
theorem enum1_meets {v : Value} {ob : Obj} {HH : Heap → Prop} (B : Begins v ob HH) :
    Meets (Builtin.«enumerate.__new__» ⟨[.type "enumerate", v], []⟩) (fun _ R s => HH s.heap ∧
      R (.ok (.ret (.ref (s.heap.push ob).objs.size))) { s with heap := (s.heap.push ob).push { cls := .type "enumerate", data := .fields #[.none, .bool false, .ref s.heap.objs.size, rawInt 0, .none, .none] } }) :=
  .of_wp fun prg wd Ar Rs sh hh => by
    obtain ⟨hp, gs, dr, tk, os⟩ := sh
    obtain ⟨hB, hh⟩ := hh
    have hsub := sub_enumerate
    have begin' : ∀ {A' : Around} {E' : Value → Shared → Prop} {Q' : Value → Shared → Prop}, Q' (.ref hp.objs.size) ⟨hp.push ob, gs, dr, tk, os⟩ → wpAny (model prg wd) A' (pyIter v) Q' E' ⟨hp, gs, dr, tk, os⟩ :=
      fun q => B.iter prg wd _ _ ⟨hp, gs, dr, tk, os⟩ _ hB q
    wp_walk using begin'
    refine wpAny_stack_any fun st => wpAny_pure ?_
    split
    · rename_i cl _ _ _ _ _
      cases (cl == Value.type "enumerate")
      · wp_walk using begin'
        exact ⟨_, rfl, hh⟩
      · wp_walk using begin'
        exact ⟨_, rfl, hh⟩
    · wp_walk using begin'
      exact ⟨_, rfl, hh⟩
theorem enum1_begins {prog : Program} {w : World} {A : Around} {E : Value → Shared → Prop} {s : Shared} {v : Value} {ob : Obj} {HH : Heap → Prop} {Q : Value → Shared → Prop} (B : Begins v ob HH) (hB : HH s.heap)
    (k : ∀ h1, IsEnum h1 (s.heap.objs.size + 1) s.heap.objs.size 0 .none → h1.get? s.heap.objs.size = some ob → (∀ b u, s.heap.get? b = some u → h1.get? b = some u) → Q (.ref (s.heap.objs.size + 1)) { s with heap := h1 }) :
    wpAny (model prog w) A (call (.type "enumerate") [v]) Q E s := by
  refine callType_new F.called_enumerate (by decide) (F.typeCall_enumerate_1 _) (F.newCall_enumerate_1 _) (fun obj => F.args_object_init_2 obj _) F.entry_enumerate_new (enum1_meets B) ⟨hB, ?_⟩
  have sz : (s.heap.push ob).objs.size = s.heap.objs.size + 1 := Heap.size_push ..
  show _ ∧ _
  rw [sz]
  have isE : IsEnum ((s.heap.push ob).push { cls := .type "enumerate", data := .fields #[.none, .bool false, .ref s.heap.objs.size, rawInt 0, .none, .none] }) (s.heap.objs.size + 1) s.heap.objs.size 0 .none := by
    have g := Heap.get?_push_size (s.heap.push ob) (o := { cls := .type "enumerate", data := .fields #[.none, .bool false, .ref s.heap.objs.size, rawInt 0, .none, .none] }) rfl
    rw [sz] at g
    exact g
  exact ⟨⟨_, isE, rfl⟩, k _ isE (Heap.get?_push_of_some _ (Heap.get?_push_size _ B.free)) fun b u y => Heap.get?_push_of_some _ (Heap.get?_push_of_some _ y)⟩
end PySem
namespace Den
open PySem L2 PyProof.Rows
/-- the tuple at a, each item in a new pair -/
def Itet (K : PySem.W.Frag) (a : Addr) : It :=
  ⟨fun j H => ∃ (ys : List V) (y : V), SqT K H a ys ∧ ys[j]? = some y, fun j H u H2 => ∃ T y, u = .ref T ∧ H T = none ∧ H2 = upd H T (.tup [.int (j : Nat), y]) ∧ ∀ ys, SqT K H a ys → ys[j]? = some y, fun j H => ∃ ys : List V, SqT K H a ys ∧ ys.length ≤ j⟩
theorem turn_enumT {P : Program} {w : World} {K : PySem.W.Frag} {elts : List Expr} {kk : Nat} {tpos : Pos} (a e it : Addr) :
    Turn P w K (.Tuple elts kk tpos) (Itet K a) [e, it] e (fun j h => (∃ old, IsEnum h e it ((j : Nat) : Int) old) ∧ h.IsTupleIter it a j ∧ e ≠ it ∧ a ≠ it) where
  mem := by simp
  obj := fun j h st b hb => by
    obtain ⟨⟨old, he⟩, ⟨ob, ho, hc, hd⟩, _⟩ := st
    have two : b = e ∨ b = it := by simpa using hb
    rcases two with z | z
    · rw [z]; exact ⟨_, he, fun v q => nomatch q⟩
    · rw [z]; exact ⟨ob, ho, fun v q => by rw [hd] at q; cases q⟩
  keep := fun j h h' st k => let ⟨⟨old, he⟩, hi, hne⟩ := st; ⟨⟨old, k e (by simp) _ he⟩, hi.at fun ob q => k it (by simp) ob q, hne⟩
  item := by
    intro X hP hw hK hc j pins s σ H E I hf st hg
    subst hP hw hK
    obtain ⟨⟨old, he⟩, hit, hne, hna⟩ := st
    obtain ⟨ys, y, hq, hy⟩ := hg
    obtain ⟨its, rv, tp, hz⟩ := I.tuple hq
    have tp' : s.heap.IsTuple a its.toArray := tp
    obtain ⟨u, hu, ru⟩ := rv.get hy
    have hel : e < s.heap.objs.size := Heap.lt_size he
    have hil : it < s.heap.objs.size := by obtain ⟨_, q, _⟩ := hit; exact Heap.lt_size q
    have hal : a < s.heap.objs.size := by obtain ⟨_, q, _⟩ := tp'; exact Heap.lt_size q
    have hea : e ≠ a := fun z => by
      obtain ⟨ob, ho, hcl, _⟩ := tp'
      rw [← z] at ho
      rw [show s.heap.get? e = _ from he] at ho
      cases ho
      injection hcl with q
      exact absurd q (by decide)
    have D := Draws.tuple (prog := X.prog) (w := X.w) (A := X.A.in1) (I.ok.hd hc) it a hna its.toArray
    have hlt : j < its.toArray.size := by
      have := (List.getElem?_eq_some_iff.mp hu).1
      simpa using this
    refine wpAny_pyNext_enum_itemD D he ⟨hit, tp'⟩ hlt hne (by simp [hne, hea]) fun x1 h1 tk hx1 ho st1 hT hsz hk => ?_
    have ex : x1 = u := by
      have q1 : its.toArray[j]? = some u := by simpa using hu
      rw [q1] at hx1
      exact (Option.some.inj hx1).symm
    subst ex
    refine ⟨_, rfl, wpAny_letOwnedTupleGo_enum (s := { s with heap := h1, toks := tk + 1 }) ho fun h2 he2 sb => ?_⟩
    have hT2 : h2.get? s.heap.objs.size = some { cls := .type "tuple", data := .seq #[.int j tk, x1] } := (sb.2 _ (Nat.ne_of_gt hel)).trans hT
    have new : ObjOk X.prog X.w (upd H s.heap.objs.size (.tup [.int (j : Nat), y])) h2 s.heap.objs.size (.tup [.int (j : Nat), y]) :=
      ⟨by show 2 ≤ sizeLine; decide, [.int j tk, x1], .cons ⟨_, rfl⟩ (.cons ru .nil), ⟨_, hT2, rfl, _, rfl⟩⟩
    have I1 : Inv X pins σ (upd H s.heap.objs.size (.tup [.int (j : Nat), y])) { s with heap := h2, toks := tk + 1 } :=
      I.turnedNew (ch := [e, it]) (fun b ob hb q => (sb.2 b (fun z => hb (by simp [z]))).trans (hk b ob (fun z => hb (by simp [z])) (fun z => hb (by simp [z])) q)) hf (Nat.le_refl _) new
    refine ⟨.ref s.heap.objs.size, _, I1, rfl, ⟨_, y, rfl, I.hok.fresh (Nat.le_refl _), rfl, fun zs hzs => by rw [I.tuple_inj hzs hq]; exact hy⟩, ⟨⟨x1, ?_⟩, st1.1.at fun ob q => (sb.2 it (Ne.symm hne)).trans q, hne, hna⟩, fun b hb => ?_⟩
    · have e1 : ((j + 1 : Nat) : Int) = (j : Int) + 1 := by omega
      rw [e1]; exact he2
    · have hbl : b < s.heap.objs.size := by
        have two : b = e ∨ b = it := by simpa using hb
        rcases two with z | z
        · rw [z]; exact hel
        · rw [z]; exact hil
      rw [upd_ne (Nat.ne_of_lt hbl)]
      exact (hf b hb).1
  done := by
    intro X hP hw hK hc j pins s σ H E I hf st hg
    subst hP hw hK
    obtain ⟨⟨old, he⟩, hit, hne, hna⟩ := st
    obtain ⟨ys, hq, hy⟩ := hg
    obtain ⟨its, rv, tp, hz⟩ := I.tuple hq
    have tp' : s.heap.IsTuple a its.toArray := tp
    obtain ⟨f0, f1, f2, f3, f4, f5⟩ := hf it (by simp)
    have hl := rv.length
    have out : its.toArray[j]? = none := by simp; omega
    have hTe : s.TypeIs (.ref e) "enumerate" := ⟨_, he, rfl⟩
    unfold pyNext
    refine wpAny_bind (wpAny_attempt (wpAny_callSpecial?_slot (name := Str.ofString "__next__") hTe F.slot_enumerate_next (wpAny_call_entry F.slot_enumerate_next hTe F.entry_enumerate_next ?last (F.args_enumerate_next_1 _))))
    show wpAny _ _ (field (.ref e) 2 >>= _) _ _ _
    refine wpAny_bind (wpAny_field he rfl (x := .ref it) rfl (wpAny_bind (wpAny_nextOf_tuple_end (by exact I.ok.hd hc) hit tp' out fun h1 x1 ext1 ⟨ob, hob, hcl⟩ => ?_)))
    refine wpAny_bind (wpAny_isInstance (T := "StopIteration") (b := true) ⟨ob, hob, hcl⟩ isSubtype_stop ?_)
    exact wpAny_pure ⟨rfl, I.turned (t' := s.toks) (fun b o hb q => ext1 b o hb q) f0 f1 f3 f4 f5⟩
  self := fun A j s Q E st h => let ⟨⟨_, he⟩, _⟩ := st; wpAny_pyIter_enum he h
end Den
namespace Den
open PySem L2 PyProof.Rows
section
variable {X : Cx}
def iEnumS (K : PySem.W.Frag) (ta : TA) : TI := fun σ H R => ta σ H fun vs H1 => ∃ a, vs = [.ref a] ∧ ((∃ xs, SqL K H1 a xs ∧ R (Ite K a) H1) ∨ (∃ xs, SqT K H1 a xs ∧ R (Itet K a) H1))
theorem pi_enumS {e : Expr} {ta : TA} {p pos tpos : Pos} {elts : List Expr} {kk : Nat} (hg : Gl X "enumerate") (hm : X.mg "enumerate" = none) (ha : PA X [e] ta) (hs : starEach [e] X.env = [(false, eval e X.env)] := by rfl) :
    PI X (.Tuple elts kk tpos) (.Call (.Name "enumerate" p) [e] [] pos) (iEnumS X.K ta) := by
  refine ⟨fun pins sh σ H R I h => Call_ (ld_blt I hg hm boot_enumerate (PyProof.Rows.callWith_type1 (thn (ha.run pos pins sh σ H _ I h) fun us s1 got => ?_) hs rfl))⟩
  obtain ⟨vs, H1, I1, r1, a, rfl, q⟩ := got
  cases r1 with
  | cons r rr =>
    cases rr
    cases r
    have low : ∀ b, b ∈ [s1.heap.objs.size + 1, s1.heap.objs.size] → s1.heap.objs.size ≤ b := fun b hb => by
      have two : b = s1.heap.objs.size + 1 ∨ b = s1.heap.objs.size := by simpa using hb
      omega
    rcases q with ⟨xs, hq, q⟩ | ⟨xs, hq, q⟩
    · obtain ⟨its, rv, lp, hz⟩ := I1.list hq
      refine call_enumerate_list lp.isList fun h1 he hit hsz hk => wpAny_pyIter_enum he ?_
      exact ⟨s1.heap.objs.size + 1, [s1.heap.objs.size + 1, s1.heap.objs.size], _, _, H1, rfl, I1.kept (t' := s1.toks) hk, turn_enum a (s1.heap.objs.size + 1) s1.heap.objs.size, ⟨⟨.none, he⟩, hit, Nat.succ_ne_self _⟩, fun b hb => I1.fpOk (low b hb) (I1.hok.fresh (low b hb)), q⟩
    · obtain ⟨its, rv, tp, hz⟩ := I1.tuple hq
      have tp' : s1.heap.IsTuple a its.toArray := tp
      have hal : a < s1.heap.objs.size := by obtain ⟨_, g, _⟩ := tp'; exact Heap.lt_size g
      refine enum1_begins (begins_tuple a its.toArray) tp' fun h1 he hit hk => wpAny_pyIter_enum he ?_
      exact ⟨s1.heap.objs.size + 1, [s1.heap.objs.size + 1, s1.heap.objs.size], _, _, H1, rfl, I1.kept (t' := s1.toks) hk, turn_enumT a (s1.heap.objs.size + 1) s1.heap.objs.size, ⟨⟨.none, he⟩, ⟨_, hit, rfl, rfl⟩, Nat.succ_ne_self _, Nat.ne_of_lt hal⟩, fun b hb => I1.fpOk (low b hb) (I1.hok.fresh (low b hb)), q⟩
end
section
variable {c : Cfg} {E : L2.St → XK}
theorem walks_enumT {G : Hp} {a : Addr} {vs : List V} {ds : List D} (h : G a = some (.tup vs)) (al : AtL c.P G vs ds) : Walks c (Itet c.K a) (enumD 0 ds) G := by
  refine ⟨fun i H e z => ⟨vs, .inl (.inl (e _ _ h)), ?_⟩, fun i H e z => ?_, fun i H x H' e z hP y G2 e2 e3 => ?_⟩
  · rw [AtL.length al]; rw [enumD_len] at z; exact Nat.le_of_eq z.symm
  · have z' : i < vs.length := by rw [AtL.length al]; rw [enumD_len] at z; exact z
    exact ⟨vs, vs[i], .inl (.inl (e _ _ h)), List.getElem?_eq_getElem z'⟩
  · obtain ⟨T, v, rfl, hT, rfl, y⟩ := y
    obtain ⟨d, ed, ad⟩ := AtL.getV al (y vs (.inl (.inl (e _ _ h))))
    have g := enumD_get ds 0 i d ed
    rw [Nat.zero_add] at g
    exact ⟨_, _, g, Stp.lay e3 hT, fun b hb => upd_ne (fun z => hP b hb (by rw [z]; exact hT)), at_new_t e3 hT (.cons (.int _) (.cons (At.mono e2 ad) .nil))⟩
def enumS : List D → Option (List D)
  | [d] => (seqOf d).map (enumD 0)
  | _ => none
theorem si_enumS {t : TA} {a : M (List D)} (ha : SA c E t a) : SI c E (iEnumS c.K t) (mbind a fun x => mlift (enumS x)) := by
  intro G0 H0 G H σ l pot r Q post
  refine Sn.go ha r post fun x dx p G1 H1 s1 r1 hx post1 => ?_
  obtain ⟨ds, e, post2⟩ := post_lift0 post1
  unfold enumS at e
  split at e
  · obtain ⟨y, rfl, hy⟩ := atl1 hx
    rename_i d
    cases d with
    | lst es =>
      cases e
      obtain ⟨q, vs, rfl, h, al⟩ := at_lst hy
      exact ⟨q, rfl, .inl ⟨vs, .inl (.inl (r1.stp.gh _ _ h)), Post.ok post2 r1 (walks_enum h al)⟩⟩
    | tup es =>
      cases e
      obtain ⟨q, vs, rfl, h, al⟩ := at_tup hy
      exact ⟨q, rfl, .inr ⟨vs, .inl (.inl (r1.stp.gh _ _ h)), Post.ok post2 r1 (walks_enumT h al)⟩⟩
    | _ => cases e
  · cases e
def comp2 (i j : Nat) (t : M Bool) (e : M D) : List D → M (List D)
  | [] => mret []
  | d :: ds => fun l p => match gset2 i j d l with
    | none => .bad
    | some l1 => (match turn t e l1 p with
      | .ok o p' => (match comp2 i j t e ds l p' with
        | .ok r p'' => .ok (o.toList ++ r) p''
        | x => x)
      | _ => .bad)
def mcomp2 (a : M (List D)) (i j : Nat) (t : M Bool) (e : M D) : M (List D) := mbind a fun ds => if ds.length ≤ 1000 then comp2 i j t e ds else fun _ _ => .bad
theorem set2_wipe {α : Type} (σ : List (Option α)) (i j : Nat) (u v : α) : (((σ.set j none).set i none).set i (some u)).set j (some v) = (σ.set i (some u)).set j (some v) := by
  refine List.ext_getElem? fun k => ?_
  simp only [List.getElem?_set, List.length_set]
  by_cases hk : j = k
  · simp [hk]
  · by_cases hi : i = k
    · simp [hk, hi]
    · simp [hk, hi]
theorem wipe_set2 {α : Type} (σ : List (Option α)) (i j : Nat) (u v : α) : ((((σ.set i (some u)).set j (some v)).set j none).set i none) = (σ.set j none).set i none := by
  refine List.ext_getElem? fun k => ?_
  simp only [List.getElem?_set, List.length_set]
  by_cases hi : i = k
  · simp [hi]
  · by_cases hk : j = k
    · simp [hk, hi]
    · simp [hk, hi]
theorem sen_comp2 {wi : TI} {i j : Nat} {tt : TT} {te : TE} {a : M (List D)} {t : M Bool} {e : M D} (ha : SI c E wi a) (ht : ST c (fun _ => E0) tt t) (he : SE c (fun _ => E0) te e) : SEN c E (tLc wi (gTup c.K 2 (gCons (gName i) (gCons (gName j) gNil))) tt te [i, j]) (mcomp2 a i j t e) := by
  intro G0 H0 G H σ l pot r Q post
  refine Sn.goN ha r post fun J ds p G1 H1 s1 r1 w post1 => ?_
  split at post1
  · rename_i hlen
    intro Dl hD
    have hPD : ∀ a, c.B a → a ≠ Dl := fun a b z => r1.hp a b (by rw [z]; exact hD)
    have hG1 : G1 Dl = none := by
      cases eg : G1 Dl with
      | none => rfl
      | some u => have := r1.stp.gh Dl u eg; rw [hD] at this; cases this
    refine ⟨fun k m H => m = ds.length - k ∧ k ≤ ds.length ∧ ∃ G p acc aD, Stp c.B G1 H1 G H ∧ c.inv p H ∧ H Dl = some (.lst acc) ∧ AtL c.P G acc aD ∧ G Dl = none ∧ aD.length ≤ k ∧ PostN c E G0 H0 G1 H1 σ l (pre aD (comp2 i j t e (ds.drop k) l p)) Q,
      ⟨_, rfl, Nat.zero_le _, G1, p, [], [], Stp.lay0 r1.stp.gh hD, c.ext (fun a b => upd_ne (hPD a b)) r1.pot, upd_same, .nil, hG1, Nat.le_refl _, by rw [pre_nil]; exact post1⟩, ?_⟩
    rintro k m H ⟨rfl, hk, G, p, acc, aD, sG, hp, hDl, al, hG, hl, post⟩
    by_cases hlt : k < ds.length
    · refine .inr ⟨w.go k H (sG.gg.trans sG.gh) hlt, fun H => ∃ G p acc aD, Stp c.B G1 H1 G H ∧ c.inv p H ∧ H Dl = some (.lst acc) ∧ AtL c.P G acc aD ∧ G Dl = none ∧ aD.length ≤ k + 1 ∧ PostN c E G0 H0 G1 H1 σ l (pre aD (comp2 i j t e (ds.drop (k + 1)) l p)) Q,
        fun H' ⟨G, p, acc, aD, h⟩ => ⟨_, by omega, rfl, hlt, G, p, acc, aD, h⟩, fun x H' y => ?_⟩
      obtain ⟨d, G3, ed, s3, hP3, ad⟩ := w.yld k H x H' (sG.gg.trans sG.gh) hlt (c.full hp) y G sG.gg sG.gh
      have edr : ds.drop k = d :: ds.drop (k + 1) := by
        obtain ⟨h1, h2⟩ := List.getElem?_eq_some_iff.mp ed
        rw [List.drop_eq_getElem_cons h1, h2]
      rw [edr] at post
      unfold comp2 at post
      cases eT : gset2 i j d l with
      | none => simp only [eT] at post; exact post.elim
      | some l1 =>
        simp only [eT] at post
        -- the pair
        unfold gset2 at eT
        split at eT
        · rename_i d1 d2
          have hi : i < l.length := by
            by_cases z : i < l.length
            · exact z
            · unfold gset at eT; rw [if_neg z] at eT; cases eT
          have hj : j < l.length := by
            by_cases z : j < l.length
            · exact z
            · unfold gset at eT; rw [if_pos hi, Option.bind_some, if_neg (by simpa using z)] at eT; cases eT
          have el1 : l1 = (l.set i (some (.dat d1))).set j (some (.dat d2)) := by
            unfold gset at eT
            rw [if_pos hi, Option.bind_some, if_pos (by simpa using hj)] at eT
            exact (Option.some.inj eT).symm
          subst el1
          obtain ⟨tq, tvs, rfl, hT, tal⟩ := at_tup ad
          obtain ⟨v1, v2, rfl, hv1, hv2⟩ := atl2 tal
          have s13 := sG.trans s3
          have r3 : Rel c G0 H0 G3 H' σ l p := r1.step s13 (c.ext hP3 hp)
          have hDl3 : H' Dl = some (.lst acc) := s3.keep Dl _ hDl (fun b => hPD _ b rfl)
          have noD : ∀ {Ga Ha Gb Hb : Hp}, Stp c.B Ga Ha Gb Hb → Ga Dl = none → Ha Dl ≠ none → Gb Dl = none := fun {Ga Ha Gb Hb} s h1 h2 => by
            cases eg : Gb Dl with
            | none => rfl
            | some u =>
              rcases s.new Dl u eg with z | z
              · rw [h1] at z; cases z
              · exact absurd z h2
          have hG3 := noD s3 hG (by rw [hDl]; exact fun z => nomatch z)
          have r4 : Rel c G0 H0 G3 H' ((σ.set i (some v1)).set j (some v2)) ((l.set i (some (.dat d1))).set j (some (.dat d2))) p := (r3.set hv1 hi).set hv2 (by simpa using hj)
          refine ⟨tq, _, rfl, .inl (.inl (r3.stp.gh _ _ hT)), rfl, v1, _, rfl, v2, _, rfl, rfl, ?_⟩
          show wipe (((wipe σ [i, j]).set i (some v1)).set j (some v2)) [i, j] = wipe σ [i, j] ∧ tt (((wipe σ [i, j]).set i (some v1)).set j (some v2)) H' _
          have ew : (((wipe σ [i, j]).set i (some v1)).set j (some v2)) = (σ.set i (some v1)).set j (some v2) := set2_wipe σ i j v1 v2
          rw [ew]
          refine ⟨wipe_set2 σ i j v1 v2, ?_⟩
          refine ht _ _ _ _ _ _ _ r4 _ ?_
          unfold turn at post
          cases e1 : t ((l.set i (some (.dat d1))).set j (some (.dat d2))) p with
          | err n p1 => rw [mbind_err e1] at post; exact post.elim
          | bad => rw [mbind_bad e1] at post; exact post.elim
          | ok b p1 =>
            rw [mbind_ok e1] at post
            intro b' G5 H5 s5 r5 eb
            subst eb
            have s15 := s13.trans s5
            have hDl5 : H5 Dl = some (.lst acc) := s5.keep Dl _ hDl3 (fun b => hPD _ b rfl)
            have hG5 := noD s5 hG3 (by rw [hDl3]; exact fun z => nomatch z)
            cases b' with
            | false =>
              rw [if_neg Bool.false_ne_true]
              rw [if_neg Bool.false_ne_true] at post
              refine ⟨G5, p1, acc, aD, s15, r5.pot, hDl5, AtL.mono (s3.gg.trans s5.gg) al, hG5, Nat.le_succ_of_le hl, ?_⟩
              dsimp only [mret] at post
              cases e2 : comp2 i j t e (ds.drop (k + 1)) l p1 with
              | ok r' p2 => rw [e2] at post; exact post
              | err n p2 => rw [e2] at post; exact post
              | bad => rw [e2] at post; exact post
            | true =>
              rw [if_pos rfl]
              rw [if_pos rfl] at post
              refine he _ _ _ _ _ _ _ r5 _ ?_
              cases e2 : e ((l.set i (some (.dat d1))).set j (some (.dat d2))) p1 with
              | err n p2 => rw [mbind_err e2] at post; exact post.elim
              | bad => rw [mbind_bad e2] at post; exact post.elim
              | ok y p2 =>
                rw [mbind_ok e2] at post
                dsimp only [mret] at post
                intro v G6 H6 s6 r6 av
                have s16 := s15.trans s6
                have hDl6 : H6 Dl = some (.lst acc) := s6.keep Dl _ hDl5 (fun b => hPD _ b rfl)
                have hG6 := noD s6 hG5 (by rw [hDl5]; exact fun z => nomatch z)
                have al6 : AtL c.P G6 acc aD := AtL.mono ((s3.gg.trans s5.gg).trans s6.gg) al
                refine ⟨acc, hDl6, ?_, G6, p2, acc ++ [v], aD ++ [y], s16.poke hD hG6, c.ext (fun a b => upd_ne (hPD a b)) r6.pot, upd_same, AtL.append al6 (.cons av .nil), hG6, by rw [List.length_append]; exact Nat.succ_le_succ hl, ?_⟩
                · rw [AtL.length al6]
                  have z : aD.length ≤ 1000 := by omega
                  exact Nat.lt_of_le_of_lt z (by decide)
                · cases e3 : comp2 i j t e (ds.drop (k + 1)) l p2 with
                  | ok r' p3 =>
                    rw [e3] at post
                    have ea : aD ++ ([y] ++ r') = aD ++ [y] ++ r' := by rw [List.append_assoc]
                    show PostN c E G0 H0 G1 H1 σ l (.ok (aD ++ [y] ++ r') p3) Q
                    rw [← ea]
                    exact post
                  | err n p3 => rw [e3] at post; exact post
                  | bad => rw [e3] at post; exact post
        · cases eT
    · have ej : k = ds.length := by omega
      refine .inl ⟨w.stop k H (sG.gg.trans sG.gh) ej, ?_⟩
      rw [ej, List.drop_length] at post
      have post' : PostN c E G0 H0 G1 H1 σ l (.ok (aD ++ []) p) Q := post
      rw [List.append_nil] at post'
      exact post' Dl acc G H sG (r1.step sG hp) hDl al hG hD
  · exact post1.elim
end
theorem mcomp2_ev {a : M (List D)} {i j : Nat} {t : M Bool} {e : M D} {l : Loc} {p p' : List Int} {ds : List D} (ha : a l p = .ok ds p') (hl : ds.length ≤ 1000) : mcomp2 a i j t e l p = comp2 i j t e ds l p' := by
  unfold mcomp2
  rw [mbind_ok ha, if_pos hl]
/-- over what enumerate yields: a part, or none, for each -/
theorem comp2_enum {α : Type} {i j : Nat} {t : M Bool} {e : M D} {l : Loc} (hi : i < l.length) (hj : j < l.length) (g : α → D) (f : Nat → α → Option D) {p : List Int} : ∀ {xs : List α} {n : Nat}, (∀ (m : Nat) (x : α), xs[m]? = some x → turn t e ((l.set i (some (.dat (.int ((n + m : Nat) : Int))))).set j (some (.dat (g x)))) p = .ok (f (n + m) x) p) →
    comp2 i j t e (enumD n (xs.map g)) l p = .ok ((xs.zipIdx n).filterMap fun z => f z.2 z.1) p
  | [], n, _ => rfl
  | x :: xs, n, h => by
    have h0 := h 0 x rfl
    have ih := comp2_enum hi hj g f (p := p) (xs := xs) (n := n + 1) fun m y hy => by
      have := h (m + 1) y (by simpa using hy)
      rw [show n + (m + 1) = n + 1 + m by omega] at this
      exact this
    have eT : gset2 i j (.tup [.int (n : Int), g x]) l = some ((l.set i (some (.dat (.int (n : Int))))).set j (some (.dat (g x)))) := by
      show (gset i _ l).bind (gset j _) = _
      rw [lset_lt i _ l hi, Option.bind_some, lset_lt j _ _ (by simpa using hj)]
    show comp2 i j t e (.tup [.int (n : Int), g x] :: enumD (n + 1) (xs.map g)) l p = _
    unfold comp2
    rw [eT]
    simp only [Nat.add_zero] at h0
    simp only [h0, ih]
    rw [List.zipIdx_cons, List.filterMap_cons]
    cases f n x <;> rfl
end Den
namespace Den
open PySem L2
section
variable {c : Cfg} {E : St → XK}
def cellOf (i : Nat) (l : Loc) : Option (List D) := match l[i]? with
  | some (some (.cell ds)) => some ds
  | _ => none
theorem cellOf_at {i : Nat} {l : Loc} {ds : List D} (h : cellOf i l = some ds) : l[i]? = some (some (.cell ds)) := by
  unfold cellOf at h
  split at h
  · rename_i e
    cases h
    exact e
  · cases h
def ixk (ds : List D) : D → Option D
  | .int n => atI ds n
  | _ => none
def mixc (i : Nat) (a : M D) : M D := fun l p => match cellOf i l with
  | some ds => mbind a (fun k => mlift (ixk ds k)) l p
  | none => .bad
theorem atL_get {P : Addr} {G : Hp} {vs : List V} {ds : List D} {n : Int} {d : D} (h : AtL P G vs ds) (e : atI ds n = some d) : ∃ v, atI vs n = some v ∧ At P G v d := by
  unfold atI at e ⊢
  rw [AtL.length h]
  cases e1 : ixN ds.length n with
  | none => rw [e1] at e; cases e
  | some j =>
    rw [e1] at e
    obtain ⟨v, e2, hv⟩ := AtL.get h (show ds[j]? = some d from e)
    exact ⟨v, e2, hv⟩
theorem se_ixc {i : Nat} {t : TE} {a : M D} (ha : SE c E t a) : SE c E (tOp (rIx c.K) (tVar i) t) (mixc i a) := by
  intro G0 H0 G H σ l pot r Q post
  unfold mixc at post
  cases e : cellOf i l with
  | none => rw [e] at post; exact post.elim
  | some ds =>
    rw [e] at post
    have hc := cellOf_at e
    obtain ⟨q, vs, hσ, h1, h2⟩ := cell_at r hc
    refine ⟨.ref q, hσ, ?_⟩
    refine Sn.go ha r post fun x dx p G1 H1 s1 r1 hx post1 => ?_
    cases dx with
    | int n =>
      rw [at_int hx]
      cases e2 : atI ds n with
      | none => simp only [ixk, e2] at post1; exact post1.elim
      | some d =>
        simp only [ixk, e2] at post1
        obtain ⟨q2, vs2, hσ2, g1, g2⟩ := cell_at r1 hc
        rw [hσ] at hσ2
        cases hσ2
        obtain ⟨v, ev, hv⟩ := atL_get g2 e2
        exact .inl ⟨q, vs2, n, v, rfl, rfl, .inl (.inl g1), ev, Post.ok post1 r1 hv⟩
    | _ => exact post1.elim
def putk (i : Nat) (x k : D) (l : Loc) : Option Loc := match cellOf i l, k with
  | some ds, .int n => (ixN ds.length n).map fun j => l.set i (some (.cell (ds.set j x)))
  | _, _ => none
/-- xs[k] = a, xs one's own -/
def sput (i : Nat) (k a : M D) : MS := sbind a fun x l p => match cellOf i l with
  | some _ => sbind k (fun n l p => match putk i x n l with
    | some l' => .nx l' p
    | none => .bad) l p
  | none => .bad
theorem ss_put {i : Nat} {t tk : TE} {a k : M D} (ha : SE c E t a) (hk : SE c E tk k) : SS c E (tAsg t (gSub (tVar i) tk rSetL)) (sput i k a) := by
  intro G0 H0 G H σ l pot r De post
  refine Sn.goS ha r post fun x dx p G1 H1 s1 r1 hx post1 => ?_
  cases e0 : cellOf i l with
  | none => simp only [e0] at post1; exact post1.elim
  | some ds0 =>
    simp only [e0] at post1
    obtain ⟨q, vs, hσ, h1, h2⟩ := cell_at r1 (cellOf_at e0)
    refine ⟨.ref q, hσ, ?_⟩
    refine Sn.goS hk r1 post1 fun y dy p2 G2 H2 s2 r2 hy post2 => ?_
    unfold putk at post2
    rw [e0] at post2
    cases dy with
    | int n =>
      rw [at_int hy]
      cases e : ixN ds0.length n with
      | none => simp only [e, Option.map_none] at post2; exact post2.elim
      | some j =>
        simp only [e, Option.map_some] at post2
        obtain ⟨q2, vs2, hσ2, g1, g2⟩ := cell_at r2 (cellOf_at e0)
        rw [hσ] at hσ2
        cases hσ2
        refine ⟨q, vs2, n, j, rfl, rfl, g1, by rw [AtL.length g2]; exact e, ?_⟩
        exact PostS.of post2 (r2.write (cellOf_at e0) hσ (AtL.set (At.mono s2.gg hx) j g2))
    | _ => exact post2.elim
/-- at most n turns -/
def whileN (t : M Bool) (b : MS) : Nat → MS
  | 0 => fun _ _ => .bad
  | n + 1 => sbind t fun x => if x = true then (fun l p => match b l p with
      | .nx l' p' => whileN t b n l' p'
      | .ct l' p' => whileN t b n l' p'
      | .bk l' p' => .nx l' p'
      | o => o) else sskip
open Classical in
noncomputable def swhile (t : M Bool) (b : MS) : MS := fun l p => if h : ∃ n, whileN t b n l p ≠ .bad then whileN t b (choose h) l p else .bad
theorem ss_while {tt : TT} {tb : TS} {t : M Bool} {b : MS} (ht : ST c E tt t) (hb : SS c E tb b) : SS c E (tWhile tt tb) (swhile t b) := by
  intro G0 H0 G H σ l pot r De post
  have hn : ∃ n, PostS c E G0 H0 G De (whileN t b n l pot) := by
    unfold swhile at post
    split at post
    · exact ⟨_, post⟩
    · exact post.elim
  obtain ⟨n, post⟩ := hn
  refine ⟨fun m σ H => ∃ G1 l p, Ex G G1 ∧ Rel c G0 H0 G1 H σ l p ∧ PostS c E G0 H0 G1 De (whileN t b m l p), ⟨n, G, l, pot, Ex.refl _, r, post⟩, ?_⟩
  rintro m σ H ⟨G1, l, p, eg, r, post⟩
  cases m with
  | zero => exact post.elim
  | succ m =>
    unfold whileN at post
    refine Sn.goS ht r post fun x dx p G2 H2 s2 r2 hx post2 => ?_
    subst hx
    cases x with
    | false =>
      rw [if_neg Bool.false_ne_true] at post2 ⊢
      exact PostS.of post2 r2
    | true =>
      rw [if_pos rfl] at post2 ⊢
      refine ⟨fun σ' H' => ∃ G1 l p, Ex G G1 ∧ Rel c G0 H0 G1 H' σ' l p ∧ PostS c E G0 H0 G1 De (whileN t b m l p), fun σ' H' h => ⟨m, Nat.lt_succ_self m, h⟩, ?_⟩
      refine hb _ _ _ _ _ _ _ r2 _ ?_
      cases e : b l p with
      | nx l' p' => simp only [e] at post2; exact fun G' H' σ' e' r' => ⟨G', l', p', (eg.trans s2.gg).trans e', r', PostS.mono post2 e'⟩
      | ct l' p' => simp only [e] at post2; exact fun G' H' σ' e' r' => ⟨G', l', p', (eg.trans s2.gg).trans e', r', PostS.mono post2 e'⟩
      | bk l' p' => simp only [e] at post2; exact post2
      | rt d p' => simp only [e] at post2; exact post2
      | err n l' p' => simp only [e] at post2; exact post2
      | bad => simp only [e] at post2; exact post2
theorem whileN_more {t : M Bool} {b : MS} : ∀ {n m : Nat} {l : Loc} {p : List Int}, whileN t b n l p ≠ .bad → n ≤ m → whileN t b m l p = whileN t b n l p
  | 0, _, _, _, h, _ => absurd rfl h
  | n + 1, 0, _, _, _, h => absurd h (Nat.not_succ_le_zero n)
  | n + 1, m + 1, l, p, h, hm => by
    have hm' : n ≤ m := Nat.le_of_succ_le_succ hm
    unfold whileN at h ⊢
    unfold sbind at h ⊢
    cases e : t l p with
    | bad => rfl
    | err k q => rfl
    | ok x q =>
      simp only [e] at h ⊢
      cases x with
      | false => rfl
      | true =>
        simp only [if_true] at h ⊢
        cases e2 : b l q with
        | nx l' p' => simp only [e2] at h ⊢; exact whileN_more h hm'
        | ct l' p' => simp only [e2] at h ⊢; exact whileN_more h hm'
        | bk l' p' => rfl
        | rt d p' => rfl
        | err k l' p' => rfl
        | bad => rfl
theorem swhile_ev {t : M Bool} {b : MS} {n : Nat} {l : Loc} {p : List Int} {o : O} (h : whileN t b n l p = o) (ho : o ≠ .bad) : swhile t b l p = o := by
  have hz : ∃ n, whileN t b n l p ≠ .bad := ⟨n, by rw [h]; exact ho⟩
  unfold swhile
  rw [dif_pos hz]
  have h1 := Classical.choose_spec hz
  rw [← h]
  rcases Nat.le_total n (Classical.choose hz) with z | z
  · exact whileN_more (by rw [h]; exact ho) z
  · exact (whileN_more h1 z).symm
end
section
variable {X : Cx} {CX : CXT} {C g : Addr} {n : Nat} {sp : Sp} {E : XK}
end
section
variable {c : Cfg} {E : St → XK}
end
end Den
namespace DenB
open PySem
open PySem.Sem (wp)
theorem truthy_tupN {prog : Program} {w : World} {A : Around} {E : Value → Shared → Prop} {s : Shared} {l : Addr} {items : Array Value} {Q : Bool → Shared → Prop} (hl : s.heap.IsTuple l items) (hfit : (items.size : Int) < 2 ^ 63)
    (h : Q (!items.isEmpty) { s with toks := s.toks + 1 + 1 }) : wpAny (model prog w) A (truthy (.ref l)) Q E s := PyProof.Rows.truthy_tuple hl hfit h
theorem meets_bool_tup (l : Addr) (items : Array Value) (hfit : (items.size : Int) < 2 ^ 63) :
    Meets (Builtin.«bool.__new__» ⟨[.type "bool", .ref l], []⟩) (fun _ R s => s.heap.IsTuple l items ∧ ∀ t, R (.ok (.ret (.bool (!items.isEmpty)))) { s with toks := t }) :=
  Meets.of_wp fun prog w A R s hs => by
    obtain ⟨hl, hs⟩ := hs
    obtain ⟨hp, g, d, tk, os⟩ := s
    have f1 := F.conv_sub_bool
    repeat (any_goals (first | assumption | (with_reducible refine truthy_tupN hl hfit ?_) | wp_step))
    all_goals first | exact ⟨_, rfl, hs _⟩ | exact hs _ | skip
theorem call_bool_tup {prog : Program} {w : World} {A : Around} {E : Value → Shared → Prop} {s : Shared} {l : Addr} {items : Array Value} {Q : Value → Shared → Prop} (hfit : (items.size : Int) < 2 ^ 63) (hl : s.heap.IsTuple l items)
    (h : ∀ t, Q (.bool (!items.isEmpty)) { s with toks := t }) : wpAny (model prog w) A (call (.type "bool") [.ref l]) Q E s :=
  call_bool_1 (meets_bool_tup l items hfit) ⟨hl, fun t => ⟨rfl, h t⟩⟩
end DenB
namespace Den
open PySem L2
section
variable {X : Cx}
def rBoolS (K : PySem.W.Frag) : List V → Hp → VK → Prop := fun xs H Q => ∃ (a : Addr) (zs : List V), xs = [.ref a] ∧ (SqL K H a zs ∨ SqT K H a zs) ∧ Q (.bl (!zs.isEmpty)) H
theorem call_boolS : CallR X (.type "bool") (rBoolS X.K) := by
  intro pins s σ H xs us Q I r h
  obtain ⟨a, zs, rfl, hq | hq, q⟩ := h
  · exact call_boolL pins s σ H _ us Q I r ⟨a, zs, rfl, hq, q⟩
  · obtain rfl := Vals.ref1 r
    obtain ⟨its, rv, pl, hz⟩ := I.tuple hq
    have hl := line63
    have hlen := rv.length
    refine DenB.call_bool_tup (by simp only [List.size_toArray]; omega) pl fun t => ?_
    exact ⟨.bl (!zs.isEmpty), H, I.tok _, by rw [isEmpty_of rv]; rfl, q⟩
end
section
variable {c : Cfg}
def fBoolS : List D → Option D
  | [d] => (seqOf d).map fun ds => .bl (!ds.isEmpty)
  | _ => none
theorem sn_boolS : SN c (rBoolS c.K) fBoolS := ⟨fun G H xs ds d gh _ hx e => by
  unfold fBoolS at e
  split at e
  · obtain ⟨x, rfl, hx1⟩ := atl1 hx
    rename_i dx
    cases dx with
    | lst es =>
      obtain ⟨p, vs, rfl, h, a⟩ := at_lst hx1
      cases e
      exact ops_pure gh (.bl _) fun Q q => ⟨p, vs, rfl, .inl (.inl (.inl (gh _ _ h))), by rw [isEmpty_at a]; exact q⟩
    | tup es =>
      obtain ⟨p, vs, rfl, h, a⟩ := at_tup hx1
      cases e
      exact ops_pure gh (.bl _) fun Q q => ⟨p, vs, rfl, .inr (.inl (.inl (gh _ _ h))), by rw [isEmpty_at a]; exact q⟩
    | _ => cases e
  · cases e⟩
end
end Den
namespace PL
open PySem L2 Den
noncomputable section
def L_check_kinds_k09_1 : MS := (sif (mnot (mtru (opn fIs2 (acons (mvar 4) (acons (mtupd (acons (mret (D.ty Ty.lst)) (acons (mret (D.ty Ty.tup)) anil))) anil))))) (sraise 0) sskip)
def b_check_kinds_k09_1 : MS := (sfor (mbind (mtupd (acons (mvar 0) (acons (mvar 1) (acons (mvar 3) anil)))) fun x => mlift (tupOf x)) (gset 4) L_check_kinds_k09_1)
def L_check_kinds_k09_2 : MS := (sdrop (mcall D_whole_list (acons (mvar 4) anil)))
def b_check_kinds_k09_2 : MS := (sfor (mbind (mtupd (astar (mvar 0) (astar (mvar 1) (acons (mvar 2) anil)))) fun x => mlift (tupOf x)) (gset 4) L_check_kinds_k09_2)
def L_check_kinds_k09_3 : MS := (sdrop (mcall D_check_due (acons (mvar 5) anil)))
def b_check_kinds_k09_3 : MS := (sfor (mbind (mvar 3) fun x => mlift (seqOf x)) (gset 5) L_check_kinds_k09_3)
def dn_check_kinds_k09 : MS := (sseq b_check_kinds_k09_1
    (sseq b_check_kinds_k09_2
    b_check_kinds_k09_3))
def D_check_kinds_k09 : RF := denF 4 6 (dn_check_kinds_k09)
def L_check_steps_k09_1l1 : MS := (sif (mor (mtest (op2 fLt (mvar 4) (mret (D.int 0)))) (mtest (op2 fGe (mvar 4) (opn fLen (acons (mvar 0) anil))))) (sraise 2) sskip)
def b_check_steps_k09_1l1 : MS := (sfor (mbind (mtupd (astar (mvar 3) (astar (op2 fIx (mvar 1) (mvar 2)) anil))) fun x => mlift (tupOf x)) (gset 4) L_check_steps_k09_1l1)
def b_check_steps_k09_1l2 : MS := (sif (mtest (op2 fNe (opn fBoolS (acons (mvar 3) anil)) (opn fBoolS (acons (op2 fIx (mvar 1) (mvar 2)) anil)))) (sraise 2) sskip)
def L_check_steps_k09_1 : MS := (sseq b_check_steps_k09_1l1
    b_check_steps_k09_1l2)
def dn_check_steps_k09 : MS := (sfor (mbind (acons (mvar 0) anil) fun x => mlift (enumS x)) (gset2 2 3) L_check_steps_k09_1)
def D_check_steps_k09 : RF := denF 2 5 (dn_check_steps_k09)
def b_check_parts_k09_1 : MS := (sdrop (mcall D_check_kinds_k09 (acons (mvar 0) (acons (mvar 1) (acons (mvar 2) (acons (mvar 3) anil))))))
def b_check_parts_k09_2 : MS := (sasg (opn fLen (acons (mvar 2) anil)) (gset 4))
def b_check_parts_k09_3 : MS := (sif (mor (mtest (op2 fEq (mvar 4) (mret (D.int 0)))) (mtest (op2 (fEqD true) (mfreeze (mshort (acons (opn fLen (acons (mvar 0) anil)) (acons (opn fLen (acons (mvar 1) anil)) (acons (opn fLen (acons (mvar 3) anil)) anil))))) (op2 fRep (mfreeze (mshort (acons (mvar 4) anil))) (mret (D.int 3)))))) (sraise 2) sskip)
def b_check_parts_k09_4 : MS := (sdrop (mcall D_check_steps_k09 (acons (mvar 0) (acons (mvar 1) anil))))
def L_check_parts_k09_5 : MS := (sif (mtest (op2 (fInB true) (mvar 5) (mtupd (acons (mret (D.int 1)) (acons (mret (D.int 2)) anil))))) (sraise 2) sskip)
def b_check_parts_k09_5 : MS := (sfor (mbind (mvar 2) fun x => mlift (seqOf x)) (gset 5) L_check_parts_k09_5)
def L_check_parts_k09_6 : MS := (sif (mnot (mtru (mcall D_due_in_range (acons (mvar 6) anil)))) (sraise 2) sskip)
def b_check_parts_k09_6 : MS := (sfor (mbind (mvar 3) fun x => mlift (seqOf x)) (gset 6) L_check_parts_k09_6)
def b_check_parts_k09_7 : MS := (sdrop (mcall D_check_most (acons (mvar 4) (acons (mret (D.int 60)) anil))))
def L_check_parts_k09_8 : MS := (sif (mtru (mcall D_due_too_great (acons (mvar 6) anil))) (sraise 3) sskip)
def b_check_parts_k09_8 : MS := (sfor (mbind (mvar 3) fun x => mlift (seqOf x)) (gset 6) L_check_parts_k09_8)
def dn_check_parts_k09 : MS := (sseq b_check_parts_k09_1
    (sseq b_check_parts_k09_2
    (sseq b_check_parts_k09_3
    (sseq b_check_parts_k09_4
    (sseq b_check_parts_k09_5
    (sseq b_check_parts_k09_6
    (sseq b_check_parts_k09_7
    b_check_parts_k09_8)))))))
def D_check_parts_k09 : RF := denF 4 7 (dn_check_parts_k09)
def b_Web_init_k09_01 : MS := (sdrop (mcall D_check_parts_k09 (acons (mvar 1) (acons (mvar 2) (acons (mvar 3) (acons (mvar 4) anil))))))
def b_Web_init_k09_02 : MS := (sasg (opn fLen (acons (mvar 3) anil)) (gset 5))
def c_Web_init_k09_1 : M (List D) := (mcomp (mbind (mvar 1) fun x => mlift (seqOf x)) 6 mtrue (mcall D_as_stands (acons (mvar 6) (acons (mvar 5) anil))))
def b_Web_init_k09_04 (A : CA) : MS := (sfldO A.Web 0 "_first" (opn fTuple (acons (mfreeze c_Web_init_k09_1) anil)))
def c_Web_init_k09_2 : M (List D) := (mcomp (mbind (mvar 2) fun x => mlift (seqOf x)) 6 mtrue (mcall D_as_stands (acons (mvar 6) (acons (mvar 5) anil))))
def b_Web_init_k09_05 (A : CA) : MS := (sfldO A.Web 0 "_second" (opn fTuple (acons (mfreeze c_Web_init_k09_2) anil)))
def b_Web_init_k09_06 (A : CA) : MS := (sfldO A.Web 0 "_marks" (opn fTuple (acons (mvar 3) anil)))
def c_Web_init_k09_3 : M (List D) := (mcomp (mbind (mvar 4) fun x => mlift (seqOf x)) 7 mtrue (mif (mtest (op2 fIsN (mvar 7) (mret D.non))) (mret D.non) (opn fTuple (acons (mvar 7) anil))))
def b_Web_init_k09_07 (A : CA) : MS := (sfldO A.Web 0 "_dues" (opn fTuple (acons (mfreeze c_Web_init_k09_3) anil)))
def c_Web_init_k09_4 : M (List D) := (mcomp (mbind (acons (mvar 5) anil) fun x => mlift (rng1 x)) 8 (mnot (mtru (op2 fIx (mvar 1) (mvar 8)))) (mvar 8))
def b_Web_init_k09_08 (A : CA) : MS := (sfldO A.Web 0 "_ends" (opn fTuple (acons (mfreeze c_Web_init_k09_4) anil)))
def c_Web_init_k09_5 : M (List D) := (mcomp (mbind (acons (mvar 5) anil) fun x => mlift (rng1 x)) 8 (mtru (op2 fIx (mvar 1) (mvar 8))) (mvar 8))
def b_Web_init_k09_09 (A : CA) : MS := (sfldO A.Web 0 "_moving" (opn fTuple (acons (mfreeze c_Web_init_k09_5) anil)))
def c_Web_init_k09_6 : M (List D) := (mcomp (mbind (mvar 4) fun x => mlift (seqOf x)) 7 mtrue (mif (mtest (op2 fIsN (mvar 7) (mret D.non))) (mret (D.int 0)) (op2 fIx (mvar 7) (mret (D.int 1)))))
def b_Web_init_k09_10 (A : CA) : MS := (sfldO A.Web 0 "_greatest_due" (opn fMaxL (acons (mfreeze c_Web_init_k09_6) anil)))
def b_Web_init_k09_11 (A : CA) : MS := (sfldO A.Web 0 "_even" (op2 (fEqD false) (mfldO A.Web 0 "_first") (mfldO A.Web 0 "_second")))
def dn_Web_init_k09 (A : CA) : MS := (sseq b_Web_init_k09_01
    (sseq b_Web_init_k09_02
    (sseq (sfldO A.Web 0 "_size" (mvar 5))
    (sseq (b_Web_init_k09_04 A)
    (sseq (b_Web_init_k09_05 A)
    (sseq (b_Web_init_k09_06 A)
    (sseq (b_Web_init_k09_07 A)
    (sseq (b_Web_init_k09_08 A)
    (sseq (b_Web_init_k09_09 A)
    (sseq (b_Web_init_k09_10 A)
    (b_Web_init_k09_11 A)))))))))))
def sqD (b : Bool) (ds : List D) : D := if b then .tup ds else .lst ds
def sqI (s : Bool × List Int) : D := sqD s.1 (s.2.map .int)
def sqDue (s : Bool × Due) : D := match s.2 with
  | none => .non
  | some (w, x) => sqD s.1 [.str (if w then "chips" else "less"), .int x]
structure Wg where
  first : Bool × List (Bool × List Int)
  second : Bool × List (Bool × List Int)
  marks : Bool × List Int
  dues : Bool × List (Bool × Due)
def Wg.wb (g : Wg) : Wb := ⟨g.first.2.map Prod.snd, g.second.2.map Prod.snd, g.marks.2, g.dues.2.map Prod.snd⟩
def encG (g : Wg) : List D := [sqD g.first.1 (g.first.2.map sqI), sqD g.second.1 (g.second.2.map sqI), sqI g.marks, sqD g.dues.1 (g.dues.2.map sqDue)]
structure ValidG (wb : Wb) : Prop where
  n1 : 1 ≤ wb.marks.length
  n2 : wb.marks.length ≤ 60
  l1 : wb.first.length = wb.marks.length
  l2 : wb.second.length = wb.marks.length
  l3 : wb.dues.length = wb.marks.length
  s1 : ∀ ss ∈ wb.first, ss.length < 64 ∧ ∀ x ∈ ss, 0 ≤ x ∧ x < (wb.marks.length : Int)
  s2 : ∀ ss ∈ wb.second, ss.length < 64 ∧ ∀ x ∈ ss, 0 ≤ x ∧ x < (wb.marks.length : Int)
  both : ∀ (i : Nat) (a b : List Int), wb.first[i]? = some a → wb.second[i]? = some b → a.isEmpty = b.isEmpty
  mks : ∀ m ∈ wb.marks, m = 1 ∨ m = 2
  du : ∀ d ∈ wb.dues, ∀ b x, d = some (b, x) → 0 ≤ x ∧ x ≤ 10000000000000000000000000000000000000000
open Classical in
def D_Web_init_k09 (_ : CA) : RI := fun ds pot => if h : ∃ g, ValidG (Wg.wb g) ∧ ds = encG g then .ok (wnames, wfields (choose h).wb) pot else .bad

def c_law_built_k09_1 : M (List D) := (mcomp (mbind (op2 fIx (mvar 0) (mret (D.int 1))) fun x => mlift (lstOf x)) 1 mtrue (mfreeze (mlistN (acons (mvar 1) anil))))
def c_law_built_k09_2 : M (List D) := (mcomp (mbind (op2 fIx (mvar 0) (mret (D.int 0))) fun x => mlift (lstOf x)) 1 mtrue (mfreeze (mlistN (acons (mvar 1) anil))))
def dn_law_built_k09 (A : CA) : MS := (sret (mmake A.Web (D_Web_init_k09 A) (acons (mfreeze c_law_built_k09_2) (acons (mfreeze c_law_built_k09_1) (acons (mfreeze (mlistN (acons (op2 fIx (mvar 0) (mret (D.int 2))) anil))) (acons (mfreeze (mlistN (acons (op2 fIx (mvar 0) (mret (D.int 3))) anil))) anil))))))
def D_law_built_k09 (A : CA) : RF := denF 1 2 (dn_law_built_k09 A)
end
end PL
namespace DenB
open PySem PySem.Calls
section
variable {prog : Program} {w : World} {A : Around} {E : Value → Shared → Prop} {s : Shared} {K : PySem.W.Frag} {x C L f : Addr} {ox : Obj} {od : Option Obj} {h₀ : Heap} {m : Str → Option Value} {b tb : Value}
end
end DenB
namespace DenB
open PySem PySem.Calls
section
variable {prog : Program} {w : World} {A : Around} {E : Value → Shared → Prop} {s : Shared} {K : PySem.W.Frag} {x C L f : Addr} {ox : Obj} {od : Option Obj}
end
end DenB
namespace Den
open PySem L2 ItX
end Den
namespace Den
open PySem L2
section
variable {X : Cx} {CX : CXT} {C g : Addr} {n : Nat} {sp : Sp} {E : XK} {pins : List (Addr × Obj)} {σ : St} {H : Hp} {s : Shared}
end
section
variable {c : Cfg} {E : St → XK}
/-- the walk -/
def itOwn (C : Addr) (f : Str) : D → Option (List D)
  | .ins C' ns ds => if C' = C then ((ns.zip ds).lookup f).bind tupOf else none
  | _ => none
end
end Den
namespace Den
open PySem L2
section
variable {c : Cfg} {E : St → XK}
inductive SuitesB (c : Cfg) (B : Nat) : List (Value × (Addr → Value → Option Addr → TS)) → List (Nat × MS) → Prop
  | nil : SuitesB c B [] []
  | cons {m : Nat} {ts : Addr → Value → Option Addr → TS} {s : MS} {l : List (Value × (Addr → Value → Option Addr → TS))} {hs : List (Nat × MS)} (hm : m < B) (h : ∀ a cls d, SS c (fun _ => E0) (ts a cls d) s) (t : SuitesB c B l hs) : SuitesB c B ((.ref (c.ec m), ts) :: l) ((m, s) :: hs)
end
end Den
namespace Den
open PySem L2
section
variable {c : Cfg} {E : St → XK}
end
end Den
namespace Den
open PySem L2 StX
section
variable {X : Cx} {CX : CXT} {k : Nat} {f C : Addr} {sp : Sp} {E : St → XK} {x : Str} {e : Expr} {es : List Expr} {t : TA} {p pos : Pos}
end
section
variable {c : Cfg} {E : St → XK}
end
end Den
namespace PL
open PySem L2 Den
noncomputable section
end
end PL
namespace Den
open PySem L2 ItX
section
variable {c : Cfg} {E : St → XK}
def mlistO (C : Addr) (f : Str) (a : M (List D)) : M (List D) := mbind a fun ds => match ds with
  | [d] => mlift (itOwn C f d)
  | _ => fun _ _ => .bad
@[simp] theorem mlistO_ev (C : Addr) (f : Str) (a : M (List D)) (l : Loc) (p : List Int) {d : D} {p' : List Int} (h : a l p = .ok [d] p') : mlistO C f a l p = mlift (itOwn C f d) l p' := by
  unfold mlistO
  rw [mbind_ok h]
end
end Den
namespace PL
open PySem L2 Den
noncomputable section
end
end PL
namespace Den
open PySem L2
section
variable {c : Cfg} {E : St → XK}
theorem Rel.lend {G0 H0 G H : Hp} {σ : St} {l : Loc} {pot : List Int} {i : Nat} {ds : List D} (r : Rel c G0 H0 G H σ l pot) (hc : l[i]? = some (some (.cell ds))) :
    ∃ p vs, G p = none ∧ H p = some (.lst vs) ∧ ¬ c.B p ∧ Rel c G0 H0 (upd G p (.lst vs)) H σ (l.set i (some (.dat (.lst ds)))) pot := by
  have q := r.slot i _ hc
  have hi : i < l.length := (List.getElem?_eq_some_iff.mp hc).1
  cases ho : σ[i]? with
  | none => rw [ho] at q; exact q.elim
  | some o =>
    cases o with
    | none => rw [ho] at q; exact q.elim
    | some v =>
      cases v with
      | ref p =>
        rw [ho] at q
        obtain ⟨vs, h1, h2, h3, h4⟩ := q
        have hP : ¬ c.B p := fun z => r.hP p z h4
        have r1 : Rel c G0 H0 G H σ (l.set i none) pot := by
          refine ⟨r.stp, r.pot, r.gP, r.hP, by rw [List.length_set, r.len], fun j x e => ?_, fun j k x y e1 e2 o1 o2 ne => ?_⟩
          · by_cases z : j = i
            · subst z; rw [List.getElem?_set_self hi] at e; cases e
            · rw [List.getElem?_set_ne (Ne.symm z)] at e; exact r.slot j x e
          · have nn : ∀ (m : Nat) (x : L), (l.set i none)[m]? = some (some x) → m ≠ i := fun m x e z => by
              subst z; rw [List.getElem?_set_self hi] at e; cases e
            have nj := nn j x e1
            have nk := nn k y e2
            rw [List.getElem?_set_ne (Ne.symm nj)] at e1
            rw [List.getElem?_set_ne (Ne.symm nk)] at e2
            exact r.dist j k x y e1 e2 o1 o2 ne
        have r2 := Rel.freeze r1 h1 h4 hP (fun j x e o z => by
          have nj : j ≠ i := fun w => by subst w; rw [List.getElem?_set_self hi] at e; cases e
          rw [List.getElem?_set_ne (Ne.symm nj)] at e
          exact r.dist j i _ _ e hc o rfl nj (by rw [z, ho])) h3
        have r3 := Rel.set (i := i) r2 (v := .ref p) (d := .lst ds) (.lst upd_same (AtL.mono (Ex.new h3) h2)) (by rw [List.length_set]; exact hi)
        have e1 : σ.set i (some (.ref p)) = σ := by
          have hσ : i < σ.length := by rw [r.len]; exact hi
          refine List.ext_getElem? fun j => ?_
          by_cases z : j = i
          · subst z; rw [List.getElem?_set_self hσ, ho]
          · rw [List.getElem?_set_ne (Ne.symm z)]
        rw [e1, List.set_set] at r3
        exact ⟨p, vs, h3, h1, hP, r3⟩
      | _ => rw [ho] at q; exact q.elim
/-- what stands, but for p -/
def less (G : Hp) (p : Addr) : Hp := fun q => if q = p then none else G q
theorem less_some {G : Hp} {p q : Addr} {o : HO} (h : less G p q = some o) : q ≠ p ∧ G q = some o := by
  unfold less at h
  by_cases z : q = p
  · rw [if_pos z] at h; cases h
  · rw [if_neg z] at h; exact ⟨z, h⟩
theorem Stp.back {G H G2 H2 : Hp} {p : Addr} {o : HO} (gp : G p = none) (s : Stp c.B (upd G p o) H G2 H2) : Stp c.B G H (less G2 p) H2 := by
  refine ⟨fun a u e => ?_, fun a u e => s.gh a u (less_some e).2, s.keep, s.there, fun a u e => ?_⟩
  · have ne : a ≠ p := fun z => by rw [z, gp] at e; cases e
    show (if a = p then none else G2 a) = some u
    rw [if_neg ne]
    exact s.gg a u (by rw [upd_ne ne]; exact e)
  · obtain ⟨ne, e2⟩ := less_some e
    rcases s.new a u e2 with z | z
    · rw [upd_ne ne] at z; exact .inl z
    · exact .inr z
def mlendG {β : Type} (i : Nat) (ok : β → Bool) (e : M β) : M β := fun l p => match Den.cellOf i l with
  | some ds => (match e (l.set i (some (.dat (.lst ds)))) p with
    | .ok b q => if ok b = true then .ok b q else .bad
    | _ => .bad)
  | none => .bad
theorem sn_lend {α β : Type} {rel : Hp → α → β → Prop} {t : St → Hp → (α → Hp → Prop) → Prop} {e : M β} {i : Nat} {ok : β → Bool} (free : ∀ G G' a b, ok b = true → rel G a b → rel G' a b) (h : Sn c E rel t e) : Sn c E rel t (mlendG i ok e) := by
  intro G0 H0 G H σ l pot r Q post
  unfold mlendG at post
  cases ec : Den.cellOf i l with
  | none => rw [ec] at post; exact post.elim
  | some ds =>
    rw [ec] at post
    dsimp only at post
    obtain ⟨p, vs, gp, hp, hP, r'⟩ := r.lend (cellOf_at ec)
    refine h _ _ _ _ _ _ _ r' Q ?_
    cases e1 : e (l.set i (some (.dat (.lst ds)))) pot with
    | ok b q =>
      rw [e1] at post
      dsimp only at post
      by_cases z : ok b = true
      · rw [if_pos z] at post
        exact fun a G2 H2 s2 r2 ra => post a _ H2 (s2.back gp) (r.step (s2.back gp) r2.pot) (free _ _ _ _ z ra)
      · rw [if_neg z] at post; exact post.elim
    | err n q => rw [e1] at post; exact post.elim
    | bad => rw [e1] at post; exact post.elim
def scalD : D → Bool
  | .non => true
  | .bl _ => true
  | .int _ => true
  | .str _ => true
  | .ty _ => true
  | .cls _ => true
  | _ => false
theorem scalD_free {P : Addr} {G G' : Hp} {v : V} {d : D} (h : scalD d = true) (a : At P G v d) : At P G' v d := by
  cases a with
  | non => exact .non
  | bl b => exact .bl b
  | int i => exact .int i
  | str x => exact .str x
  | ty n => exact .ty n
  | cls C => exact .cls C
  | _ => cases h
/-- an expression that tells something flat, while the list is lent -/
def mlend (i : Nat) (e : M D) : M D := mlendG i scalD e
theorem se_lend {i : Nat} {t : TE} {e : M D} (h : SE c E t e) : SE c E t (mlend i e) := sn_lend (fun _ _ _ _ z a => scalD_free z a) h
def mlendT (i : Nat) (e : M Bool) : M Bool := mlendG i (fun _ => true) e
theorem st_lend {i : Nat} {t : TT} {e : M Bool} (h : ST c E t e) : ST c E t (mlendT i e) := sn_lend (fun _ _ _ _ _ a => a) h
theorem cellOf_ev {i : Nat} {l : Loc} {ds : List D} (h : l[i]? = some (some (.cell ds))) : Den.cellOf i l = some ds := by
  unfold Den.cellOf
  rw [h]
theorem mlendG_ev {β : Type} {i : Nat} {ok : β → Bool} {e : M β} {l : Loc} {p q : List Int} {ds : List D} {b : β} (hc : l[i]? = some (some (.cell ds))) (h : e (l.set i (some (.dat (.lst ds)))) p = .ok b q) (hb : ok b = true) : mlendG i ok e l p = .ok b q := by
  unfold mlendG
  rw [cellOf_ev hc]
  simp only [h, hb, if_true]
end
end Den
namespace Den
open PySem L2
section
variable {X : Cx}
def tLk (t : TE) : TE := fun σ H Q => t σ H fun v H1 => ∃ d u, v = .ref d ∧ H1 d = some u ∧ Mut (some u) ∧ ∀ od, Q v (upd H1 d (.frz od u))
theorem pe_lk {e : Expr} {t : TE} (h : PE X e t) : PE X e (tLk t) := by
  refine ⟨fun pins s σ H Q I hw => ?_⟩
  refine thn (h.run pins s σ _ _ I hw) fun v s1 ⟨x, H1, I1, r, d, u, ex, hd, mu, q⟩ => ?_
  obtain ⟨od, I2⟩ := I1.lock hd mu
  exact ⟨x, _, I2, r, q od⟩
def rInDc : R2 := fun x y H Q => ∃ a o, y = .ref a ∧ DGet H a x o ∧ Q (.bl o.isSome) H
def rNotInDc : R2 := fun x y H Q => ∃ a o, y = .ref a ∧ DGet H a x o ∧ Q (.bl (!o.isSome)) H
theorem op_inDc (hu : X.A.units + 1 < cLine) : OpR X (compareOp .In) rInDc := by
  intro pins s σ H x y v u Q I rx ry h
  obtain ⟨a, o, rfl, g, q⟩ := h
  cases ry
  exact d_in hu I g rx fun s' I' => ⟨.bl _, H, I', rfl, q⟩
theorem op_notInDc (hu : X.A.units + 1 < cLine) : OpR X (compareOp .NotIn) rNotInDc := by
  intro pins s σ H x y v u Q I rx ry h
  obtain ⟨a, o, rfl, g, q⟩ := h
  cases ry
  exact d_notIn hu I g rx fun s' I' => ⟨.bl _, H, I', rfl, q⟩
def rLenDc : List V → Hp → VK → Prop := fun xs H Q => ∃ a kvs, xs = [V.ref a] ∧ Rd H a (.dK kvs) ∧ Q (.int kvs.length) H
theorem call_lenDc : CallR X (.builtin "len") rLenDc := by
  intro pins s σ H xs us Q I r h
  obtain ⟨a, kvs, rfl, ha, q⟩ := h
  obtain ⟨u, rfl, ru⟩ := vals1 r
  cases ru
  exact d_len I ha fun t s' I' => ⟨.int kvs.length, H, I', ⟨t, rfl⟩, q⟩
def rSortDc : List V → Hp → VK → Prop := fun xs H Q => ∃ (a : Addr) (kvs : List (Key × V)) (ks : List Int), xs = [.ref a] ∧ Rd H a (.dK kvs) ∧ kvs.map (·.1) = ks.map Sum.inl ∧ ks.length < 64 ∧
    ∀ (ys : List Int) (p : Addr), ys.Perm ks → ys.Pairwise (· ≤ ·) → H p = none → Q (.ref p) (upd H p (.lst (ys.map V.int)))
theorem call_sortDc (hc : X.calm = true) : CallR X (.builtin "sorted") rSortDc := call_sortedDI hc
end
section
variable {c : Cfg} {E : St → XK}
def dturn (t : M Bool) (k v : M D) : M (Option (Int × V)) := mbind t fun b => if b = true then mbind k fun kd => mbind v fun vd => (match kd, sc vd with
  | .int n, some x => mret (some (n, x))
  | _, _ => fun _ _ => .bad) else mret none
def dcomp (i : Nat) (t : M Bool) (k v : M D) : List D → List (Key × V) → M D
  | [], acc => mret (.dct acc)
  | d :: ds, acc => fun l p => if i < l.length then (match dturn t k v (l.set i (some (.dat d))) p with
    | .ok none p' => dcomp i t k v ds acc l p'
    | .ok (some (n, x)) p' => dcomp i t k v ds (putK acc (Sum.inl n) x) l p'
    | _ => .bad) else .bad
def mdc (a : M (List D)) (i : Nat) (t : M Bool) (k v : M D) : M D := mbind a fun ds => if ds.length ≤ 1000 then dcomp i t k v ds [] else fun _ _ => .bad
theorem putK_len {κ : Type} [DecidableEq κ] (kvs : List (κ × V)) (k : κ) (v : V) : (putK kvs k v).length ≤ kvs.length + 1 := by
  unfold putK
  split
  · rw [List.length_map]; omega
  · rw [List.length_append]; simp
theorem se_dc {wi : TI} {i : Nat} {tt : TT} {tk tv : TE} {a : M (List D)} {t : M Bool} {k v : M D} (ha : SI c E wi a) (ht : ST c (fun _ => E0) tt t) (hk : SE c (fun _ => E0) tk k) (hv : SE c (fun _ => E0) tv v) : SE c E (tLk (tDc wi (gName i) tt tk tv [i])) (mdc a i t k v) := by
  intro G0 H0 G H σ l pot r Q post
  show tDc wi (gName i) tt tk tv [i] σ H _
  refine Sn.go ha r post fun J ds p G1 H1 s1 r1 w post1 => ?_
  split at post1
  · rename_i hlen
    intro Dl hD
    have hPD : ∀ a, c.B a → a ≠ Dl := fun a b z => r1.hp a b (by rw [z]; exact hD)
    have hG1 : G1 Dl = none := by
      cases eg : G1 Dl with
      | none => rfl
      | some u => have := r1.stp.gh Dl u eg; rw [hD] at this; cases this
    refine ⟨fun j m H => m = ds.length - j ∧ j ≤ ds.length ∧ ∃ G p acc, Stp c.B G1 H1 G H ∧ c.inv p H ∧ H Dl = some (.dK acc) ∧ G Dl = none ∧ acc.length ≤ j ∧ Post c E (rD c) G0 H0 G1 H1 σ l (dcomp i t k v (ds.drop j) acc l p) Q,
      ⟨_, rfl, Nat.zero_le _, G1, p, [], Stp.lay0 r1.stp.gh hD, c.ext (fun a b => upd_ne (hPD a b)) r1.pot, upd_same, hG1, Nat.le_refl _, post1⟩, ?_⟩
    rintro j m H ⟨rfl, hj, G, p, acc, sG, hp, hDl, hG, hl, post⟩
    by_cases hlt : j < ds.length
    · refine .inr ⟨w.go j H (sG.gg.trans sG.gh) hlt, fun H => ∃ G p acc, Stp c.B G1 H1 G H ∧ c.inv p H ∧ H Dl = some (.dK acc) ∧ G Dl = none ∧ acc.length ≤ j + 1 ∧ Post c E (rD c) G0 H0 G1 H1 σ l (dcomp i t k v (ds.drop (j + 1)) acc l p) Q,
        fun H' ⟨G, p, acc, h⟩ => ⟨_, by omega, rfl, hlt, G, p, acc, h⟩, fun x H' y => ?_⟩
      obtain ⟨d, G3, ed, s3, hP3, ad⟩ := w.yld j H x H' (sG.gg.trans sG.gh) hlt (c.full hp) y G sG.gg sG.gh
      have edr : ds.drop j = d :: ds.drop (j + 1) := by
        obtain ⟨h1, h2⟩ := List.getElem?_eq_some_iff.mp ed
        rw [List.drop_eq_getElem_cons h1, h2]
      rw [edr] at post
      unfold dcomp at post
      by_cases hi : i < l.length
      · rw [if_pos hi] at post
        have s13 := sG.trans s3
        have r3 : Rel c G0 H0 G3 H' σ l p := r1.step s13 (c.ext hP3 hp)
        have hDl3 : H' Dl = some (.dK acc) := s3.keep Dl _ hDl (fun b => hPD _ b rfl)
        have noD : ∀ {Ga Ha Gb Hb : Hp}, Stp c.B Ga Ha Gb Hb → Ga Dl = none → Ha Dl ≠ none → Gb Dl = none := fun {Ga Ha Gb Hb} s h1 h2 => by
          cases eg : Gb Dl with
          | none => rfl
          | some u =>
            rcases s.new Dl u eg with z | z
            · rw [h1] at z; cases z
            · exact absurd z h2
        have hG3 := noD s3 hG (by rw [hDl]; exact fun z => nomatch z)
        have r4 : Rel c G0 H0 G3 H' (σ.set i (some x)) (l.set i (some (.dat d))) p := r3.set ad hi
        show (gName i) x (wipe σ [i]) H' _
        have ew : (wipe σ [i]).set i (some x) = σ.set i (some x) := by
          show (σ.set i none).set i (some x) = σ.set i (some x)
          rw [List.set_set]
        show wipe ((wipe σ [i]).set i (some x)) [i] = wipe σ [i] ∧ tt ((wipe σ [i]).set i (some x)) H' _
        rw [ew]
        refine ⟨by show (σ.set i (some x)).set i none = σ.set i none; rw [List.set_set], ?_⟩
        refine ht _ _ _ _ _ _ _ r4 _ ?_
        unfold dturn at post
        cases e1 : t (l.set i (some (.dat d))) p with
        | err n p1 => rw [mbind_err e1] at post; exact post.elim
        | bad => rw [mbind_bad e1] at post; exact post.elim
        | ok b p1 =>
          rw [mbind_ok e1] at post
          intro b' G5 H5 s5 r5 eb
          subst eb
          have s15 := s13.trans s5
          have hDl5 : H5 Dl = some (.dK acc) := s5.keep Dl _ hDl3 (fun b => hPD _ b rfl)
          have hG5 := noD s5 hG3 (by rw [hDl3]; exact fun z => nomatch z)
          cases b' with
          | false =>
            rw [if_neg Bool.false_ne_true]
            rw [if_neg Bool.false_ne_true] at post
            exact ⟨G5, p1, acc, s15, r5.pot, hDl5, hG5, Nat.le_succ_of_le hl, post⟩
          | true =>
            rw [if_pos rfl]
            rw [if_pos rfl] at post
            refine hk _ _ _ _ _ _ _ r5 _ ?_
            cases e2 : k (l.set i (some (.dat d))) p1 with
            | err n p2 => rw [mbind_err e2] at post; exact post.elim
            | bad => rw [mbind_bad e2] at post; exact post.elim
            | ok kd p2 =>
              rw [mbind_ok e2] at post
              intro kx G6 H6 s6 r6 ak
              have hDl6 : H6 Dl = some (.dK acc) := s6.keep Dl _ hDl5 (fun b => hPD _ b rfl)
              have hG6 := noD s6 hG5 (by rw [hDl5]; exact fun z => nomatch z)
              refine hv _ _ _ _ _ _ _ r6 _ ?_
              cases e3 : v (l.set i (some (.dat d))) p2 with
              | err n p3 => rw [mbind_err e3] at post; exact post.elim
              | bad => rw [mbind_bad e3] at post; exact post.elim
              | ok vd p3 =>
                rw [mbind_ok e3] at post
                intro vx G7 H7 s7 r7 av
                have hDl7 : H7 Dl = some (.dK acc) := s7.keep Dl _ hDl6 (fun b => hPD _ b rfl)
                have hG7 := noD s7 hG6 (by rw [hDl6]; exact fun z => nomatch z)
                have s17 := (s15.trans s6).trans s7
                cases kd with
                | int n =>
                  cases e4 : sc vd with
                  | none => rw [e4] at post; exact post.elim
                  | some x2 =>
                    rw [e4] at post
                    have ev := sc_at av e4
                    subst ev
                    cases ak
                    refine ⟨acc, Sum.inl n, rfl, hDl7, Nat.lt_of_le_of_lt hl (Nat.lt_of_lt_of_le hlt (Nat.le_trans hlen (by rw [sizeLine_eq]; decide))), G7, p3, putK acc (Sum.inl n) vx, ?_, c.ext (fun a b => upd_ne (hPD a b)) r7.pot, upd_same, hG7, Nat.le_trans (putK_len acc _ _) (Nat.succ_le_succ hl), post⟩
                    refine ⟨s17.gg, fun b o e => ?_, fun b o e ne => ?_, fun b e => ?_, s17.new⟩
                    · rw [upd_ne (fun z => by subst z; rw [hG7] at e; cases e)]; exact s17.gh b o e
                    · rw [upd_ne (fun z => by subst z; rw [hD] at e; cases e)]; exact s17.keep b o e ne
                    · by_cases z : b = Dl
                      · subst z; exact hD
                      · rw [upd_ne z] at e; exact s17.there b e
                | _ => exact post.elim
      · rw [if_neg hi] at post; exact post.elim
    · have ej : j = ds.length := by omega
      subst ej
      rw [List.drop_length] at post
      refine .inl ⟨w.stop _ H (sG.gg.trans sG.gh) rfl, Dl, .dK acc, rfl, hDl, True.intro, fun od => ?_⟩
      have sF : Stp c.B G1 H1 (upd G Dl (.frz od (.dK acc))) (upd H Dl (.frz od (.dK acc))) := by
        refine ⟨fun b o e => ?_, fun b o e => ?_, fun b o e ne => ?_, fun b e => ?_, fun b o e => ?_⟩
        · rw [upd_ne (fun z => by subst z; rw [hG1] at e; cases e)]; exact sG.gg b o e
        · by_cases z : b = Dl
          · subst z; rw [upd_same] at e; rw [upd_same]; exact e
          · rw [upd_ne z] at e; rw [upd_ne z]; exact sG.gh b o e
        · rw [upd_ne (fun z => by subst z; rw [hD] at e; cases e)]; exact sG.keep b o e ne
        · by_cases z : b = Dl
          · subst z; exact hD
          · rw [upd_ne z] at e; exact sG.there b e
        · by_cases z : b = Dl
          · subst z; exact .inr hD
          · rw [upd_ne z] at e; exact sG.new b o e
      exact post (.ref Dl) _ _ sF (r1.step sF (c.ext (fun a b => upd_ne (hPD a b)) hp)) (.dct upd_same)
  · exact post1.elim
theorem at_dct {P : Addr} {G : Hp} {x : V} {kvs : List (Key × V)} (h : At P G x (.dct kvs)) : ∃ p o, x = .ref p ∧ G p = some (.frz o (.dK kvs)) := by
  cases h with
  | dct h => exact ⟨_, _, rfl, h⟩
def fInDc (neg : Bool) (x y : D) : Option D := match x, y with
  | .int n, .dct kvs => some (.bl (if neg then !(valV kvs (Sum.inl n)).isSome else (valV kvs (Sum.inl n)).isSome))
  | _, _ => none
theorem s2_inDc : S2 c rInDc (fInDc false) := ⟨fun G H x y dx dy d gh _ hx hy e => by
  unfold fInDc at e
  split at e
  · cases e
    cases hx
    obtain ⟨p, o, rfl, h⟩ := at_dct hy
    exact ops_pure gh (.bl _) fun Q q => ⟨p, _, rfl, .inl ⟨_, _, .inr ⟨o, gh _ _ h⟩, rfl, rfl⟩, q⟩
  · cases e⟩
theorem s2_ninDc : S2 c rNotInDc (fInDc true) := ⟨fun G H x y dx dy d gh _ hx hy e => by
  unfold fInDc at e
  split at e
  · cases e
    cases hx
    obtain ⟨p, o, rfl, h⟩ := at_dct hy
    exact ops_pure gh (.bl _) fun Q q => ⟨p, _, rfl, .inl ⟨_, _, .inr ⟨o, gh _ _ h⟩, rfl, rfl⟩, q⟩
  · cases e⟩
def fLenDc : List D → Option D
  | [.dct kvs] => some (.int kvs.length)
  | _ => none
theorem sn_lenDc : SN c rLenDc fLenDc := ⟨fun G H xs ds d gh _ hx e => by
  unfold fLenDc at e
  split at e
  · obtain ⟨x, rfl, hx1⟩ := atl1 hx
    cases e
    obtain ⟨p, o, rfl, h⟩ := at_dct hx1
    exact ops_pure gh (.int _) fun Q q => ⟨p, _, rfl, .inr ⟨o, gh _ _ h⟩, q⟩
  · cases e⟩
/-- the keys that are ints -/
def keysI : List (Key × V) → Option (List Int)
  | [] => some []
  | (Sum.inl n, _) :: kvs => (keysI kvs).map (n :: ·)
  | (Sum.inr _, _) :: _ => none
theorem keysI_is : ∀ {kvs : List (Key × V)} {ks : List Int}, keysI kvs = some ks → kvs.map (·.1) = ks.map Sum.inl
  | [], ks, e => by cases e; rfl
  | (Sum.inl n, v) :: kvs, ks, e => by
    unfold keysI at e
    cases h : keysI kvs with
    | none => rw [h] at e; cases e
    | some ms => rw [h] at e; cases e; rw [List.map_cons, keysI_is h]; rfl
  | (Sum.inr _, _) :: _, ks, e => by cases e
/-- ints, in ascending order -/
def insW (k : Int) : List Int → List Int
  | [] => [k]
  | n :: ns => if k ≤ n then k :: n :: ns else n :: insW k ns
def sortW : List Int → List Int
  | [] => []
  | n :: ns => insW n (sortW ns)
theorem insW_perm (k : Int) : ∀ ns : List Int, (insW k ns).Perm (k :: ns)
  | [] => .refl _
  | n :: ns => by
    unfold insW
    split
    · exact .refl _
    · exact (List.Perm.cons n (insW_perm k ns)).trans (.swap k n ns)
theorem sortW_perm : ∀ ns : List Int, (sortW ns).Perm ns
  | [] => .refl _
  | n :: ns => (insW_perm n _).trans (.cons n (sortW_perm ns))
theorem insW_asc {k : Int} : ∀ {ns : List Int}, ns.Pairwise (· ≤ ·) → (insW k ns).Pairwise (· ≤ ·)
  | [], _ => by simp [insW]
  | n :: ns, h => by
    unfold insW
    cases h with
    | cons h1 h2 =>
      split
      · rename_i z
        exact .cons (fun a ha => by
          rcases List.mem_cons.mp ha with rfl | ha
          · exact z
          · exact Int.le_trans z (h1 a ha)) (.cons h1 h2)
      · rename_i z
        exact .cons (fun a ha => by
          rcases List.mem_cons.mp ((insW_perm k ns).mem_iff.mp ha) with rfl | ha
          · omega
          · exact h1 a ha) (insW_asc h2)
theorem sortW_asc : ∀ ns : List Int, (sortW ns).Pairwise (· ≤ ·)
  | [] => .nil
  | n :: ns => insW_asc (sortW_asc ns)
theorem asc_perm : ∀ {r s : List Int}, r.Perm s → r.Pairwise (· ≤ ·) → s.Pairwise (· ≤ ·) → r = s
  | [], s, h, _, _ => (List.nil_perm.mp h).symm ▸ rfl
  | a :: r, [], h, _, _ => by have := h.length_eq; simp at this
  | a :: r, b :: s, h, hr, hs => by
    have e : a = b := by
      cases hr with
      | cons hr1 _ =>
        cases hs with
        | cons hs1 _ =>
          rcases List.mem_cons.mp (h.mem_iff.mp List.mem_cons_self) with e | e
          · exact e
          · rcases List.mem_cons.mp (h.mem_iff.mpr List.mem_cons_self) with e2 | e2
            · exact e2.symm
            · have := hs1 a e; have := hr1 b e2; omega
    subst e
    rw [asc_perm (List.Perm.cons_inv h) hr.of_cons hs.of_cons]
def msortDc (a : M (List D)) : M (List D) := mbind a fun ds => match ds with
  | [.dct kvs] => mlift ((keysI kvs).bind fun ks => if ks.length < 64 then some ((sortW ks).map .int) else none)
  | _ => fun _ _ => .bad
theorem sen_sortDc {t : TA} {a : M (List D)} (ha : SA c E t a) : SEN c E (tCB rSortDc t) (msortDc a) := by
  intro G0 H0 G H σ l pot r Q post
  refine Sn.goN ha r post fun x dx p G1 H1 s1 r1 hx post1 => ?_
  split at post1
  · obtain ⟨y, rfl, hy⟩ := atl1 hx
    obtain ⟨q, o, rfl, h⟩ := at_dct hy
    rename_i kvs
    cases e : keysI kvs with
    | none => rw [e] at post1; exact post1.elim
    | some ks =>
      rw [e] at post1
      dsimp only [Option.bind_some] at post1
      by_cases z : ks.length < 64
      · rw [if_pos z] at post1
        refine ⟨q, kvs, ks, rfl, .inr ⟨o, r1.stp.gh _ _ h⟩, keysI_is e, z, fun ys p2 hp ha hn => ?_⟩
        have ey : ys = sortW ks := asc_perm (hp.trans (sortW_perm ks).symm) ha (sortW_asc ks)
        subst ey
        exact sen_of r1 (AtL.ints) post1 p2 hn
      · rw [if_neg z] at post1; exact post1.elim
  · exact post1.elim
def keysOf : D → Option (List D)
  | .dct kvs => (keysI kvs).map fun ks => ks.map .int
  | _ => none
theorem walks_keys {G : Hp} {a : Addr} {o : Obj} {kvs : List (Key × V)} {ks : List Int} (h : G a = some (.frz o (.dK kvs))) (e : keysI kvs = some ks) : Walks c (Itk a o kvs) (ks.map .int) G := by
  have hm := keysI_is e
  have hl : kvs.length = ks.length := by have := congrArg List.length hm; simpa using this
  refine ⟨fun i H e2 z => ⟨e2 _ _ h, by rw [List.length_map] at z; omega⟩, fun i H e2 z => ⟨e2 _ _ h, by rw [List.length_map] at z; omega⟩, fun i H x H' e2 z hP y G2 g1 g2 => ?_⟩
  obtain ⟨rfl, k, v, hk, rfl⟩ := y
  rw [List.length_map] at z
  have hk2 : (kvs.map (·.1))[i]? = some k := by rw [List.getElem?_map, hk]; rfl
  rw [hm, List.getElem?_map, List.getElem?_eq_getElem z] at hk2
  cases hk2
  exact ⟨.int ks[i], G2, by rw [List.getElem?_map, List.getElem?_eq_getElem z]; rfl, Stp.refl g2, fun _ _ => rfl, .int _⟩
theorem si_keys {t : TE} {a : M D} (ha : SE c E t a) : SI c E (iKeys t) (mbind a fun x => mlift (keysOf x)) := by
  intro G0 H0 G H σ l pot r Q post
  refine Sn.go ha r post fun x dx p G1 H1 s1 r1 hx post1 => ?_
  obtain ⟨ds, e, post2⟩ := post_lift0 post1
  cases dx with
  | dct kvs =>
    obtain ⟨q, o, rfl, h⟩ := at_dct hx
    unfold keysOf at e
    dsimp only at e
    cases e1 : keysI kvs with
    | none => rw [e1] at e; cases e
    | some ks =>
      rw [e1] at e
      cases e
      exact ⟨q, o, rfl, .inl ⟨kvs, r1.stp.gh _ _ h, Post.ok post2 r1 (walks_keys h e1)⟩⟩
  | _ => cases e
end
end Den
namespace Den
open PySem L2
section
variable {c : Cfg} {E : St → XK}
/-- xs.extend(ys), xs one's own -/
def sextend (i : Nat) (a : M D) : MS := fun l p => match l[i]? with
  | some (some (.cell ds)) => sbind a (fun x l p => match x with
    | .lst es => if ds.length + es.length ≤ 1000 then .nx (l.set i (some (.cell (ds ++ es)))) p else .bad
    | _ => .bad) l p
  | _ => .bad
theorem ss_extend {i : Nat} {t : TE} {a : M D} (ha : SE c E t a) : SS c E (tDrop (tBM c.K "list" rExtend (tVar i) (tCons t tNil))) (sextend i a) := by
  intro G0 H0 G H σ l pot r De post
  unfold sextend at post
  split at post
  · rename_i ds hc
    obtain ⟨p, vs, hσ, h1, h2⟩ := cell_at r hc
    refine ⟨.ref p, hσ, .inl ⟨rfl, _, .inl (.inl h1)⟩, ?_⟩
    refine Sn.goS ha r post fun x dx p' G1 H1 s1 r1 hx post1 => ?_
    obtain ⟨p2, vs2, hσ2, g1, g2⟩ := cell_at r1 hc
    rw [hσ] at hσ2
    cases hσ2
    cases dx with
    | lst es =>
      dsimp only at post1
      split at post1
      · rename_i z
        obtain ⟨q, ws, rfl, hq, al⟩ := at_lst hx
        refine ⟨p, q, vs2, ws, rfl, rfl, g1, r1.stp.gh _ _ hq, ?_, ?_⟩
        · rw [AtL.length g2, AtL.length al]; exact Nat.le_trans z (by rw [sizeLine_eq]; decide)
        · exact PostS.of post1 (r1.write hc hσ (AtL.append g2 al))
      · exact post1.elim
    | _ => exact post1.elim
  · exact post.elim
end
end Den
namespace Den
open PySem L2
section
variable {c : Cfg} {E : St → XK}
end
end Den
namespace PL
open PySem L2 Den
noncomputable section
def L_stays_off_1 : MS := (sif (mtest (op2 (fInDc true) (mvar 3) (mvar 2))) (sret (mret (D.bl false))) sskip)
def b_stays_off_1 (A : CA) : MS := (sfor (mbind (op2 fIx (mfld A.Web "_first" (mvar 0)) (mvar 1)) fun x => mlift (tupOf x)) (gset 3) L_stays_off_1)
def b_stays_off_2 (A : CA) : MS := (sif (mor (mnot (mtru (op2 fIx (mfld A.Web "_first" (mvar 0)) (mvar 1)))) (mtest (op2 fEq (op2 fIx (mfld A.Web "_marks" (mvar 0)) (mvar 1)) (mret (D.int 1))))) (sret (mret (D.bl true))) sskip)
def L_stays_off_3 : MS := (sif (mtest (op2 (fInDc false) (mvar 3) (mvar 2))) (sret (mret (D.bl true))) sskip)
def b_stays_off_3 (A : CA) : MS := (sfor (mbind (op2 fIx (mfld A.Web "_second" (mvar 0)) (mvar 1)) fun x => mlift (tupOf x)) (gset 3) L_stays_off_3)
def dn_stays_off (A : CA) : MS := (sseq (b_stays_off_1 A)
    (sseq (b_stays_off_2 A)
    (sseq (b_stays_off_3 A)
    (sret (mret (D.bl false))))))
def D_stays_off (A : CA) : RF := denF 3 4 (dn_stays_off A)
def b_kept_off_1 (A : CA) : MS := (sdrop (mcall (D_check_web A) (acons (mvar 0) anil)))
def k_kept_off_1 (A : CA) : M D := (mdc (mbind (acons (mfld A.Web "_size" (mvar 0)) anil) fun x => mlift (rng1 x)) 2 (mtest (op2 fIsN (op2 fIx (mfld A.Web "_dues" (mvar 0)) (mvar 2)) (mret D.non))) (mvar 2) (mret (D.bl true)))
def b_kept_off_4w1 : MS := (sasg (opn fLenDc (acons (mvar 1) anil)) (gset 3))
def k_kept_off_2 (A : CA) : M D := (mdc (mbind (mvar 1) fun x => mlift (keysOf x)) 2 (mtru (mcall (D_stays_off A) (acons (mvar 0) (acons (mvar 2) (acons (mvar 1) anil))))) (mvar 2) (mret (D.bl true)))
def W_kept_off_4 (A : CA) : MS := (sseq b_kept_off_4w1
    (sasg (k_kept_off_2 A) (gset 1)))
def b_kept_off_4 (A : CA) : MS := (swhile (mtest (op2 fNe (mvar 3) (opn fLenDc (acons (mvar 1) anil)))) (W_kept_off_4 A))
def b_kept_off_5 : MS := (sret (opn fTuple (acons (mfreeze (msortDc (acons (mvar 1) anil))) anil)))
def dn_kept_off (A : CA) : MS := (sseq (b_kept_off_1 A)
    (sseq (sasg (k_kept_off_1 A) (gset 1))
    (sseq (sasg (op1 fNeg (mret (D.int 1))) (gset 3))
    (sseq (b_kept_off_4 A)
    b_kept_off_5))))
def D_kept_off (A : CA) : RF := denF 1 4 (dn_kept_off A)
end
end PL
namespace PL
open PySem L2 Den
noncomputable section
end
end PL
namespace Den
open PySem L2
section
variable {c : Cfg} {E : St → XK}
end
end Den
namespace Den
open PySem L2
section
variable {c : Cfg} {E : St → XK}
def insM (C : Addr) (m : Str) : D → Option D
  | .ins C' ns ds => if C' = C ∧ ns.contains m = false then some (.ins C' ns ds) else none
  | _ => none
def mmeth (C : Addr) (m : Str) (f : RF) (a : M D) (b : M (List D)) : M D := mbind a fun d => mbind (mlift (insM C m d)) fun x => mbind b fun ys _ p => f (x :: ys) p
end
section
variable {c : Cfg} {E : St → XK}
@[simp] theorem mmeth_ev (C : Addr) (m : Str) (f : RF) (a : M D) (b : M (List D)) (l : Loc) (p : List Int) : mmeth C m f a b l p = (a l p).bind fun d p' => (mlift (insM C m d) l p').bind fun x p'' => (b l p'').bind fun ys q => f (x :: ys) q := rfl
end
end Den
namespace L2
open PySem PySem.Spec PyProof.Rows
end L2
namespace Den
open PySem L2
end Den
namespace FX
open PySem L2 Den
noncomputable section
variable {K : PySem.W.Frag} {P : Program} {w : World} {mg : Str → Option Value} {base : Heap}
theorem pss_any {X : Cx} {st : List Stmt} : PSs X st (fun D σ H => ∃ t, PSs X st t ∧ t D σ H) := ⟨fun pins s σ H D I h => by
  obtain ⟨t, ht, h⟩ := h
  exact ht.run pins s σ H D I h⟩
def spLaw (K : PySem.W.Frag) : Sp := fun vs H Q _ => ∃ (a : Addr) (ns : List Int), vs = [.ref a] ∧ SqL K H a (ns.map V.int) ∧ ns.length ≤ 63 ∧ ∀ H', Q (.bl true) H'
/-- the slots of the law behind its first statement: the pot alone -/
def potLoc (m : Nat) : Den.Loc := none :: some (.dat .pot) :: List.replicate m none
theorem pot_rel {ec : Nat → Addr} {p : Addr} {H' : Hp} {pot : List Int} {m : Nat} {a : Addr} (hp : H' p = some (.lst (pot.map V.int))) : Rel (potCfg K p ec) (fun _ => none) H' (fun _ => none) H' (some (.ref a) :: some (.ref p) :: List.replicate m none) (potLoc m) pot := by
  have key : ∀ (i : Nat) (x : L), (potLoc m)[i]? = some (some x) → i = 1 ∧ x = .dat .pot := fun i x e => by
    match i, e with
    | 0, e => cases e
    | 1, e => cases e; exact ⟨rfl, rfl⟩
    | n + 2, e =>
      have e' : (List.replicate m (none : Option L))[n]? = some (some x) := e
      rw [List.getElem?_replicate] at e'
      split at e' <;> cases e'
  refine ⟨Stp.refl (fun _ _ z => nomatch z), hp, fun _ _ => rfl, fun a b z => (potCfg K p ec).full (p := pot) hp a b z, by simp [potLoc], fun i x e => ?_, fun i j x y e1 e2 o1 => ?_⟩
  · obtain ⟨rfl, rfl⟩ := key i x e
    exact At.pot
  · obtain ⟨rfl, rfl⟩ := key i x e1
    cases o1
theorem kitCls_at {t : Value} {C : Addr} {b : Bool} (i : PySem.W.isClsIn K C = true) (ty : PySem.W.typeIn K (.ref C) = some (.type "type")) (s : PySem.W.subIn K t (.ref C) = some b) : PySem.W.kitCls K t (.ref C) = some b := by
  have e : ((PySem.W.clsIn K C).isSome && PySem.W.typeIn K (.ref C) == some (.type "type")) = true := by
    rw [ty, show (PySem.W.clsIn K C).isSome = true from i]
    rfl
  unfold PySem.W.kitCls
  simp only [e, if_true]
  exact s
theorem exm_at {t : Value} {C : Addr} {b : Bool} (bp : PySem.W.subIn K (.ref C) (.type "BaseException") = some true) (i : PySem.W.isClsIn K C = true) (ty : PySem.W.typeIn K (.ref C) = some (.type "type")) (s : PySem.W.subIn K t (.ref C) = some b) : PySem.W.exmOne K t (.ref C) = some b := by
  unfold PySem.W.exmOne
  rw [if_pos (by rw [bp]; rfl)]
  exact kitCls_at i ty s
theorem sub_no {n : String} {C : Addr} (vs : List Value) (e : fastBuiltinMro n = some vs) (h : ∀ v ∈ vs, ∃ m, v = .type m) : PySem.W.subIn K (.type n) (.ref C) = some false := by
  show (fastBuiltinMro n).map (fun x => x.contains (Value.ref C)) = _
  rw [e]
  show some (vs.contains (Value.ref C)) = _
  congr 1
  cases hc : vs.contains (Value.ref C) with
  | false => rfl
  | true =>
    have := List.contains_iff_mem.mp hc
    obtain ⟨m, z⟩ := h _ this
    cases z
theorem clsF_at {C : Addr} (cl : Cls K C) (ha : PySem.W.findIn K (.ref C) "__class__" = some (some (.builtin "object.__class__"))) (i : PySem.W.isClsIn K C = true) (ty : PySem.W.typeIn K (.ref C) = some (.type "type")) (hm : PySem.W.mroIn K C (.type "object") = some true) : Den.ClsF K C := by
  have et : PySem.W.typeIn K (.builtin "object.__class__") = some (.type "getset_descriptor") := by
    show PySem.W.pureOf (fastBuiltinType "object.__class__") = _
    decide +kernel
  have kit : ∀ {n : String} (vs : List Value), fastBuiltinMro n = some vs → (∀ v ∈ vs, ∃ m, v = .type m) → PySem.W.kitOne K (.type n) (.ref C) = some false := fun vs e h => by
    unfold PySem.W.kitOne
    rw [if_neg (fun z => by cases (beq_iff_eq.mp z))]
    exact kitCls_at i ty (sub_no vs e h)
  refine ⟨cl, ha, ?_, ?_, hm, ?_, kit [.type "list", .type "object"] (by decide +kernel) ?_, kit [.type "tuple", .type "object"] (by decide +kernel) ?_, kit [.type "int", .type "object"] (by decide +kernel) ?_, kit [.type "bool", .type "int", .type "object"] (by decide +kernel) ?_, kit [.type "str", .type "object"] (by decide +kernel) ?_, kit [.type "NoneType", .type "object"] (by decide +kernel) ?_⟩
  · unfold PySem.W.specialIn
    rw [et]
    show PySem.fastLookup "getset_descriptor" "__get__" = _
    decide +kernel
  · unfold PySem.W.takesIn PySem.W.specialIn
    rw [et]
    have : PySem.W.findIn K (.type "getset_descriptor") "__set__" = some (some (.builtin "getset_descriptor.__set__")) := by
      show PySem.fastLookup "getset_descriptor" "__set__" = _
      decide +kernel
    simp only [Option.bind_some, this]
  · unfold PySem.W.kitOne
    rw [if_pos (by simp)]
  all_goals simp
theorem prop_at {C p g : Addr} {f : Str} {d : Option Addr} {vs : Array Value} {sl : Array (Option Value)} {rest : List Value} (at_ : PySem.W.findIn K (.ref C) f = some (some (.ref p))) (l : K.lookup p = some ⟨.type "property", d, .fields vs, sl⟩) (e : vs.toList = .ref g :: rest) : PropOf K C f p g := by
  have et : PySem.W.typeIn K (.ref p) = some (.type "property") := by
    show (K.lookup p).map (fun x => x.cls) = _
    rw [l]
    rfl
  refine ⟨at_, ?_, ?_, rest, ?_⟩
  · unfold PySem.W.specialIn
    rw [et]
    show PySem.fastLookup "property" "__get__" = _
    decide +kernel
  · unfold PySem.W.takesIn PySem.W.specialIn
    rw [et]
    have : PySem.W.findIn K (.type "property") "__set__" = some (some (.builtin "property.__set__")) := by
      show PySem.fastLookup "property" "__set__" = _
      decide +kernel
    simp only [Option.bind_some, this]
  · unfold PySem.W.recIn
    rw [l]
    show (if ("property" == "property") = true then some vs.toList else none) = _
    rw [if_pos (by decide), e]
def FnIn (K : PySem.W.Frag) (x qual : Str) (st : Stmt) (f : Addr) : Prop := ∃ fd, Fun K x qual st f fd
theorem fnIn_mk {x qual : Str} {st : Stmt} {f : Addr} {oc : Value} {od an : Option Addr} {osl : Array (Option Value)} {kV doc pm cdv ct : Value} (l : K.lookup f = some ⟨oc, od, .func (PySem.W.fnOf x qual (defArgs st) (defBody st) (defScope st) .none kV doc pm an cdv ct), osl⟩) (c : PySem.W.codeIn K cdv qual = true) (k : PySem.W.keepIn K (.ref f) = true) : FnIn K x qual st f := ⟨_, fun_mk (st := st) l c k⟩
end
end FX
namespace Den
open PySem L2
section
variable {X : Cx}
end
section
variable {c : Cfg} {E : St → XK}
/-- C.m(..), m a method of the class -/
def mcmeth (C : Addr) (f : RF) (b : M (List D)) : M D := mbind b fun ys _ p => f (.cls C :: ys) p
variable {P : Program} {w : World} {mg : Str → Option Value} {base : Heap}
end
section
variable {c : Cfg} {E : St → XK}
@[simp] theorem mcmeth_ev (C : Addr) (f : RF) (b : M (List D)) (l : Loc) (p : List Int) : mcmeth C f b l p = (b l p).bind fun ys q => f (.cls C :: ys) q := rfl
end
end Den
namespace FX
open PySem L2 Den
variable {K : PySem.W.Frag}
end FX
namespace DenM
open PySem PySem.Spec PyProof.Rows
section
variable {prog : Program} {w : World} {A : Around} {E : Value → Shared → Prop} {s : Shared} {l : Addr} {xs : Array (Int × Tok)} {d : Value}
theorem moved_same {wr : List Addr} {s s' : Shared} (m : Moved wr (fun a b => b = a) s s') : s' = { s with heap := s'.heap, toks := s'.toks } := by
  obtain ⟨h, g, dd, o, t⟩ := m
  cases s'
  cases s
  cases g
  cases dd
  cases o
  rfl
theorem min_listD {Q : Value → Shared → Prop} (hh : A.handled = none) (hl : s.heap.IsList l (intItems xs))
    (h0 : xs.size = 0 → ∀ h' tk, (∀ b o, s.heap.get? b = some o → h'.get? b = some o) → Q d { s with heap := h', toks := tk })
    (h : 0 < xs.size → ∀ v h' tk, (intItems xs)[argBest (fun i j => decide (numAt xs i < numAt xs j)) (xs.size - 1)]? = some v → (∀ b o, s.heap.get? b = some o → h'.get? b = some o) → Q v { s with heap := h', toks := tk }) :
    wpAny (model prog w) A (call (.builtin "min") [.ref l] [(Str.ofString "default", d)]) Q E s := by
  refine call_min_walkD (iter_intList hl fun s₂ e st hfp hlI => ?_)
  subst e
  refine ⟨_, _, _, _, _, _, _, s.heap, _, rfl, (Walks.list (A := A.in1) hh _ l hlI (intItems xs)).toS, st, hfp, (fun b o e hm => ?_), (fun b o e => Heap.get?_push_of_some _ e), fun hn s' hm => ?_, fun hn => ⟨fun i j vi vj s' Q E _ hi hj hq => CmpOf.ints_lt (numAt xs) (fun _ _ => intItems_at) i j vi vj s' Q E hi hj hq, fun v s' hP hm => ?_⟩⟩
  · rw [List.mem_singleton.mp hm] at e
    exact absurd (Heap.lt_size e) (Nat.lt_irrefl _)
  · rw [moved_same hm]
    exact h0 (by simpa [intItems] using hn) s'.heap s'.toks (old_kept hm.heap)
  · rw [moved_same hm]
    exact h (by simpa [intItems] using hn) v s'.heap s'.toks (by simpa [intItems] using hP) (old_kept hm.heap)
theorem min_rawD {its : List Value} {ns : List Int} {Q : Value → Shared → Prop} (hh : A.handled = none) (hl : s.heap.IsList l its.toArray) (hi : IntsAre its ns)
    (h0 : ns = [] → ∀ h' tk, (∀ b o, s.heap.get? b = some o → h'.get? b = some o) → Q d { s with heap := h', toks := tk })
    (h : ∀ h' tk M t', (∀ b o, s.heap.get? b = some o → h'.get? b = some o) → M ∈ ns → (∀ a, a ∈ ns → M ≤ a) → Q (.int M t') { s with heap := h', toks := tk }) : wpAny (model prog w) A (call (.builtin "min") [.ref l] [(Str.ofString "default", d)]) Q E s := by
  obtain ⟨xs, e⟩ := hi.allInts.items
  have hn : numsOf (intItems xs).toList = ns := by rw [← e]; exact hi.numsOf
  rw [nums_intItems] at hn
  subst hn
  rw [e] at hl
  refine min_listD hh hl (fun hz => h0 ?_) fun hz v h' tk hv hk => ?_
  · have : xs = #[] := Array.eq_empty_of_size_eq_zero hz
    subst this
    rfl
  · obtain ⟨t, rfl⟩ := intItems_at hv
    obtain ⟨h1, h2⟩ := argBest_lt (numAt xs) (xs.size - 1)
    refine h h' tk _ t hk ?_ fun a ha => ?_
    · rw [numAt_eq]; exact PySem.getD_mem (by rw [List.length_map, Array.length_toList]; omega)
    · obtain ⟨j, hj, rfl⟩ := mem_getD ha
      rw [List.length_map, Array.length_toList] at hj
      rw [← numAt_eq]; exact h2 j (by omega)
end
theorem take_pick (items : Array Value) (n : Nat) (h : n ≤ items.size) : (List.range n).filterMap (items[·]?) = items.toList.take n := by
  have h := PySem.pick_run items 0 n
  have e : (List.range n).map (0 + ·) = List.range n := by
    rw [show ((0 + ·) : Nat → Nat) = id from funext fun k => Nat.zero_add k, List.map_id]
  rw [e, List.drop_zero] at h
  exact h
theorem rev2_range (n : Nat) : sliceRange (max (-1) (min ((-2 : Int) + n) ((n : Int) - 1))) (-1) (-1) = (List.range (n - 1)).reverse := by
  rw [← PySem.W.krv_range]
  unfold sliceRange
  have h1 : ¬ ((-1 : Int) > 0) := by decide
  by_cases h : 2 ≤ n
  · have e0 : max (-1) (min ((-2 : Int) + n) ((n : Int) - 1)) = (n : Int) - 2 := by omega
    have e : ((n : Int) - 2 - -1 - -1 - 1) / (- -1) = ((n - 1 : Nat) : Int) := by
      rw [show (- -1 : Int) = 1 by decide, Int.ediv_one]
      omega
    rw [e0]
    have h2 : (n : Int) - 2 > -1 := by omega
    simp only [h1, if_false, h2, if_true, e, Int.toNat_natCast]
    apply List.map_congr_left
    intro k hk
    have := List.mem_range.mp hk
    omega
  · have e0 : max (-1) (min ((-2 : Int) + n) ((n : Int) - 1)) = -1 := by omega
    have e1 : n - 1 = 0 := by omega
    rw [e0, e1]
    simp
theorem rev2_pick (items : Array Value) : slicePick items (some (-2)) none (some (-1)) = (items.toList.take (items.size - 1)).reverse.toArray := by
  unfold slicePick
  have hb : sliceBounds (some (-2)) none (some (-1)) items.size = (max (-1) (min ((-2 : Int) + items.size) ((items.size : Int) - 1)), -1, -1) := by
    first
    | rfl
    | simp [sliceBounds]
  rw [hb]
  show ((sliceRange _ (-1) (-1)).filterMap (items[·]?)).toArray = _
  rw [rev2_range, List.filterMap_reverse, take_pick _ _ (Nat.sub_le _ _)]
end DenM
namespace L2
open PySem PySem.Spec PyProof.Rows
section
variable {X : Cx}
def rMinD (K : PySem.W.Frag) : List V → List V → Hp → VK → Prop := fun vs zs H Q => ∃ (a : Addr) (ns : List Int) (d : V), vs = [V.ref a] ∧ zs = [d] ∧ SqL K H a (ns.map V.int) ∧ (ns = [] → Q d H) ∧ (0 < ns.length → ∀ m, m ∈ ns → (∀ y, y ∈ ns → m ≤ y) → Q (.int m) H)
theorem cr_minD (hc : X.calm = true) : CallRK X (.builtin "min") ["default"] (rMinD X.K) := by
  intro pins s σ H vs zs us ws Q I r rz h
  obtain ⟨a, ns, d, rfl, rfl, hs, q0, q⟩ := h
  obtain ⟨its, rv, hl, _⟩ := I.list hs
  rw [Vals.ref1 r]
  cases rz with
  | cons rd t =>
    cases t
    refine DenM.min_rawD (I.ok.hd hc) hl.isList rv.ints (fun e h' tk hk => ⟨d, H, I.kept hk, rd, q0 e⟩) fun h' tk m t' hk h1 h2 => ⟨.int _, H, I.kept hk, ⟨_, rfl⟩, q (List.length_pos_of_mem h1) m h1 h2⟩
def tRev2 (K : PySem.W.Frag) (te : TE) : TE := fun σ H Q => te σ H fun x H1 => ∃ a xs, x = .ref a ∧ SqL K H1 a xs ∧ ∀ p, H1 p = none → Q (.ref p) (upd H1 p (.lst (xs.take (xs.length - 1)).reverse))
theorem pe_rev2 {e : Expr} {te : TE} {k k2 : Nat} {p1 p2 p3 p4 p5 pos : Pos} (he : PE X e te) : PE X (.Subscript e (.Slice (some (.UnaryOp .USub (.Constant (.int 2) k2 p4) p5)) none (some (.UnaryOp .USub (.Constant (.int 1) k p1) p2)) p3) pos) (tRev2 X.K te) := by
  refine ⟨fun pins s σ H Q I h => ?_⟩
  refine Subscript_ (thn (he.run pins s σ H _ I h) fun v s1 ⟨x, H1, I1, r1, q1⟩ => ?_)
  obtain ⟨a, xs, ex, hx, q⟩ := q1
  subst ex
  cases r1
  have hst : PO X (some (.UnaryOp .USub (.Constant (.int 1) k p1) p2)) (tPart (tUn (rU fun i => .int (-i)) (tC (.int 1)))) := po_some (pe_un un_neg pe_int)
  have hlo : PO X (some (.UnaryOp .USub (.Constant (.int 2) k2 p4) p5)) (tPart (tUn (rU fun i => .int (-i)) (tC (.int 2)))) := po_some (pe_un un_neg pe_int)
  refine wpAny_Slice (thn (hlo.run pins s1 σ H1 (fun o H2 => o = some (-2) ∧ H2 = H1) I1 ⟨2, rfl, -2, rfl, rfl, rfl⟩) fun vl s2 ⟨l, H2, I2, pl, el, e2⟩ => ?_)
  subst el e2
  refine thn (po_none.run pins s2 σ H2 (fun o H3 => o = none ∧ H3 = H2) I2 ⟨rfl, rfl⟩) fun vu s3 ⟨u, H3, I3, pu, eu, e3⟩ => ?_
  subst eu e3
  refine thn (hst.run pins s3 σ H3 (fun o H4 => o = some (-1) ∧ H4 = H3) I3 ⟨1, rfl, -1, rfl, rfl, rfl⟩) fun vs s4 ⟨o, H4, I4, ps, eo, e4⟩ => ?_
  subst eo e4
  have I5 : Inv X pins σ H4 { s4 with heap := s4.heap.push { cls := .type "slice", data := .fields #[vl, vu, vs] } } := I4.kept (t' := s4.toks) fun b ob q => Heap.get?_push_of_some _ q
  obtain ⟨its, r, ht, hz⟩ := I5.list hx
  have hlen := r.length
  show wpAny (model X.prog X.w) X.A (subscriptTail e (.Slice (some (.UnaryOp .USub (.Constant (.int 2) k2 p4) p5)) none (some (.UnaryOp .USub (.Constant (.int 1) k p1) p2)) p3) (.ref a) (.ref s4.heap.objs.size)) (EP X pins σ Q) X.xe { s4 with heap := s4.heap.push { cls := .type "slice", data := .fields #[vl, vu, vs] } }
  refine tail_any (ops := [.ref a, .ref s4.heap.objs.size]) ht.isList.typeIs (PySem.slot_list_getitem.lookup) ?_ (by with_unfolding_all rfl)
  refine wpAny_getItem_list_slice ht.isList (Heap.IsSliceOf.new _ vl vu vs) pl pu ps (by decide) ?_ (by rw [List.size_toArray]; omega)
  rw [DenM.rev2_pick]
  have hsz : its.toArray.size = xs.length := by rw [List.size_toArray]; exact hlen.symm
  rw [hsz]
  refine ⟨.ref _, _, I5.laid (t' := s4.toks) (o := .lst (xs.take (xs.length - 1)).reverse) (fun b ob q => Heap.get?_push_of_some _ q) (Nat.le_refl _) ?_, rfl, q _ (I5.hok.fresh (Nat.le_refl _))⟩
  refine ⟨by rw [List.length_reverse, List.length_take]; omega, _, 0, (r.take (xs.length - 1)).reverse, Heap.get?_push_size _ rfl⟩
end
end L2
namespace Den
open PySem L2
section
variable {c : Cfg} {E : St → XK}
theorem AtL.reverse {P : Addr} {G : Hp} : ∀ {vs : List V} {ds : List D}, AtL P G vs ds → AtL P G vs.reverse ds.reverse
  | _, _, .nil => .nil
  | _, _, .cons h t => by
    rw [List.reverse_cons, List.reverse_cons]
    exact AtL.append (AtL.reverse t) (.cons h .nil)
/-- a built-in with keywords that lays nothing -/
structure SNK (c : Cfg) (r : List V → List V → Hp → VK → Prop) (f : List D → List D → Option D) : Prop where
  run : ∀ (G H : Hp) (xs zs : List V) (ds es : List D) (d : D), Ex G H → AtL c.P G xs ds → AtL c.P G zs es → f ds es = some d → ∃ v, At c.P G v d ∧ ∀ Q : VK, Q v H → r xs zs H Q
def mckw (f : List D → List D → Option D) (a b : M (List D)) : M D := mbind a fun xs => mbind b fun zs => mlift (f xs zs)
theorem se_ckw {r : List V → List V → Hp → VK → Prop} {f : List D → List D → Option D} {ta tb : TA} {a b : M (List D)} (h : SNK c r f) (ha : SA c E ta a) (hb : SA c E tb b) : SE c E (tCKw r ta tb) (mckw f a b) := by
  intro G0 H0 G H σ l pot rl Q post
  refine Sn.go ha rl post fun x dx p G1 H1 s1 r1 hx post1 => ?_
  refine Sn.go hb r1 post1 fun y dy p2 G2 H2 s2 r2 hy post2 => ?_
  cases e : f dx dy with
  | none => rw [e] at post2; exact post2.elim
  | some d =>
    rw [e] at post2
    obtain ⟨v, hv, k⟩ := h.run G2 H2 x y dx dy d r2.stp.gh (AtL.mono s2.gg hx) hy e
    exact k Q (Post.ok post2 r2 hv)
def fMinD : List D → List D → Option D
  | [.lst ds], [d] => (intsOf ds).bind fun ns => match ns with
    | [] => some d
    | n :: ns => some (.int (minL n ns))
  | _, _ => none
theorem sn_minD : SNK c (rMinD c.K) fMinD := ⟨fun G H xs zs ds es d gh hx hz e => by
  unfold fMinD at e
  split at e
  · obtain ⟨x, rfl, hx1⟩ := atl1 hx
    obtain ⟨z, rfl, hz1⟩ := atl1 hz
    obtain ⟨p, vs, rfl, h, a⟩ := at_lst hx1
    rename_i es d0
    cases e1 : intsOf es with
    | none => rw [e1] at e; cases e
    | some ns =>
      rw [e1] at e
      have ev := ints_at a e1
      subst ev
      cases ns with
      | nil =>
        cases e
        exact ⟨z, hz1, fun Q q => ⟨p, [], z, rfl, rfl, .inl (.inl (gh _ _ h)), fun _ => q, fun z => absurd z (by simp)⟩⟩
      | cons n ns =>
        cases e
        refine ⟨.int _, .int _, fun Q q => ⟨p, n :: ns, z, rfl, rfl, .inl (.inl (gh _ _ h)), (fun e0 => nomatch e0), fun _ m hm hl => ?_⟩⟩
        have h1 := hl _ (minL_mem ns n)
        have h2 : minL n ns ≤ m := by
          rcases List.mem_cons.mp hm with rfl | hm
          · exact (minL_le ns m).1
          · exact (minL_le ns n).2 m hm
        rw [Int.le_antisymm h1 h2]
        exact q
  · cases e⟩
def fRev2 : D → Option (List D)
  | .lst ds => some (ds.take (ds.length - 1)).reverse
  | _ => none
def mrev2 (a : M D) : M (List D) := mbind a fun x => mlift (fRev2 x)
theorem sen_rev2 {ta : TE} {a : M D} (ha : SE c E ta a) : SEN c E (tRev2 c.K ta) (mrev2 a) := by
  intro G0 H0 G H σ l pot r Q post
  refine Sn.goN ha r post fun y dy p2 G2 H2 s2 r2 hy post2 => ?_
  cases e : fRev2 dy with
  | none => rw [e] at post2; exact post2.elim
  | some ds =>
    rw [e] at post2
    cases dy with
    | lst es =>
      cases e
      obtain ⟨p, vs, rfl, h, al⟩ := at_lst hy
      refine ⟨p, vs, rfl, .inl (.inl (r2.stp.gh _ _ h)), fun q hq => ?_⟩
      have hl := AtL.length al
      rw [hl]
      exact sen_of r2 (AtL.reverse (AtL.take _ al)) post2 q hq
    | _ => cases e
/-- a new list by cases -/
def mifN (t : M Bool) (a b : M (List D)) : M (List D) := mbind t fun x => if x = true then a else b
theorem sen_if {t : TT} {ta tb : TE} {q : M Bool} {a b : M (List D)} (hq : ST c E t q) (ha : SEN c E ta a) (hb : SEN c E tb b) : SEN c E (tIf t ta tb) (mifN q a b) := by
  intro G0 H0 G H σ l pot rl Q post
  refine Sn.goN (X := fun x H1 => if x = true then ta σ H1 Q else tb σ H1 Q) hq rl post fun x dx p G1 H1 s1 r1 hx post1 => ?_
  subst hx
  cases x with
  | true => rw [if_pos rfl]; exact ha _ _ _ _ _ _ _ r1 Q post1
  | false => rw [if_neg Bool.false_ne_true]; exact hb _ _ _ _ _ _ _ r1 Q post1
@[simp] theorem mckw_ev (f : List D → List D → Option D) (a b : M (List D)) (l : Loc) (p : List Int) : mckw f a b l p = (a l p).bind fun xs p' => (b l p').bind fun zs p'' => mlift (f xs zs) l p'' := rfl
@[simp] theorem mrev2_ev (a : M D) (l : Loc) (p : List Int) : mrev2 a l p = (a l p).bind fun y p' => mlift (fRev2 y) l p' := rfl
@[simp] theorem mifN_ev (t : M Bool) (a b : M (List D)) (l : Loc) (p : List Int) : mifN t a b l p = (t l p).bind fun x p' => (if x = true then a else b) l p' := rfl
end
end Den
namespace PL
open PySem L2 Den
noncomputable section
def dn_bank_due_of : MS := (sret (mif (mand (mtest (op2 fNotN (mvar 0) (mret D.non))) (mtest (op2 fEq (op2 fIx (mvar 0) (mret (D.int 0))) (mret (D.str "chips"))))) (op2 fIx (mvar 0) (mret (D.int 1))) (mret D.non)))
def D_bank_due_of : RF := denF 1 1 (dn_bank_due_of)
def c_least_of_1 : M (List D) := (mcomp (mbind (mvar 0) fun x => mlift (lstOf x)) 1 (mtest (op2 fNotN (mvar 1) (mret D.non))) (mvar 1))
def dn_least_of : MS := (sret (mckw fMinD (acons (mfreeze c_least_of_1) anil) (acons (mret D.non) anil)))
def D_least_of : RF := denF 1 2 (dn_least_of)
def dn_greatest_of : MS := (sret (mif (mtest (op2 (fInB false) (mret D.non) (mvar 0))) (mret D.non) (opn fMaxL (acons (mvar 0) anil))))
def D_greatest_of : RF := denF 1 1 (dn_greatest_of)
def c_bank_high_1 (A : CA) : M (List D) := (mcomp (mbind (op2 fIx (mfld A.Web "_second" (mvar 0)) (mvar 2)) fun x => mlift (tupOf x)) 3 mtrue (op2 fIx (mvar 1) (mvar 3)))
def dn_bank_high (A : CA) : MS := (sret (mcall D_greatest_of (acons (mfreeze (c_bank_high_1 A)) anil)))
def D_bank_high (A : CA) : RF := denF 3 4 (dn_bank_high A)
def b_bank_price_of_1 : MS := (sasg (mif (mtest (op2 fEq (mvar 0) (mret (D.int 1)))) (mret (D.int 0)) (mret (D.int 1))) (gset 3))
def b_bank_price_of_2 : MS := (sown (mifN (mtest (op2 fEq (mvar 0) (mret (D.int 1)))) (mshort anil) (mshort (acons (op2 fIx (mvar 2) (op1 fNeg (mret (D.int 1)))) anil))) 4)
def c_bank_price_of_1 : M (List D) := (mcomp2 (mbind (acons (mfreeze (mrev2 (mvar 2))) anil) fun x => mlift (enum1 x)) 5 6 (mtest (op2 fNotN (mvar 6) (mret D.non))) (opn fMax2 (acons (op2 fAdd (op2 fAdd (mvar 1) (mvar 5)) (mvar 3)) (acons (mvar 6) anil))))
def b_bank_price_of_3 : MS := (sif (mtest (op2 fNotN (mvar 1) (mret D.non))) (sextend 4 (mfreeze c_bank_price_of_1)) sskip)
def b_bank_price_of_4 : MS := (sgive 4 (sret (mcall D_least_of (acons (mvar 4) anil))))
def dn_bank_price_of (A : CA) : MS := (sseq b_bank_price_of_1
    (sseq b_bank_price_of_2
    (sseq b_bank_price_of_3
    b_bank_price_of_4)))
def D_bank_price_of (A : CA) : RF := denF 3 7 (dn_bank_price_of A)
def c_next_bank_row_1 (A : CA) : M (List D) := (mcomp (mbind (op2 fIx (mfld A.Web "_first" (mvar 0)) (mvar 4)) fun x => mlift (tupOf x)) 8 mtrue (op2 fIx (mvar 1) (mvar 8)))
def b_next_bank_row_2l2t1 (A : CA) : MS := (sasg (mcall D_least_of (acons (mfreeze (c_next_bank_row_1 A)) anil)) (gset 7))
def b_next_bank_row_2l2t2 (A : CA) : MS := (sasg (mcall (D_bank_price_of A) (acons (op2 fIx (mfld A.Web "_marks" (mvar 0)) (mvar 4)) (acons (mvar 7) (acons (op2 fCat (op2 fIx (mvar 2) (mvar 4)) (mfreeze (mshort (acons (mcall (D_bank_high A) (acons (mvar 0) (acons (mvar 1) (acons (mvar 4) anil)))) anil)))) anil)))) (gset 6))
def b_next_bank_row_2l2 (A : CA) : MS := (sif (mtru (op2 fIx (mfld A.Web "_first" (mvar 0)) (mvar 4))) (sseq (b_next_bank_row_2l2t1 A)
    (b_next_bank_row_2l2t2 A)) sskip)
def b_next_bank_row_2l3 : MS := (sappend 3 (mcall D_least_of (acons (mfreeze (mshort (acons (mcall D_bank_due_of (acons (mvar 5) anil)) (acons (mvar 6) anil)))) anil)))
def L_next_bank_row_2 (A : CA) : MS := (sseq (sasg (mret D.non) (gset 6))
    (sseq (b_next_bank_row_2l2 A)
    b_next_bank_row_2l3))
def b_next_bank_row_2 (A : CA) : MS := (sfor (mbind (acons (mfld A.Web "_dues" (mvar 0)) anil) fun x => mlift (enumS x)) (gset2 4 5) (L_next_bank_row_2 A))
def b_next_bank_row_3 : MS := (sgive 3 (sret (opn fTuple (acons (mvar 3) anil))))
def dn_next_bank_row (A : CA) : MS := (sseq (sown (mshort anil) 3)
    (sseq (b_next_bank_row_2 A)
    b_next_bank_row_3))
def D_next_bank_row (A : CA) : RF := denF 3 9 (dn_next_bank_row A)
def c_with_highs_1 (A : CA) : M (List D) := (mcomp2 (mbind (acons (mvar 1) anil) fun x => mlift (enum1 x)) 3 4 mtrue (mif (mtru (op2 fIx (mfld A.Web "_first" (mvar 0)) (mvar 3))) (op2 fCat (mvar 4) (mfreeze (mshort (acons (mcall (D_bank_high A) (acons (mvar 0) (acons (mvar 2) (acons (mvar 3) anil)))) anil)))) (mvar 4)))
def dn_with_highs (A : CA) : MS := (sret (mfreeze (c_with_highs_1 A)))
def D_with_highs (A : CA) : RF := denF 3 5 (dn_with_highs A)
def c_rounds_by_highs_1 (A : CA) : M (List D) := (mcomp (mbind (mfld A.Web "_dues" (mvar 0)) fun x => mlift (tupOf x)) 3 mtrue (mcall D_bank_due_of (acons (mvar 3) anil)))
def b_rounds_by_highs_1 (A : CA) : MS := (sown (mshort (acons (opn fTuple (acons (mfreeze (c_rounds_by_highs_1 A)) anil)) anil)) 2)
def b_rounds_by_highs_2 (A : CA) : MS := (sasg (mcall (D_next_bank_row A) (acons (mvar 0) (acons (mixc 2 (mret (D.int 0))) (acons (mvar 1) anil)))) (gset 4))
def b_rounds_by_highs_3w2 (A : CA) : MS := (sasg (mcall (D_next_bank_row A) (acons (mvar 0) (acons (mvar 4) (acons (mvar 1) anil)))) (gset 4))
def W_rounds_by_highs_3 (A : CA) : MS := (sseq (sappend 2 (mvar 4))
    (b_rounds_by_highs_3w2 A))
def b_rounds_by_highs_3 (A : CA) : MS := (swhile (mtest (op2 (fEqD true) (mvar 4) (mixc 2 (op1 fNeg (mret (D.int 1)))))) (W_rounds_by_highs_3 A))
def dn_rounds_by_highs (A : CA) : MS := (sseq (b_rounds_by_highs_1 A)
    (sseq (b_rounds_by_highs_2 A)
    (sseq (b_rounds_by_highs_3 A)
    (sgive 2 (sret (mvar 2))))))
def D_rounds_by_highs (A : CA) : RF := denF 2 5 (dn_rounds_by_highs A)
def b_bank_rows_1 (A : CA) : MS := (sdrop (mcall (D_check_web A) (acons (mvar 0) anil)))
def b_bank_rows_2 : MS := (sdrop (mcall D_check_whole (acons (mvar 1) anil)))
def b_bank_rows_3 : MS := (sdrop (mcall D_check_least (acons (mvar 1) (acons (mret (D.int 0)) anil))))
def b_bank_rows_4 : MS := (sdrop (mcall D_check_most (acons (mvar 1) (acons (mret (D.int 60)) anil))))
def b_bank_rows_5 (A : CA) : MS := (sdrop (mcall D_check_most (acons (mfld A.Web "_greatest_due" (mvar 0)) (acons (mret (D.int 1000000)) anil))))
def c_bank_rows_1 (A : CA) : M (List D) := (mcomp (mbind (acons (mfld A.Web "_size" (mvar 0)) anil) fun x => mlift (rng1 x)) 3 mtrue (mfreeze (mshort (acons (mret (D.int 0)) anil))))
def b_bank_rows_8l1 (A : CA) : MS := (sasg (op2 fIx (mcall (D_rounds_by_highs A) (acons (mvar 0) (acons (mvar 2) anil))) (op1 fNeg (mret (D.int 1)))) (gset 5))
def b_bank_rows_8l3 (A : CA) : MS := (sasg (mcall (D_with_highs A) (acons (mvar 0) (acons (mvar 2) (acons (mvar 5) anil)))) (gset 2))
def L_bank_rows_8 (A : CA) : MS := (sseq (b_bank_rows_8l1 A)
    (sseq (sappend 4 (mvar 5))
    (b_bank_rows_8l3 A)))
def b_bank_rows_8 (A : CA) : MS := (sfor (mbind (acons (op2 fAdd (mvar 1) (mret (D.int 1))) anil) fun x => mlift (rng1 x)) (gset 3) (L_bank_rows_8 A))
def b_bank_rows_9 : MS := (sgive 4 (sret (opn fTuple (acons (mvar 4) anil))))
def dn_bank_rows (A : CA) : MS := (sseq (b_bank_rows_1 A)
    (sseq b_bank_rows_2
    (sseq b_bank_rows_3
    (sseq b_bank_rows_4
    (sseq (b_bank_rows_5 A)
    (sseq (sasg (mfreeze (c_bank_rows_1 A)) (gset 2))
    (sseq (sown (mshort anil) 4)
    (sseq (b_bank_rows_8 A)
    b_bank_rows_9))))))))
def D_bank_rows (A : CA) : RF := denF 2 6 (dn_bank_rows A)
def b_law_bank_cost_1 : MS := (sasg (mcall D_law_low (acons (mvar 0) (acons (mvar 2) (acons (mvar 4) anil)))) (gset 6))
def b_law_bank_cost_3l1 : MS := (sasg (op2 fSub (op2 fSub (mvar 3) (mvar 8)) (mret (D.int 1))) (gset 9))
def b_law_bank_cost_3l2 : MS := (sif (mtest (op2 fEq (op2 fIx (op2 fIx (mvar 0) (mret (D.int 2))) (mvar 4)) (mret (D.int 2)))) (sasg (op2 fSub (mvar 3) (mvar 8)) (gset 9)) sskip)
def b_law_bank_cost_3l4 : MS := (sif (mand (mtest (op2 fGe (mvar 9) (mret (D.int 0)))) (mtest (op2 fEq (mvar 9) (mvar 3)))) (sasg (mcall D_law_high (acons (mvar 0) (acons (mvar 2) (acons (mvar 4) anil)))) (gset 10)) (sif (mtest (op2 fGe (mvar 9) (mret (D.int 0)))) (sasg (mcall D_law_high (acons (mvar 0) (acons (op2 fIx (mvar 1) (mvar 9)) (acons (mvar 4) anil)))) (gset 10)) sskip))
def b_law_bank_cost_3l5 : MS := (sasg (opn fMax2 (acons (op2 fAdd (mvar 8) (mvar 6)) (acons (mvar 10) anil))) (gset 11))
def b_law_bank_cost_3l6 : MS := (sif (mand (mtest (op2 fEq (op2 fIx (op2 fIx (mvar 0) (mret (D.int 2))) (mvar 4)) (mret (D.int 2)))) (mtest (op2 fEq (mvar 8) (mret (D.int 0))))) (sasg (mvar 10) (gset 11)) sskip)
def b_law_bank_cost_3l7 : MS := (sasg (opn fMin2 (acons (mvar 7) (acons (mvar 11) anil))) (gset 7))
def L_law_bank_cost_3 : MS := (sseq b_law_bank_cost_3l1
    (sseq b_law_bank_cost_3l2
    (sseq (sasg (mret (D.int 0)) (gset 10))
    (sseq b_law_bank_cost_3l4
    (sseq b_law_bank_cost_3l5
    (sseq b_law_bank_cost_3l6
    b_law_bank_cost_3l7))))))
def b_law_bank_cost_3 : MS := (sfor (mbind (acons (op2 fAdd (mvar 3) (mret (D.int 2))) anil) fun x => mlift (rng1 x)) (gset 8) L_law_bank_cost_3)
def dn_law_bank_cost : MS := (sseq b_law_bank_cost_1
    (sseq (sasg (mvar 5) (gset 7))
    (sseq b_law_bank_cost_3
    (sret (mvar 7)))))
def D_law_bank_cost : RF := denF 6 12 (dn_law_bank_cost)
def b_law_bank_rows_1 : MS := (sasg (op2 fPow (mret (D.int 10)) (mret (D.int 6))) (gset 2))
def L_law_bank_rows_3 : MS := (sif (mand (mtest (op2 fNotN (mvar 4) (mret D.non))) (mtest (op2 fEq (op2 fIx (mvar 4) (mret (D.int 0))) (mret (D.str "chips"))))) (sappend 3 (op2 fIx (mvar 4) (mret (D.int 1)))) (sappend 3 (mvar 2)))
def b_law_bank_rows_3 : MS := (sfor (mbind (op2 fIx (mvar 0) (mret (D.int 3))) fun x => mlift (lstOf x)) (gset 4) L_law_bank_rows_3)
def b_law_bank_rows_5l1 : MS := (sgive 3 (sasg (mfreeze (mlistN (acons (mvar 3) anil))) (gset 7)))
def L_law_bank_rows_5l2l2 : MS := (sif (mtest (op2 fGt (opn fLen (acons (op2 fIx (op2 fIx (mvar 0) (mret (D.int 0))) (mvar 10)) anil)) (mret (D.int 0)))) (sput 9 (mlend 5 (mvar 10)) (mlend 5 (opn fMin2 (acons (op2 fIx (mvar 3) (mvar 10)) (acons (mcall D_law_bank_cost (acons (mvar 0) (acons (mvar 5) (acons (mvar 7) (acons (mvar 6) (acons (mvar 10) (acons (mvar 2) anil))))))) anil))))) sskip)
def b_law_bank_rows_5l2l2 : MS := (sfor (mbind (acons (opn fLen (acons (mvar 7) anil)) anil) fun x => mlift (rng1 x)) (gset 10) L_law_bank_rows_5l2l2)
def b_law_bank_rows_5l2l3 : MS := (sif (mlendT 9 (mtest (op2 (fEqD false) (mvar 9) (mvar 7)))) sbreak sskip)
def L_law_bank_rows_5l2 : MS := (sseq (sown (mlistN (acons (mvar 3) anil)) 9)
    (sseq b_law_bank_rows_5l2l2
    (sseq b_law_bank_rows_5l2l3
    (sgive 9 (sasg (mvar 9) (gset 7))))))
def b_law_bank_rows_5l2 : MS := (sfor (mbind (acons (op2 fMul (opn fLen (acons (mvar 7) anil)) (op2 fAdd (op2 fMul (opn fLen (acons (mvar 7) anil)) (op2 fAdd (mvar 6) (mret (D.int 2)))) (mret (D.int 8)))) anil) fun x => mlift (rng1 x)) (gset 8) L_law_bank_rows_5l2)
def L_law_bank_rows_5 : MS := (sseq b_law_bank_rows_5l1
    (sseq b_law_bank_rows_5l2
    (sappend 5 (mvar 7))))
def b_law_bank_rows_5 : MS := (sfor (mbind (acons (op2 fAdd (mvar 1) (mret (D.int 1))) anil) fun x => mlift (rng1 x)) (gset 6) L_law_bank_rows_5)
def dn_law_bank_rows : MS := (sseq b_law_bank_rows_1
    (sseq (sown (mshort anil) 3)
    (sseq b_law_bank_rows_3
    (sseq (sown (mshort anil) 5)
    (sseq b_law_bank_rows_5
    (sgive 5 (sret (mvar 5))))))))
def D_law_bank_rows : RF := denF 2 11 (dn_law_bank_rows)
end
end PL
namespace PL
open PySem L2 Den
noncomputable section
def L_law_bare_2 : MS := (sif (mand (mtest (op2 fNotN (mvar 2) (mret D.non))) (mtest (op2 fEq (op2 fIx (mvar 2) (mret (D.int 0))) (mret (D.str "less"))))) (sappend 1 (mret D.non)) (sappend 1 (mvar 2)))
def b_law_bare_2 : MS := (sfor (mbind (op2 fIx (mvar 0) (mret (D.int 3))) fun x => mlift (lstOf x)) (gset 2) L_law_bare_2)
def b_law_bare_3 : MS := (sgive 1 (sret (mfreeze (mshort (acons (op2 fIx (mvar 0) (mret (D.int 0))) (acons (op2 fIx (mvar 0) (mret (D.int 1))) (acons (op2 fIx (mvar 0) (mret (D.int 2))) (acons (mvar 1) anil))))))))
def dn_law_bare : MS := (sseq (sown (mshort anil) 1)
    (sseq b_law_bare_2
    b_law_bare_3))
def D_law_bare : RF := denF 1 3 (dn_law_bare)
def c_law_kept_k63_1 : M (List D) := (mcomp (mbind (acons (opn fLen (acons (op2 fIx (mvar 0) (mret (D.int 3))) anil)) anil) fun x => mlift (rng1 x)) 2 (mtest (op2 fIsN (op2 fIx (op2 fIx (mvar 0) (mret (D.int 3))) (mvar 2)) (mret D.non))) (mvar 2))
def c_law_kept_k63_2 : M (List D) := (mcomp (mbind (op2 fIx (op2 fIx (mvar 0) (mret (D.int 0))) (mvar 2)) fun x => mlift (lstOf x)) 6 (mtest (op2 (fInB true) (mvar 6) (mvar 1))) (mvar 6))
def c_law_kept_k63_3 : M (List D) := (mcomp (mbind (op2 fIx (op2 fIx (mvar 0) (mret (D.int 1))) (mvar 2)) fun x => mlift (lstOf x)) 6 (mtest (op2 (fInB false) (mvar 6) (mvar 1))) (mvar 6))
def b_law_kept_k63_2l2l3 : MS := (sif (mand (mtest (op2 fEq (opn fLen (acons (mvar 5) anil)) (mret (D.int 0)))) (mor (mtest (op2 fEq (op2 fIx (op2 fIx (mvar 0) (mret (D.int 2))) (mvar 2)) (mret (D.int 1)))) (mor (mtest (op2 fEq (opn fLen (acons (op2 fIx (op2 fIx (mvar 0) (mret (D.int 0))) (mvar 2)) anil)) (mret (D.int 0)))) (mtest (op2 fGt (opn fLen (acons (mvar 7) anil)) (mret (D.int 0))))))) (sappend 4 (mvar 2)) sskip)
def L_law_kept_k63_2l2 : MS := (sseq (sasg (mfreeze c_law_kept_k63_2) (gset 5))
    (sseq (sasg (mfreeze c_law_kept_k63_3) (gset 7))
    b_law_kept_k63_2l2l3))
def b_law_kept_k63_2l2 : MS := (sfor (mbind (mfreeze (mlistN (acons (mvar 1) anil))) fun x => mlift (lstOf x)) (gset 2) L_law_kept_k63_2l2)
def L_law_kept_k63_2 : MS := (sseq (sown (mshort anil) 4)
    (sseq b_law_kept_k63_2l2
    (sgive 4 (sasg (mvar 4) (gset 1)))))
def b_law_kept_k63_2 : MS := (sfor (mbind (acons (opn fLen (acons (op2 fIx (mvar 0) (mret (D.int 3))) anil)) anil) fun x => mlift (rng1 x)) (gset 3) L_law_kept_k63_2)
def dn_law_kept_k63 : MS := (sseq (sasg (mfreeze c_law_kept_k63_1) (gset 1))
    (sseq b_law_kept_k63_2
    (sret (mvar 1))))
def D_law_kept_k63 : RF := denF 1 8 (dn_law_kept_k63)
def b_law_k63_01 : MS := (sasg (mcall D_law_web (acons (mvar 1) (acons (mret (D.int 6)) (acons (op2 fEq (mcall D_law_draw (acons (mvar 1) (acons (mret (D.int 2)) anil))) (mret (D.int 0))) anil)))) (gset 2))
def b_law_k63_02 : MS := (sasg (opn fLen (acons (op2 fIx (mvar 2) (mret (D.int 0))) anil)) (gset 3))
def b_law_k63_03 : MS := (sasg (mcall D_law_bare (acons (mvar 2) anil)) (gset 4))
def b_law_k63_04 : MS := (sasg (mcall D_law_kept_k63 (acons (mvar 4) anil)) (gset 5))
def b_law_k63_05 (A : CA) : MS := (sasg (mcall (D_kept_off A) (acons (mcall (D_law_built_k09 A) (acons (mvar 4) anil)) anil)) (gset 6))
def b_law_k63_06 : MS := (sif (mor (mnot (mtru (opn fIs1 (acons (mvar 6) (acons (mret (D.ty Ty.tup)) anil))))) (mtest (op2 (fEqD true) (mfreeze (mlistN (acons (mvar 6) anil))) (mvar 5)))) (sret (mret (D.bl false))) sskip)
def b_law_k63_07 : MS := (sasg (mcall D_law_draw (acons (mvar 1) (acons (mret (D.int 5)) anil))) (gset 7))
def c_law_k63_1 : M (List D) := (mcomp (mbind (op2 fIx (mvar 2) (mret (D.int 3))) fun x => mlift (lstOf x)) 9 (mtest (op2 fNotN (mvar 9) (mret D.non))) (op2 fIx (mvar 9) (mret (D.int 1))))
def b_law_k63_08 : MS := (sasg (opn fMaxL (acons (op2 fCat (mfreeze (mshort (acons (mret (D.int 0)) anil))) (mfreeze c_law_k63_1)) anil)) (gset 8))
def b_law_k63_09 (A : CA) : MS := (sasg (mcall (D_bank_rows A) (acons (mcall (D_law_built_k09 A) (acons (mvar 2) anil)) (acons (mvar 7) anil))) (gset 10))
def b_law_k63_10 (A : CA) : MS := (sasg (mcall (D_bank_rows A) (acons (mcall (D_law_built_k09 A) (acons (mvar 4) anil)) (acons (mvar 7) anil))) (gset 11))
def b_law_k63_11 : MS := (sif (mor (mtest (op2 (fEqD true) (mvar 10) (mvar 11))) (mtest (op2 fNe (opn fLen (acons (mvar 10) anil)) (op2 fAdd (mvar 7) (mret (D.int 1)))))) (sret (mret (D.bl false))) sskip)
def b_law_k63_12 : MS := (sasg (mcall D_law_bank_rows (acons (mvar 2) (acons (mvar 7) anil))) (gset 12))
def b_law_k63_13l1l1 : MS := (sasg (op2 fIx (op2 fIx (mvar 10) (mvar 13)) (mvar 14)) (gset 15))
def b_law_k63_13l1l2 : MS := (sif (mtest (op2 fNe (op2 fIsN (mvar 15) (mret D.non)) (op2 (fInB false) (mvar 14) (mvar 5)))) (sret (mret (D.bl false))) sskip)
def b_law_k63_13l1l3t1 : MS := (sif (mor (mnot (mtru (mcall D_is_integer (acons (mvar 15) anil)))) (mor (mtest (op2 fLt (mvar 15) (mret (D.int 0)))) (mtest (op2 fGt (mvar 15) (op2 fAdd (mvar 8) (op2 fMul (mvar 3) (op2 fAdd (mvar 13) (mret (D.int 1))))))))) (sret (mret (D.bl false))) sskip)
def b_law_k63_13l1l3t2 : MS := (sif (mtest (op2 fNe (mvar 15) (op2 fIx (op2 fIx (mvar 12) (mvar 13)) (mvar 14)))) (sret (mret (D.bl false))) sskip)
def b_law_k63_13l1l3 : MS := (sif (mtest (op2 fNotN (mvar 15) (mret D.non))) (sseq b_law_k63_13l1l3t1
    b_law_k63_13l1l3t2) (sif (mtest (op2 fLt (op2 fIx (op2 fIx (mvar 12) (mvar 13)) (mvar 14)) (op2 fPow (mret (D.int 10)) (mret (D.int 6))))) (sret (mret (D.bl false))) sskip))
def L_law_k63_13l1 : MS := (sseq b_law_k63_13l1l1
    (sseq b_law_k63_13l1l2
    b_law_k63_13l1l3))
def L_law_k63_13 : MS := (sfor (mbind (acons (mvar 3) anil) fun x => mlift (rng1 x)) (gset 14) L_law_k63_13l1)
def b_law_k63_13 : MS := (sfor (mbind (acons (op2 fAdd (mvar 7) (mret (D.int 1))) anil) fun x => mlift (rng1 x)) (gset 13) L_law_k63_13)
def L_law_k63_14 : MS := (sif (mtest (op2 (fInB true) (mvar 14) (mvar 5))) (sret (mret (D.bl false))) sskip)
def b_law_k63_14 (A : CA) : MS := (sfor (mbind (mcall (D_kept_off A) (acons (mcall (D_law_built_k09 A) (acons (mvar 2) anil)) anil)) fun x => mlift (tupOf x)) (gset 14) L_law_k63_14)
def dn_law_k63 (A : CA) : MS := (sseq b_law_k63_01
    (sseq b_law_k63_02
    (sseq b_law_k63_03
    (sseq b_law_k63_04
    (sseq (b_law_k63_05 A)
    (sseq b_law_k63_06
    (sseq b_law_k63_07
    (sseq b_law_k63_08
    (sseq (b_law_k63_09 A)
    (sseq (b_law_k63_10 A)
    (sseq b_law_k63_11
    (sseq b_law_k63_12
    (sseq b_law_k63_13
    (sseq (b_law_k63_14 A)
    (sret (mret (D.bl true)))))))))))))))))
end
end PL
namespace K63
open PySem L2 Den PL
def top (i : Nat) : Stmt := PySem.Challenge.pw_pursewebs_k63_where_the_bank_has_no_numb.main.body.getD i (.Pass ⟨0, 0, 0, 0⟩)
abbrev s_is_integer : Stmt := top 9
abbrev s_check_whole : Stmt := top 10
abbrev s_whole_list : Stmt := top 11
abbrev s_check_range : Stmt := top 12
abbrev s_check_least : Stmt := top 13
abbrev s_check_most : Stmt := top 14
abbrev s_as_stands : Stmt := top 15
abbrev s_is_due : Stmt := top 17
abbrev s_due_in_range : Stmt := top 18
abbrev s_due_too_great : Stmt := top 19
abbrev s_check_due : Stmt := top 20
abbrev s_check_kinds : Stmt := top 24
abbrev s_check_steps : Stmt := top 25
abbrev s_check_parts : Stmt := top 23
abbrev s_Web_init : Stmt := inClass (top 27) 0
abbrev s_check_web : Stmt := top 28
abbrev s_stays_off : Stmt := top 30
abbrev s_kept_off : Stmt := top 31
abbrev s_bank_due_of : Stmt := top 35
abbrev s_least_of : Stmt := top 36
abbrev s_greatest_of : Stmt := top 37
abbrev s_bank_high : Stmt := top 38
abbrev s_bank_price_of : Stmt := top 39
abbrev s_next_bank_row : Stmt := top 40
abbrev s_with_highs : Stmt := top 41
abbrev s_rounds_by_highs : Stmt := top 42
abbrev s_bank_rows : Stmt := top 43
abbrev s_law_draw : Stmt := top 46
abbrev s_law_whole : Stmt := top 47
abbrev s_law_lot : Stmt := top 48
abbrev s_law_due : Stmt := top 49
abbrev s_law_marks : Stmt := top 50
abbrev s_law_path : Stmt := top 51
abbrev s_law_web : Stmt := top 52
abbrev s_law_low : Stmt := top 53
abbrev s_law_high : Stmt := top 54
abbrev s_law_made : Stmt := top 55
abbrev s_law_bank_cost : Stmt := top 56
abbrev s_law_bank_rows : Stmt := top 57
abbrev s_law_bare : Stmt := top 58
abbrev s_law_kept : Stmt := top 59
abbrev s_law : Stmt := top 60
abbrev s_law_pot : Stmt := top 45
abbrev s_Web_dues : Stmt := inClass (top 27) 5
abbrev s_Web_first : Stmt := inClass (top 27) 2
abbrev s_Web_greatest_due : Stmt := inClass (top 27) 8
abbrev s_Web_marks : Stmt := inClass (top 27) 4
abbrev s_Web_second : Stmt := inClass (top 27) 3
abbrev s_Web_size : Stmt := inClass (top 27) 1
structure Adr where
  ca : CA
  is_integer : Addr
  fd_is_integer : FuncData
  check_whole : Addr
  fd_check_whole : FuncData
  whole_list : Addr
  fd_whole_list : FuncData
  check_range : Addr
  fd_check_range : FuncData
  check_least : Addr
  fd_check_least : FuncData
  check_most : Addr
  fd_check_most : FuncData
  as_stands : Addr
  fd_as_stands : FuncData
  is_due : Addr
  fd_is_due : FuncData
  due_in_range : Addr
  fd_due_in_range : FuncData
  due_too_great : Addr
  fd_due_too_great : FuncData
  check_due : Addr
  fd_check_due : FuncData
  check_kinds : Addr
  fd_check_kinds : FuncData
  check_steps : Addr
  fd_check_steps : FuncData
  check_parts : Addr
  fd_check_parts : FuncData
  Web_init : Addr
  fd_Web_init : FuncData
  check_web : Addr
  fd_check_web : FuncData
  stays_off : Addr
  fd_stays_off : FuncData
  kept_off : Addr
  fd_kept_off : FuncData
  bank_due_of : Addr
  fd_bank_due_of : FuncData
  least_of : Addr
  fd_least_of : FuncData
  greatest_of : Addr
  fd_greatest_of : FuncData
  bank_high : Addr
  fd_bank_high : FuncData
  bank_price_of : Addr
  fd_bank_price_of : FuncData
  next_bank_row : Addr
  fd_next_bank_row : FuncData
  with_highs : Addr
  fd_with_highs : FuncData
  rounds_by_highs : Addr
  fd_rounds_by_highs : FuncData
  bank_rows : Addr
  fd_bank_rows : FuncData
  law_draw : Addr
  fd_law_draw : FuncData
  law_whole : Addr
  fd_law_whole : FuncData
  law_lot : Addr
  fd_law_lot : FuncData
  law_due : Addr
  fd_law_due : FuncData
  law_marks : Addr
  fd_law_marks : FuncData
  law_path : Addr
  fd_law_path : FuncData
  law_web : Addr
  fd_law_web : FuncData
  law_low : Addr
  fd_law_low : FuncData
  law_high : Addr
  fd_law_high : FuncData
  law_made : Addr
  fd_law_made : FuncData
  law_bank_cost : Addr
  fd_law_bank_cost : FuncData
  law_bank_rows : Addr
  fd_law_bank_rows : FuncData
  law_bare : Addr
  fd_law_bare : FuncData
  law_kept : Addr
  fd_law_kept : FuncData
  Web_dues : Addr
  fd_Web_dues : FuncData
  Web_first : Addr
  fd_Web_first : FuncData
  Web_greatest_due : Addr
  fd_Web_greatest_due : FuncData
  Web_marks : Addr
  fd_Web_marks : FuncData
  Web_second : Addr
  fd_Web_second : FuncData
  Web_size : Addr
  fd_Web_size : FuncData
  pr_Web_dues : Addr
  pr_Web_first : Addr
  pr_Web_greatest_due : Addr
  pr_Web_marks : Addr
  pr_Web_second : Addr
  pr_Web_size : Addr
structure Txt (c : Cfg) (mg : Str → Option Value) (A : Adr) : Prop where
  pl : c.Pot
  F_is_integer : Fun c.K "is_integer" "is_integer" s_is_integer A.is_integer A.fd_is_integer
  m_is_integer : mg "is_integer" = some (.ref A.is_integer)
  F_check_whole : Fun c.K "check_whole" "check_whole" s_check_whole A.check_whole A.fd_check_whole
  m_check_whole : mg "check_whole" = some (.ref A.check_whole)
  F_whole_list : Fun c.K "whole_list" "whole_list" s_whole_list A.whole_list A.fd_whole_list
  m_whole_list : mg "whole_list" = some (.ref A.whole_list)
  F_check_range : Fun c.K "check_range" "check_range" s_check_range A.check_range A.fd_check_range
  m_check_range : mg "check_range" = some (.ref A.check_range)
  F_check_least : Fun c.K "check_least" "check_least" s_check_least A.check_least A.fd_check_least
  m_check_least : mg "check_least" = some (.ref A.check_least)
  F_check_most : Fun c.K "check_most" "check_most" s_check_most A.check_most A.fd_check_most
  m_check_most : mg "check_most" = some (.ref A.check_most)
  F_as_stands : Fun c.K "as_stands" "as_stands" s_as_stands A.as_stands A.fd_as_stands
  m_as_stands : mg "as_stands" = some (.ref A.as_stands)
  F_is_due : Fun c.K "is_due" "is_due" s_is_due A.is_due A.fd_is_due
  m_is_due : mg "is_due" = some (.ref A.is_due)
  F_due_in_range : Fun c.K "due_in_range" "due_in_range" s_due_in_range A.due_in_range A.fd_due_in_range
  m_due_in_range : mg "due_in_range" = some (.ref A.due_in_range)
  F_due_too_great : Fun c.K "due_too_great" "due_too_great" s_due_too_great A.due_too_great A.fd_due_too_great
  m_due_too_great : mg "due_too_great" = some (.ref A.due_too_great)
  F_check_due : Fun c.K "check_due" "check_due" s_check_due A.check_due A.fd_check_due
  m_check_due : mg "check_due" = some (.ref A.check_due)
  F_check_kinds : Fun c.K "check_kinds" "check_kinds" s_check_kinds A.check_kinds A.fd_check_kinds
  m_check_kinds : mg "check_kinds" = some (.ref A.check_kinds)
  F_check_steps : Fun c.K "check_steps" "check_steps" s_check_steps A.check_steps A.fd_check_steps
  m_check_steps : mg "check_steps" = some (.ref A.check_steps)
  F_check_parts : Fun c.K "check_parts" "check_parts" s_check_parts A.check_parts A.fd_check_parts
  m_check_parts : mg "check_parts" = some (.ref A.check_parts)
  F_Web_init : Fun c.K "__init__" "Web.__init__" s_Web_init A.Web_init A.fd_Web_init
  F_check_web : Fun c.K "check_web" "check_web" s_check_web A.check_web A.fd_check_web
  m_check_web : mg "check_web" = some (.ref A.check_web)
  F_stays_off : Fun c.K "stays_off" "stays_off" s_stays_off A.stays_off A.fd_stays_off
  m_stays_off : mg "stays_off" = some (.ref A.stays_off)
  F_kept_off : Fun c.K "kept_off" "kept_off" s_kept_off A.kept_off A.fd_kept_off
  m_kept_off : mg "kept_off" = some (.ref A.kept_off)
  F_bank_due_of : Fun c.K "bank_due_of" "bank_due_of" s_bank_due_of A.bank_due_of A.fd_bank_due_of
  m_bank_due_of : mg "bank_due_of" = some (.ref A.bank_due_of)
  F_least_of : Fun c.K "least_of" "least_of" s_least_of A.least_of A.fd_least_of
  m_least_of : mg "least_of" = some (.ref A.least_of)
  F_greatest_of : Fun c.K "greatest_of" "greatest_of" s_greatest_of A.greatest_of A.fd_greatest_of
  m_greatest_of : mg "greatest_of" = some (.ref A.greatest_of)
  F_bank_high : Fun c.K "bank_high" "bank_high" s_bank_high A.bank_high A.fd_bank_high
  m_bank_high : mg "bank_high" = some (.ref A.bank_high)
  F_bank_price_of : Fun c.K "bank_price_of" "bank_price_of" s_bank_price_of A.bank_price_of A.fd_bank_price_of
  m_bank_price_of : mg "bank_price_of" = some (.ref A.bank_price_of)
  F_next_bank_row : Fun c.K "next_bank_row" "next_bank_row" s_next_bank_row A.next_bank_row A.fd_next_bank_row
  m_next_bank_row : mg "next_bank_row" = some (.ref A.next_bank_row)
  F_with_highs : Fun c.K "with_highs" "with_highs" s_with_highs A.with_highs A.fd_with_highs
  m_with_highs : mg "with_highs" = some (.ref A.with_highs)
  F_rounds_by_highs : Fun c.K "rounds_by_highs" "rounds_by_highs" s_rounds_by_highs A.rounds_by_highs A.fd_rounds_by_highs
  m_rounds_by_highs : mg "rounds_by_highs" = some (.ref A.rounds_by_highs)
  F_bank_rows : Fun c.K "bank_rows" "bank_rows" s_bank_rows A.bank_rows A.fd_bank_rows
  m_bank_rows : mg "bank_rows" = some (.ref A.bank_rows)
  F_law_draw : Fun c.K "_law_draw" "_law_draw" s_law_draw A.law_draw A.fd_law_draw
  m_law_draw : mg "_law_draw" = some (.ref A.law_draw)
  F_law_whole : Fun c.K "_law_whole" "_law_whole" s_law_whole A.law_whole A.fd_law_whole
  m_law_whole : mg "_law_whole" = some (.ref A.law_whole)
  F_law_lot : Fun c.K "_law_lot" "_law_lot" s_law_lot A.law_lot A.fd_law_lot
  m_law_lot : mg "_law_lot" = some (.ref A.law_lot)
  F_law_due : Fun c.K "_law_due" "_law_due" s_law_due A.law_due A.fd_law_due
  m_law_due : mg "_law_due" = some (.ref A.law_due)
  F_law_marks : Fun c.K "_law_marks" "_law_marks" s_law_marks A.law_marks A.fd_law_marks
  m_law_marks : mg "_law_marks" = some (.ref A.law_marks)
  F_law_path : Fun c.K "_law_path" "_law_path" s_law_path A.law_path A.fd_law_path
  m_law_path : mg "_law_path" = some (.ref A.law_path)
  F_law_web : Fun c.K "_law_web" "_law_web" s_law_web A.law_web A.fd_law_web
  m_law_web : mg "_law_web" = some (.ref A.law_web)
  F_law_low : Fun c.K "_law_low" "_law_low" s_law_low A.law_low A.fd_law_low
  m_law_low : mg "_law_low" = some (.ref A.law_low)
  F_law_high : Fun c.K "_law_high" "_law_high" s_law_high A.law_high A.fd_law_high
  m_law_high : mg "_law_high" = some (.ref A.law_high)
  F_law_made : Fun c.K "_law_made" "_law_made" s_law_made A.law_made A.fd_law_made
  m_law_made : mg "_law_made" = some (.ref A.law_made)
  F_law_bank_cost : Fun c.K "_law_bank_cost" "_law_bank_cost" s_law_bank_cost A.law_bank_cost A.fd_law_bank_cost
  m_law_bank_cost : mg "_law_bank_cost" = some (.ref A.law_bank_cost)
  F_law_bank_rows : Fun c.K "_law_bank_rows" "_law_bank_rows" s_law_bank_rows A.law_bank_rows A.fd_law_bank_rows
  m_law_bank_rows : mg "_law_bank_rows" = some (.ref A.law_bank_rows)
  F_law_bare : Fun c.K "_law_bare" "_law_bare" s_law_bare A.law_bare A.fd_law_bare
  m_law_bare : mg "_law_bare" = some (.ref A.law_bare)
  F_law_kept : Fun c.K "_law_kept" "_law_kept" s_law_kept A.law_kept A.fd_law_kept
  m_law_kept : mg "_law_kept" = some (.ref A.law_kept)
  F_Web_dues : Fun c.K "dues" "Web.dues" s_Web_dues A.Web_dues A.fd_Web_dues
  p_Web_dues : PropOf c.K A.ca.Web "dues" A.pr_Web_dues A.Web_dues
  F_Web_first : Fun c.K "first" "Web.first" s_Web_first A.Web_first A.fd_Web_first
  p_Web_first : PropOf c.K A.ca.Web "first" A.pr_Web_first A.Web_first
  F_Web_greatest_due : Fun c.K "greatest_due" "Web.greatest_due" s_Web_greatest_due A.Web_greatest_due A.fd_Web_greatest_due
  p_Web_greatest_due : PropOf c.K A.ca.Web "greatest_due" A.pr_Web_greatest_due A.Web_greatest_due
  F_Web_marks : Fun c.K "marks" "Web.marks" s_Web_marks A.Web_marks A.fd_Web_marks
  p_Web_marks : PropOf c.K A.ca.Web "marks" A.pr_Web_marks A.Web_marks
  F_Web_second : Fun c.K "second" "Web.second" s_Web_second A.Web_second A.fd_Web_second
  p_Web_second : PropOf c.K A.ca.Web "second" A.pr_Web_second A.Web_second
  F_Web_size : Fun c.K "size" "Web.size" s_Web_size A.Web_size A.fd_Web_size
  p_Web_size : PropOf c.K A.ca.Web "size" A.pr_Web_size A.Web_size
  m_Web : mg "Web" = some (.ref A.ca.Web)
  f_Web : ClsF c.K A.ca.Web
  mk_Web : Mk c.K A.ca.Web A.Web_init
  a_Web__dues : NoAttr c.K A.ca.Web "_dues"
  a_Web__ends : NoAttr c.K A.ca.Web "_ends"
  a_Web__even : NoAttr c.K A.ca.Web "_even"
  a_Web__first : NoAttr c.K A.ca.Web "_first"
  a_Web__greatest_due : NoAttr c.K A.ca.Web "_greatest_due"
  a_Web__marks : NoAttr c.K A.ca.Web "_marks"
  a_Web__moving : NoAttr c.K A.ca.Web "_moving"
  a_Web__second : NoAttr c.K A.ca.Web "_second"
  a_Web__size : NoAttr c.K A.ca.Web "_size"
  c_GREATEST : ∃ t, mg "GREATEST" = some (.int 10000000000000000000000000000000000000000 t)
  c_MOST_STANDS : ∃ t, mg "MOST_STANDS" = some (.int 60 t)
  c_MOST_CHIPS : ∃ t, mg "MOST_CHIPS" = some (.int 60 t)
  c_MOST_DUE : ∃ t, mg "MOST_DUE" = some (.int 1000000 t)
  n_bool : mg "bool" = none
  n_enumerate : mg "enumerate" = none
  n_int : mg "int" = none
  n_isinstance : mg "isinstance" = none
  n_len : mg "len" = none
  n_list : mg "list" = none
  n_max : mg "max" = none
  n_min : mg "min" = none
  n_range : mg "range" = none
  n_set : mg "set" = none
  n_sorted : mg "sorted" = none
  n_str : mg "str" = none
  n_tuple : mg "tuple" = none
  mE0 : mg "WrongKind" = some (.ref (c.ec 0))
  xE0 : PySem.W.excIn c.K (c.ec 0) [.type "Exception", .type "BaseException", .type "object"] "Exception.__new__" = true
  kE0 : PySem.W.keepIn c.K (.ref (c.ec 0)) = true
  bE0 : PySem.W.subIn c.K (.ref (c.ec 0)) (.type "BaseException") = some true
  tE0 : PySem.W.typeIn c.K (.ref (c.ec 0)) = some (.type "type")
  mE1 : mg "WrongNumber" = some (.ref (c.ec 1))
  xE1 : PySem.W.excIn c.K (c.ec 1) [.type "Exception", .type "BaseException", .type "object"] "Exception.__new__" = true
  kE1 : PySem.W.keepIn c.K (.ref (c.ec 1)) = true
  bE1 : PySem.W.subIn c.K (.ref (c.ec 1)) (.type "BaseException") = some true
  tE1 : PySem.W.typeIn c.K (.ref (c.ec 1)) = some (.type "type")
  mE2 : mg "WrongWeb" = some (.ref (c.ec 2))
  xE2 : PySem.W.excIn c.K (c.ec 2) [.type "Exception", .type "BaseException", .type "object"] "Exception.__new__" = true
  kE2 : PySem.W.keepIn c.K (.ref (c.ec 2)) = true
  bE2 : PySem.W.subIn c.K (.ref (c.ec 2)) (.type "BaseException") = some true
  tE2 : PySem.W.typeIn c.K (.ref (c.ec 2)) = some (.type "type")
  mE3 : mg "TooMuch" = some (.ref (c.ec 3))
  xE3 : PySem.W.excIn c.K (c.ec 3) [.type "Exception", .type "BaseException", .type "object"] "Exception.__new__" = true
  kE3 : PySem.W.keepIn c.K (.ref (c.ec 3)) = true
  bE3 : PySem.W.subIn c.K (.ref (c.ec 3)) (.type "BaseException") = some true
  tE3 : PySem.W.typeIn c.K (.ref (c.ec 3)) = some (.type "type")
  apart : Apart c
theorem gsc_Web_dues : FnScope ["self"] ["self"] (defScope s_Web_dues) := ⟨rfl, rfl, rfl, by decide +kernel, rfl, by decide +kernel, by decide +kernel⟩
theorem gsc_Web_first : FnScope ["self"] ["self"] (defScope s_Web_first) := ⟨rfl, rfl, rfl, by decide +kernel, rfl, by decide +kernel, by decide +kernel⟩
theorem gsc_Web_greatest_due : FnScope ["self"] ["self"] (defScope s_Web_greatest_due) := ⟨rfl, rfl, rfl, by decide +kernel, rfl, by decide +kernel, by decide +kernel⟩
theorem gsc_Web_marks : FnScope ["self"] ["self"] (defScope s_Web_marks) := ⟨rfl, rfl, rfl, by decide +kernel, rfl, by decide +kernel, by decide +kernel⟩
theorem gsc_Web_second : FnScope ["self"] ["self"] (defScope s_Web_second) := ⟨rfl, rfl, rfl, by decide +kernel, rfl, by decide +kernel, by decide +kernel⟩
theorem gsc_Web_size : FnScope ["self"] ["self"] (defScope s_Web_size) := ⟨rfl, rfl, rfl, by decide +kernel, rfl, by decide +kernel, by decide +kernel⟩
abbrev Nn_is_integer : List Str := ["thing"]
theorem sc_is_integer : FnScope Nn_is_integer ["thing"] (defScope s_is_integer) := ⟨rfl, rfl, rfl, by decide +kernel, rfl, by decide +kernel, by decide +kernel⟩
abbrev Nn_check_whole : List Str := ["things", "thing"]
theorem sc_check_whole : FnScope Nn_check_whole ["things"] (defScope s_check_whole) := ⟨rfl, rfl, rfl, by decide +kernel, rfl, by decide +kernel, by decide +kernel⟩
abbrev Nn_whole_list : List Str := ["thing"]
theorem sc_whole_list : FnScope Nn_whole_list ["thing"] (defScope s_whole_list) := ⟨rfl, rfl, rfl, by decide +kernel, rfl, by decide +kernel, by decide +kernel⟩
abbrev Nn_check_range : List Str := ["number", "least", "most"]
theorem sc_check_range : FnScope Nn_check_range ["number", "least", "most"] (defScope s_check_range) := ⟨rfl, rfl, rfl, by decide +kernel, rfl, by decide +kernel, by decide +kernel⟩
abbrev Nn_check_least : List Str := ["number", "least"]
theorem sc_check_least : FnScope Nn_check_least ["number", "least"] (defScope s_check_least) := ⟨rfl, rfl, rfl, by decide +kernel, rfl, by decide +kernel, by decide +kernel⟩
abbrev Nn_check_most : List Str := ["number", "most"]
theorem sc_check_most : FnScope Nn_check_most ["number", "most"] (defScope s_check_most) := ⟨rfl, rfl, rfl, by decide +kernel, rfl, by decide +kernel, by decide +kernel⟩
abbrev Nn_as_stands : List Str := ["thing", "size", "stands", "stand"]
theorem sc_as_stands : FnScope Nn_as_stands ["thing", "size"] (defScope s_as_stands) := ⟨rfl, rfl, rfl, by decide +kernel, rfl, by decide +kernel, by decide +kernel⟩
abbrev Nn_is_due : List Str := ["due"]
theorem sc_is_due : FnScope Nn_is_due ["due"] (defScope s_is_due) := ⟨rfl, rfl, rfl, by decide +kernel, rfl, by decide +kernel, by decide +kernel⟩
abbrev Nn_due_in_range : List Str := ["due"]
theorem sc_due_in_range : FnScope Nn_due_in_range ["due"] (defScope s_due_in_range) := ⟨rfl, rfl, rfl, by decide +kernel, rfl, by decide +kernel, by decide +kernel⟩
abbrev Nn_due_too_great : List Str := ["due"]
theorem sc_due_too_great : FnScope Nn_due_too_great ["due"] (defScope s_due_too_great) := ⟨rfl, rfl, rfl, by decide +kernel, rfl, by decide +kernel, by decide +kernel⟩
abbrev Nn_check_due : List Str := ["due"]
theorem sc_check_due : FnScope Nn_check_due ["due"] (defScope s_check_due) := ⟨rfl, rfl, rfl, by decide +kernel, rfl, by decide +kernel, by decide +kernel⟩
abbrev Nn_check_kinds : List Str := ["first", "second", "marks", "dues", "steps", "due"]
theorem sc_check_kinds : FnScope Nn_check_kinds ["first", "second", "marks", "dues"] (defScope s_check_kinds) := ⟨rfl, rfl, rfl, by decide +kernel, rfl, by decide +kernel, by decide +kernel⟩
abbrev Nn_check_steps : List Str := ["first", "second", "stand", "steps", "step"]
theorem sc_check_steps : FnScope Nn_check_steps ["first", "second"] (defScope s_check_steps) := ⟨rfl, rfl, rfl, by decide +kernel, rfl, by decide +kernel, by decide +kernel⟩
abbrev Nn_check_parts : List Str := ["first", "second", "marks", "dues", "size", "mark", "due"]
theorem sc_check_parts : FnScope Nn_check_parts ["first", "second", "marks", "dues"] (defScope s_check_parts) := ⟨rfl, rfl, rfl, by decide +kernel, rfl, by decide +kernel, by decide +kernel⟩
abbrev Nn_Web_init : List Str := ["self", "first", "second", "marks", "dues", "size", "steps", "due", "stand"]
theorem sc_Web_init : FnScope Nn_Web_init ["self", "first", "second", "marks", "dues"] (defScope s_Web_init) := ⟨rfl, rfl, rfl, by decide +kernel, rfl, by decide +kernel, by decide +kernel⟩
abbrev Nn_check_web : List Str := ["thing"]
theorem sc_check_web : FnScope Nn_check_web ["thing"] (defScope s_check_web) := ⟨rfl, rfl, rfl, by decide +kernel, rfl, by decide +kernel, by decide +kernel⟩
abbrev Nn_stays_off : List Str := ["web", "stand", "kept", "step"]
theorem sc_stays_off : FnScope Nn_stays_off ["web", "stand", "kept"] (defScope s_stays_off) := ⟨rfl, rfl, rfl, by decide +kernel, rfl, by decide +kernel, by decide +kernel⟩
abbrev Nn_kept_off : List Str := ["web", "kept", "stand", "size"]
theorem sc_kept_off : FnScope Nn_kept_off ["web"] (defScope s_kept_off) := ⟨rfl, rfl, rfl, by decide +kernel, rfl, by decide +kernel, by decide +kernel⟩
abbrev Nn_bank_due_of : List Str := ["due"]
theorem sc_bank_due_of : FnScope Nn_bank_due_of ["due"] (defScope s_bank_due_of) := ⟨rfl, rfl, rfl, by decide +kernel, rfl, by decide +kernel, by decide +kernel⟩
abbrev Nn_least_of : List Str := ["parts", "number"]
theorem sc_least_of : FnScope Nn_least_of ["parts"] (defScope s_least_of) := ⟨rfl, rfl, rfl, by decide +kernel, rfl, by decide +kernel, by decide +kernel⟩
abbrev Nn_greatest_of : List Str := ["parts"]
theorem sc_greatest_of : FnScope Nn_greatest_of ["parts"] (defScope s_greatest_of) := ⟨rfl, rfl, rfl, by decide +kernel, rfl, by decide +kernel, by decide +kernel⟩
abbrev Nn_bank_high : List Str := ["web", "row", "stand", "step"]
theorem sc_bank_high : FnScope Nn_bank_high ["web", "row", "stand"] (defScope s_bank_high) := ⟨rfl, rfl, rfl, by decide +kernel, rfl, by decide +kernel, by decide +kernel⟩
abbrev Nn_bank_price_of : List Str := ["mark", "low", "highs", "more", "found", "x", "high"]
theorem sc_bank_price_of : FnScope Nn_bank_price_of ["mark", "low", "highs"] (defScope s_bank_price_of) := ⟨rfl, rfl, rfl, by decide +kernel, rfl, by decide +kernel, by decide +kernel⟩
abbrev Nn_next_bank_row : List Str := ["web", "row", "highs", "found", "stand", "due", "price", "low", "step"]
theorem sc_next_bank_row : FnScope Nn_next_bank_row ["web", "row", "highs"] (defScope s_next_bank_row) := ⟨rfl, rfl, rfl, by decide +kernel, rfl, by decide +kernel, by decide +kernel⟩
abbrev Nn_with_highs : List Str := ["web", "highs", "row", "stand", "told"]
theorem sc_with_highs : FnScope Nn_with_highs ["web", "highs", "row"] (defScope s_with_highs) := ⟨rfl, rfl, rfl, by decide +kernel, rfl, by decide +kernel, by decide +kernel⟩
abbrev Nn_rounds_by_highs : List Str := ["web", "highs", "rows", "due", "after"]
theorem sc_rounds_by_highs : FnScope Nn_rounds_by_highs ["web", "highs"] (defScope s_rounds_by_highs) := ⟨rfl, rfl, rfl, by decide +kernel, rfl, by decide +kernel, by decide +kernel⟩
abbrev Nn_bank_rows : List Str := ["web", "most", "highs", "_", "found", "row"]
theorem sc_bank_rows : FnScope Nn_bank_rows ["web", "most"] (defScope s_bank_rows) := ⟨rfl, rfl, rfl, by decide +kernel, rfl, by decide +kernel, by decide +kernel⟩
abbrev Nn_law_draw : List Str := ["_law_pot_here", "_law_many"]
theorem sc_law_draw : FnScope Nn_law_draw ["_law_pot_here", "_law_many"] (defScope s_law_draw) := ⟨rfl, rfl, rfl, by decide +kernel, rfl, by decide +kernel, by decide +kernel⟩
abbrev Nn_law_whole : List Str := ["_law_thing"]
theorem sc_law_whole : FnScope Nn_law_whole ["_law_thing"] (defScope s_law_whole) := ⟨rfl, rfl, rfl, by decide +kernel, rfl, by decide +kernel, by decide +kernel⟩
abbrev Nn_law_lot : List Str := ["_law_pot_here", "_law_size", "_law_lot_here", "_law_turn", "_law_step"]
theorem sc_law_lot : FnScope Nn_law_lot ["_law_pot_here", "_law_size"] (defScope s_law_lot) := ⟨rfl, rfl, rfl, by decide +kernel, rfl, by decide +kernel, by decide +kernel⟩
abbrev Nn_law_due : List Str := ["_law_pot_here", "_law_word"]
theorem sc_law_due : FnScope Nn_law_due ["_law_pot_here"] (defScope s_law_due) := ⟨rfl, rfl, rfl, by decide +kernel, rfl, by decide +kernel, by decide +kernel⟩
abbrev Nn_law_marks : List Str := ["_law_pot_here", "_law_size", "_law_style", "_law_stand"]
theorem sc_law_marks : FnScope Nn_law_marks ["_law_pot_here", "_law_size"] (defScope s_law_marks) := ⟨rfl, rfl, rfl, by decide +kernel, rfl, by decide +kernel, by decide +kernel⟩
abbrev Nn_law_path : List Str := ["_law_size", "_law_lots", "_law_stand", "_law_low_here", "_law_high_here"]
theorem sc_law_path : FnScope Nn_law_path ["_law_size"] (defScope s_law_path) := ⟨rfl, rfl, rfl, by decide +kernel, rfl, by decide +kernel, by decide +kernel⟩
abbrev Nn_law_web : List Str := ["_law_pot_here", "_law_most", "_law_even", "_law_size", "_law_shape", "_law_first", "_law_dues", "_law_stand", "_law_second", "_law_lot_here", "_law_is_end", "_law_due_here"]
theorem sc_law_web : FnScope Nn_law_web ["_law_pot_here", "_law_most", "_law_even"] (defScope s_law_web) := ⟨rfl, rfl, rfl, by decide +kernel, rfl, by decide +kernel, by decide +kernel⟩
abbrev Nn_law_low : List Str := ["_law_web_here", "_law_row", "_law_stand", "_law_step"]
theorem sc_law_low : FnScope Nn_law_low ["_law_web_here", "_law_row", "_law_stand"] (defScope s_law_low) := ⟨rfl, rfl, rfl, by decide +kernel, rfl, by decide +kernel, by decide +kernel⟩
abbrev Nn_law_high : List Str := ["_law_web_here", "_law_row", "_law_stand", "_law_step"]
theorem sc_law_high : FnScope Nn_law_high ["_law_web_here", "_law_row", "_law_stand"] (defScope s_law_high) := ⟨rfl, rfl, rfl, by decide +kernel, rfl, by decide +kernel, by decide +kernel⟩
abbrev Nn_law_made : List Str := ["_law_web_here", "_law_lot_here"]
theorem sc_law_made : FnScope Nn_law_made ["_law_web_here"] (defScope s_law_made) := ⟨rfl, rfl, rfl, by decide +kernel, rfl, by decide +kernel, by decide +kernel⟩
abbrev Nn_law_bank_cost : List Str := ["_law_web_here", "_law_rows", "_law_row", "_law_b", "_law_stand", "_law_most", "_law_low_here", "_law_best", "_law_x", "_law_rest", "_law_high_here", "_law_cost"]
theorem sc_law_bank_cost : FnScope Nn_law_bank_cost ["_law_web_here", "_law_rows", "_law_row", "_law_b", "_law_stand", "_law_most"] (defScope s_law_bank_cost) := ⟨rfl, rfl, rfl, by decide +kernel, rfl, by decide +kernel, by decide +kernel⟩
abbrev Nn_law_bank_rows : List Str := ["_law_web_here", "_law_most_b", "_law_most", "_law_dues", "_law_due_here", "_law_rows", "_law_b", "_law_row", "_law_turn", "_law_after", "_law_stand"]
theorem sc_law_bank_rows : FnScope Nn_law_bank_rows ["_law_web_here", "_law_most_b"] (defScope s_law_bank_rows) := ⟨rfl, rfl, rfl, by decide +kernel, rfl, by decide +kernel, by decide +kernel⟩
abbrev Nn_law_bare : List Str := ["_law_web_here", "_law_dues", "_law_due_here"]
theorem sc_law_bare : FnScope Nn_law_bare ["_law_web_here"] (defScope s_law_bare) := ⟨rfl, rfl, rfl, by decide +kernel, rfl, by decide +kernel, by decide +kernel⟩
abbrev Nn_law_kept : List Str := ["_law_web_here", "_law_left", "_law_stand", "_law_turn", "_law_after", "_law_firsts", "_law_step", "_law_seconds"]
theorem sc_law_kept : FnScope Nn_law_kept ["_law_web_here"] (defScope s_law_kept) := ⟨rfl, rfl, rfl, by decide +kernel, rfl, by decide +kernel, by decide +kernel⟩
abbrev Nn_law : List Str := ["_law_script", "_law_pot_here", "_law_web_here", "_law_size", "_law_bare_here", "_law_kept_here", "_law_told", "_law_most", "_law_great", "_law_due_here", "_law_table", "_law_plain", "_law_own", "_law_b", "_law_stand", "_law_number"]
theorem sc_law : FnScope Nn_law ["_law_script"] (defScope s_law) := ⟨rfl, rfl, rfl, by decide +kernel, rfl, by decide +kernel, by decide +kernel⟩
abbrev Nn_law_pot : List Str := ["_law_script", "_law_pot_here", "_law_place", "_law_number", "_law_shift", "_law_turn", "_law_mixed"]
theorem sc_law_pot : FnScope Nn_law_pot ["_law_script"] (defScope s_law_pot) := ⟨rfl, rfl, rfl, by decide +kernel, rfl, by decide +kernel, by decide +kernel⟩
end K63
namespace PL
open PySem L2 Den
@[simp] theorem fLen_dI (ns : List Int) : fLen [dI ns] = some (.int ns.length) := by show some (D.int ((ns.map D.int).length : Int)) = _; rw [List.length_map]
@[simp] theorem lstOf_dI (ns : List Int) : lstOf (dI ns) = some (ns.map .int) := rfl
@[simp] theorem seqOf_dI (ns : List Int) : seqOf (dI ns) = some (ns.map .int) := rfl
@[simp] theorem fSeq1_dI (ns : List Int) : fSeq1 [dI ns] = some (ns.map .int) := rfl
@[simp] theorem fTuple_dI (ns : List Int) : fTuple [dI ns] = some (.tup (ns.map .int)) := rfl
@[simp] theorem truOf_dI (ns : List Int) : truOf (dI ns) = some (!ns.isEmpty) := by show some (!(ns.map D.int).isEmpty) = _; cases ns <;> rfl
@[simp] theorem truOf_dS (ns : List Int) : truOf (dS ns) = some (!(sortSet ns).isEmpty) := by show some (!((sortSet ns).map D.int).isEmpty) = _; cases sortSet ns <;> rfl
@[simp] theorem tupOf_dS (ns : List Int) : tupOf (dS ns) = some ((sortSet ns).map .int) := rfl
@[simp] theorem fIx_dI (ns : List Int) (i : Int) : fIx (dI ns) (.int i) = atI (ns.map .int) i := rfl
theorem is_integer_int (i : Int) (p : List Int) : D_is_integer [.int i] p = .ok (.bl true) p := by
  simp [D_is_integer, denF, dn_is_integer, locOf, mvar, fIs1, tyN, isTy]
theorem draw_ev (n : Int) (hn : 0 < n) (ps : List Int) : ∃ v q, D_law_draw [.pot, .int n] ps = .ok (.int v) q ∧ 0 ≤ v ∧ v < n := by
  have hd : ps = [] ∨ ∃ v, ps[ps.length - 1]? = some v ∧ ps ≠ [] := by
    cases ps with
    | nil => exact .inl rfl
    | cons a r => exact .inr ⟨_, List.getElem?_eq_getElem (by simp), by simp⟩
  unfold D_law_draw denF dn_law_draw
  rcases hd with rfl | ⟨v, hv, hl⟩
  · exact ⟨0, [], by simp [locOf, mlenp, mvar], by omega, hn⟩
  · exact ⟨v % n, ps.dropLast, by simp [locOf, mlenp, mvar, mpop, hl, hv, fMod_int hn], Int.emod_nonneg _ (by omega), Int.emod_lt_of_pos _ hn⟩
/-- all of these are whole numbers -/
theorem check_whole_ok (ds : List D) (h : ∀ d ∈ ds, ∃ i, d = .int i) (hl : ds.length ≤ 1000) (p : List Int) : D_check_whole ds p = .ok .non p := by
  have key : ∃ l' p', loop (gset 1) (sif (mnot (mtru (mcall D_is_integer (acons (mvar 1) anil)))) (sraise 0) sskip) ds [some (.dat (.tup ds)), none] p = .nx l' p' ∧ l'.length = 2 ∧ p' = p := by
    refine loop_run (fun _ l q => l.length = 2 ∧ q = p) (k := 0) ⟨rfl, rfl⟩ fun i d l q hd hI => ?_
    obtain ⟨i, rfl⟩ := h d (List.mem_of_getElem? hd)
    obtain ⟨hl, rfl⟩ := hI
    refine ⟨_, lset_lt 1 _ _ (by omega), l.set 1 (some (.dat (.int i))), q, .inl ?_, by simp [hl]⟩
    simp [mvar, hl, is_integer_int]
  obtain ⟨l', p', e, _, rfl⟩ := key
  unfold D_check_whole
  rw [if_pos hl]
  simp [denStar, denF, dn_check_whole, locOf, mvar, e]
theorem whole_list_ok {d : D} {ds : List D} (hd : seqOf d = some ds) (h : ∀ d ∈ ds, ∃ i, d = .int i) (hl : ds.length ≤ 1000) (p : List Int) : D_whole_list [d] p = .ok (.tup ds) p := by
  cases d with
  | lst ds' => cases hd; simp [D_whole_list, denF, dn_whole_list, locOf, mvar, fIs2, tyN, isTy, mstar, check_whole_ok _ h hl]
  | tup ds' => cases hd; simp [D_whole_list, denF, dn_whole_list, locOf, mvar, fIs2, tyN, isTy, mstar, check_whole_ok _ h hl]
  | _ => cases hd
theorem check_range_ev (a b e : Int) (p : List Int) : D_check_range [.int a, .int b, .int e] p = if b ≤ a ∧ a ≤ e then .ok .non p else .err 1 p := by
  unfold D_check_range denF dn_check_range
  by_cases h1 : a < b
  · have : ¬ (b ≤ a ∧ a ≤ e) := by omega
    simp [locOf, mvar, h1, this]
  · by_cases h2 : e < a
    · have : ¬ (b ≤ a ∧ a ≤ e) := by omega
      simp [locOf, mvar, h1, h2, this]
    · have : b ≤ a ∧ a ≤ e := by omega
      simp [locOf, mvar, h1, h2, this]
theorem check_least_ev (a b : Int) (p : List Int) : D_check_least [.int a, .int b] p = if b ≤ a then .ok .non p else .err 1 p := by
  by_cases h : a < b
  · have : ¬ b ≤ a := by omega
    simp [D_check_least, denF, dn_check_least, locOf, mvar, h, this]
  · have : b ≤ a := by omega
    simp [D_check_least, denF, dn_check_least, locOf, mvar, h, this]
theorem check_most_ev (a b : Int) (p : List Int) : D_check_most [.int a, .int b] p = if a ≤ b then .ok .non p else .err 3 p := by
  by_cases h : b < a
  · have : ¬ a ≤ b := by omega
    simp [D_check_most, denF, dn_check_most, locOf, mvar, h, this]
  · have : a ≤ b := by omega
    simp [D_check_most, denF, dn_check_most, locOf, mvar, h, this]
theorem intsOf_map : ∀ (ns : List Int), intsOf (ns.map D.int) = some ns
  | [] => rfl
  | n :: ns => by simp [intsOf, intsOf_map ns]
end PL
namespace PL
open PySem L2 Den
def wrd (b : Bool) : Str := if b then "chips" else "less"
theorem dDue_some (b : Bool) (x : Int) : dDue (some (b, x)) = .tup [.str (wrd b), .int x] := by cases b <;> rfl
theorem inV_wrd (b : Bool) : inV (V.str (wrd b)) [V.str "chips", V.str "less"] = true := by cases b <;> decide +kernel
theorem inB_wrd (b : Bool) : fInB false (.str (wrd b)) (.tup [.str "chips", .str "less"]) = some (.bl true) := by
  show some (D.bl (inV (V.str (wrd b)) [V.str "chips", V.str "less"])) = _
  rw [inV_wrd]
theorem eqv_3 (n : Int) : PyData.eqv (.list [.int n, .int n, .int n]) (.list [.int n, .int n, .int n]) = true := by
  simp [PyData.eqv, PyData.eqvAll]
theorem fEqD_3 (neg : Bool) (n : Int) : fEqD neg (.lst [.int n, .int n, .int n]) (.lst [.int n, .int n, .int n]) = some (.bl (if neg then false else true)) := by
  have e : pd (.lst [.int n, .int n, .int n]) = some (.list [.int n, .int n, .int n]) := by simp [pd, pdL]
  unfold fEqD
  rw [e]
  simp [PyData.depth, PyData.depthAll, eqv_3]
theorem mark_in (m : Int) (h : m = 1 ∨ m = 2) : fInB true (.int m) (.tup [.int 1, .int 2]) = some (.bl false) := by
  show some (D.bl (!inV (V.int m) [V.int 1, V.int 2])) = _
  rcases h with rfl | rfl <;> rfl
end PL
namespace PL
open PySem L2 Den
theorem seq_nx {a b : MS} {l l' : Den.Loc} {p p' : List Int} (h : a l p = .nx l' p') : sseq a b l p = b l' p' := sseq_nx a b l l' p p' h
theorem pd_dS (ss : List Int) : pd (dS ss) = some (.tuple ((sortSet ss).map .int)) := by
  have : ∀ ns : List Int, pdL (ns.map D.int) = some (ns.map .int) := fun ns => by
    induction ns with
    | nil => rfl
    | cons n ns ih => simp [pdL, pd, ih]
  simp [dS, pd, this]
theorem pdL_dS (l : List (List Int)) : pdL (l.map dS) = some (l.map fun ss => .tuple ((sortSet ss).map .int)) := by
  induction l with
  | nil => rfl
  | cons s l ih => simp [pdL, pd_dS, ih]
theorem depth_ints (ns : List Int) : PyData.depthAll (ns.map .int) = 0 := by
  induction ns with
  | nil => rfl
  | cons n ns ih => simp [PyData.depthAll, PyData.depth, ih]
theorem depth_ll (l : List (List Int)) : PyData.depthAll (l.map fun ss => .tuple ((sortSet ss).map .int)) ≤ 1 := by
  induction l with
  | nil => exact Nat.zero_le _
  | cons s l ih => simp [PyData.depthAll, PyData.depth, depth_ints]; omega
theorem even_ev (wb : Wb) : fEqD false (.tup (wb.first.map dS)) (.tup (wb.second.map dS)) = some (.bl (evB wb)) := by
  have e1 : pd (.tup (wb.first.map dS)) = some (.tuple (wb.first.map fun ss => .tuple ((sortSet ss).map .int))) := by simp [pd, pdL_dS]
  have e2 : pd (.tup (wb.second.map dS)) = some (.tuple (wb.second.map fun ss => .tuple ((sortSet ss).map .int))) := by simp [pd, pdL_dS]
  unfold fEqD evB
  rw [e1, e2]
  have h1 := depth_ll wb.first
  have h2 := depth_ll wb.second
  dsimp only
  rw [if_pos (by simp only [PyData.depth]; omega)]
  rfl
end PL
namespace PL
open PySem L2 Den
section
variable (b : Bool) (ds : List D)
@[simp] theorem seqOf_sq : seqOf (sqD b ds) = some ds := by cases b <;> rfl
@[simp] theorem fLen_sq : fLen [sqD b ds] = some (.int ds.length) := by cases b <;> rfl
@[simp] theorem fIx_sq (i : Int) : fIx (sqD b ds) (.int i) = atI ds i := by cases b <;> rfl
@[simp] theorem fTuple_sq : fTuple [sqD b ds] = some (.tup ds) := by cases b <;> rfl
@[simp] theorem truOf_sq : truOf (sqD b ds) = some (!ds.isEmpty) := by cases b <;> rfl
@[simp] theorem fSeq1_sq : fSeq1 [sqD b ds] = some ds := by cases b <;> rfl
@[simp] theorem isNon_sq : isNon (sqD b ds) = false := by cases b <;> rfl
@[simp] theorem enumS_sq : enumS [sqD b ds] = some (enumD 0 ds) := by cases b <;> rfl
@[simp] theorem fIs2_sq : fIs2 [sqD b ds, .tup [.ty .lst, .ty .tup]] = some (.bl true) := by cases b <;> simp [sqD, fIs2, tyN, isTy]
@[simp] theorem fBool_sq : fBoolS [sqD b ds] = some (.bl (!ds.isEmpty)) := by simp [fBoolS]
end
section
variable (s : Bool × List Int)
@[simp] theorem seqOf_sqI : seqOf (sqI s) = some (s.2.map .int) := seqOf_sq _ _
@[simp] theorem fLen_sqI : fLen [sqI s] = some (.int s.2.length) := by rw [sqI, fLen_sq, List.length_map]
@[simp] theorem fTuple_sqI : fTuple [sqI s] = some (.tup (s.2.map .int)) := fTuple_sq _ _
@[simp] theorem isEmpty_mapI : (s.2.map D.int).isEmpty = s.2.isEmpty := by cases s.2 <;> rfl
@[simp] theorem truOf_sqI : truOf (sqI s) = some (!s.2.isEmpty) := by rw [sqI, truOf_sq, isEmpty_mapI]
@[simp] theorem fBool_sqI : fBoolS [sqI s] = some (.bl (!s.2.isEmpty)) := by rw [sqI, fBool_sq, isEmpty_mapI]
@[simp] theorem fSeq1_sqI : fSeq1 [sqI s] = some (s.2.map .int) := fSeq1_sq _ _
end
theorem as_stands_sq (s : Bool × List Int) (n : Int) (hl : s.2.length < 64) (h : ∀ x ∈ s.2, 0 ≤ x ∧ x < n) (p : List Int) : D_as_stands [sqI s, .int n] p = .ok (dS s.2) p := by
  have hw : D_whole_list [sqI s] p = .ok (.tup (s.2.map .int)) p := whole_list_ok (seqOf_sqI s) (fun d hd => by
    obtain ⟨i, _, e⟩ := List.mem_map.mp hd
    exact ⟨i, e.symm⟩) (by rw [List.length_map]; omega) p
  obtain ⟨o', e⟩ := loop_env (i := 3) (fun o => [some (.dat (sqI s)), some (.dat (.int n)), some (.dat (.tup (s.2.map .int))), o]) (p := p) (body := sdrop (mcall D_check_range (acons (mvar 3) (acons (mret (D.int 0)) (acons (op2 fSub (mvar 1) (mret (D.int 1))) anil))))) (fun _ _ => rfl) (ds := s.2.map .int) (fun d hd => by
    obtain ⟨x, hx, rfl⟩ := List.mem_map.mp hd
    have hr : 0 ≤ x ∧ x ≤ n - 1 := by have := h x hx; omega
    simp [mvar, check_range_ev, hr]) none
  simp [D_as_stands, denF, dn_as_stands, locOf, mvar, hw] at e ⊢
  simp [mvar, e, fSortSet, intsOf_map, hl, dS]
theorem sqDue_cases (d : Bool × Due) : sqDue d = .non ∧ d.2 = none ∨ ∃ b x, sqDue d = sqD d.1 [.str (wrd b), .int x] ∧ d.2 = some (b, x) := by
  obtain ⟨a, d⟩ := d
  rcases d with _ | ⟨b, x⟩
  · exact .inl ⟨rfl, rfl⟩
  · exact .inr ⟨b, x, rfl, rfl⟩
theorem is_due_sq (d : Bool × Due) (p : List Int) : D_is_due [sqDue d] p = .ok (.bl true) p := by
  rcases sqDue_cases d with ⟨e, _⟩ | ⟨b, x, e, _⟩ <;> rw [e]
  · simp [D_is_due, denF, dn_is_due, locOf, mvar]
  · simp [D_is_due, denF, dn_is_due, locOf, mvar, fIs1, tyN, isTy, is_integer_int]
theorem check_due_sq (d : Bool × Due) (p : List Int) : D_check_due [sqDue d] p = .ok .non p := by
  simp [D_check_due, denF, dn_check_due, locOf, mvar, is_due_sq]
theorem due_in_range_sq (d : Bool × Due) (h : ∀ b x, d.2 = some (b, x) → 0 ≤ x) (p : List Int) : D_due_in_range [sqDue d] p = .ok (.bl true) p := by
  rcases sqDue_cases d with ⟨e, _⟩ | ⟨b, x, e, e2⟩ <;> rw [e]
  · simp [D_due_in_range, denF, dn_due_in_range, locOf, mvar]
  · have hx := h b x e2
    simp [D_due_in_range, denF, dn_due_in_range, locOf, mvar, inB_wrd, hx]
theorem due_too_great_sq (d : Bool × Due) (h : ∀ b x, d.2 = some (b, x) → x ≤ 10000000000000000000000000000000000000000) (p : List Int) : D_due_too_great [sqDue d] p = .ok (.bl false) p := by
  rcases sqDue_cases d with ⟨e, _⟩ | ⟨b, x, e, e2⟩ <;> rw [e]
  · simp [D_due_too_great, denF, dn_due_too_great, locOf, mvar]
  · have hx := h b x e2
    have : ¬ ((10000000000000000000000000000000000000000 : Int) < x) := by omega
    simp [D_due_too_great, denF, dn_due_too_great, locOf, mvar, this]
theorem whole_sq (s : Bool × List Int) (hl : s.2.length ≤ 1000) (p : List Int) : D_whole_list [sqI s] p = .ok (.tup (s.2.map .int)) p :=
  whole_list_ok (seqOf_sqI s) (fun d hd => by
    obtain ⟨i, _, e⟩ := List.mem_map.mp hd
    exact ⟨i, e.symm⟩) (by rw [List.length_map]; exact hl) p
section
variable {g : Wg}
theorem Wg.first_of (V : ValidG g.wb) : g.first.2.length = g.marks.2.length := by have := V.l1; simpa [Wg.wb] using this
theorem Wg.second_of (V : ValidG g.wb) : g.second.2.length = g.marks.2.length := by have := V.l2; simpa [Wg.wb] using this
theorem Wg.dues_of (V : ValidG g.wb) : g.dues.2.length = g.marks.2.length := by have := V.l3; simpa [Wg.wb] using this
theorem Wg.n1_of (V : ValidG g.wb) : 1 ≤ g.marks.2.length := V.n1
theorem Wg.n2_of (V : ValidG g.wb) : g.marks.2.length ≤ 60 := V.n2
theorem Wg.fst_of (V : ValidG g.wb) {s : Bool × List Int} (h : s ∈ g.first.2) : s.2.length < 64 ∧ ∀ x ∈ s.2, 0 ≤ x ∧ x < (g.marks.2.length : Int) := V.s1 _ (List.mem_map_of_mem h)
theorem Wg.snd_of (V : ValidG g.wb) {s : Bool × List Int} (h : s ∈ g.second.2) : s.2.length < 64 ∧ ∀ x ∈ s.2, 0 ≤ x ∧ x < (g.marks.2.length : Int) := V.s2 _ (List.mem_map_of_mem h)
theorem Wg.du_of (V : ValidG g.wb) {d : Bool × Due} (h : d ∈ g.dues.2) (b : Bool) (x : Int) (e : d.2 = some (b, x)) : 0 ≤ x ∧ x ≤ 10000000000000000000000000000000000000000 := V.du d.2 (List.mem_map_of_mem h) b x e
theorem check_kinds_sq (V : ValidG g.wb) (p : List Int) : D_check_kinds_k09 (encG g) p = .ok .non p := by
  obtain ⟨o1, e1⟩ := loop_env (i := 4) (fun o => [some (.dat (sqD g.first.1 (g.first.2.map sqI))), some (.dat (sqD g.second.1 (g.second.2.map sqI))), some (.dat (sqI g.marks)), some (.dat (sqD g.dues.1 (g.dues.2.map sqDue))), o, none]) (p := p)
    (body := L_check_kinds_k09_1) (fun _ _ => rfl) (ds := [sqD g.first.1 (g.first.2.map sqI), sqD g.second.1 (g.second.2.map sqI), sqD g.dues.1 (g.dues.2.map sqDue)]) (fun d hd => by
      simp only [List.mem_cons, List.not_mem_nil, or_false] at hd
      rcases hd with rfl | rfl | rfl <;> simp [L_check_kinds_k09_1, mvar]) none
  obtain ⟨o2, e2⟩ := loop_env (i := 4) (fun o => [some (.dat (sqD g.first.1 (g.first.2.map sqI))), some (.dat (sqD g.second.1 (g.second.2.map sqI))), some (.dat (sqI g.marks)), some (.dat (sqD g.dues.1 (g.dues.2.map sqDue))), o, none]) (p := p)
    (body := L_check_kinds_k09_2) (fun _ _ => rfl) (ds := g.first.2.map sqI ++ (g.second.2.map sqI ++ [sqI g.marks])) (fun d hd => by
      have : ∃ s : Bool × List Int, d = sqI s ∧ s.2.length ≤ 1000 := by
        simp only [List.mem_append, List.mem_cons, List.not_mem_nil, or_false] at hd
        rcases hd with h | h | h
        · obtain ⟨ss, hs, e⟩ := List.mem_map.mp h
          exact ⟨ss, e.symm, by have := (Wg.fst_of V hs).1; omega⟩
        · obtain ⟨ss, hs, e⟩ := List.mem_map.mp h
          exact ⟨ss, e.symm, by have := (Wg.snd_of V hs).1; omega⟩
        · exact ⟨_, h, by have := Wg.n2_of V; omega⟩
      obtain ⟨s, rfl, hl⟩ := this
      simp [L_check_kinds_k09_2, mvar, whole_sq s hl]) o1
  obtain ⟨o3, e3⟩ := loop_env (i := 5) (fun o => [some (.dat (sqD g.first.1 (g.first.2.map sqI))), some (.dat (sqD g.second.1 (g.second.2.map sqI))), some (.dat (sqI g.marks)), some (.dat (sqD g.dues.1 (g.dues.2.map sqDue))), o2, o]) (p := p)
    (body := L_check_kinds_k09_3) (fun _ _ => rfl) (ds := g.dues.2.map sqDue) (fun d hd => by
      obtain ⟨x, _, rfl⟩ := List.mem_map.mp hd
      simp [L_check_kinds_k09_3, mvar, check_due_sq]) none
  have h1 := Wg.first_of V
  have h2 := Wg.second_of V
  have h3 := Wg.n2_of V
  have hz : g.marks.2.length + (g.marks.2.length + 1) ≤ 1000 := by omega
  simp [D_check_kinds_k09, denF, dn_check_kinds_k09, b_check_kinds_k09_1, b_check_kinds_k09_2, b_check_kinds_k09_3, locOf, encG, mvar, astar, e1, h1, h2, hz, -List.map_map]
  simp [mvar, e2, e3, -List.map_map]
theorem check_steps_sq (V : ValidG g.wb) (p : List Int) : D_check_steps_k09 [sqD g.first.1 (g.first.2.map sqI), sqD g.second.1 (g.second.2.map sqI)] p = .ok .non p := by
  have key : ∃ l' p', loop (gset2 2 3) L_check_steps_k09_1 (enumD 0 (g.first.2.map sqI)) [some (.dat (sqD g.first.1 (g.first.2.map sqI))), some (.dat (sqD g.second.1 (g.second.2.map sqI))), none, none, none] p = .nx l' p' ∧ (p' = p ∧ ∃ a b e, l' = [some (.dat (sqD g.first.1 (g.first.2.map sqI))), some (.dat (sqD g.second.1 (g.second.2.map sqI))), a, b, e]) := by
    refine loop_run (fun (_ : Nat) (l : Den.Loc) (q : List Int) => q = p ∧ ∃ a b e, l = [some (.dat (sqD g.first.1 (g.first.2.map sqI))), some (.dat (sqD g.second.1 (g.second.2.map sqI))), a, b, e]) (k := 0) ⟨rfl, _, _, _, rfl⟩ fun i d l q hd hI => ?_
    obtain ⟨rfl, a, b, e, rfl⟩ := hI
    have hi : i < g.first.2.length := by
      have := (List.getElem?_eq_some_iff.mp hd).1
      rwa [enumD_len, List.length_map] at this
    have hi2 : i < g.second.2.length := by rw [Wg.second_of V, ← Wg.first_of V]; exact hi
    have g1 : (g.first.2.map sqI)[i]? = some (sqI g.first.2[i]) := by rw [List.getElem?_map, List.getElem?_eq_getElem hi]; rfl
    have g2 : (g.second.2.map sqI)[i]? = some (sqI g.second.2[i]) := by rw [List.getElem?_map, List.getElem?_eq_getElem hi2]; rfl
    have hde := enumD_get (g.first.2.map sqI) 0 i _ g1
    rw [Nat.zero_add, hd] at hde
    cases hde
    have g3 : atI (g.second.2.map sqI) (i : Int) = some (sqI g.second.2[i]) := atI_nat g2
    obtain ⟨z1, y1⟩ := Wg.fst_of V (List.getElem_mem hi)
    obtain ⟨z2, y2⟩ := Wg.snd_of V (List.getElem_mem hi2)
    obtain ⟨o', e1⟩ := loop_env (i := 4) (fun o => [some (.dat (sqD g.first.1 (g.first.2.map sqI))), some (.dat (sqD g.second.1 (g.second.2.map sqI))), some (.dat (.int i)), some (.dat (sqI g.first.2[i])), o]) (p := q)
      (body := L_check_steps_k09_1l1) (fun _ _ => rfl) (ds := (g.first.2[i].2.map D.int) ++ (g.second.2[i].2.map D.int)) (fun d hd => by
        have : ∃ x : Int, d = .int x ∧ 0 ≤ x ∧ x < g.marks.2.length := by
          rcases List.mem_append.mp hd with h | h
          · obtain ⟨x, hx, e⟩ := List.mem_map.mp h
            exact ⟨x, e.symm, y1 x hx⟩
          · obtain ⟨x, hx, e⟩ := List.mem_map.mp h
            exact ⟨x, e.symm, y2 x hx⟩
        obtain ⟨x, rfl, h0, h1⟩ := this
        have n1 : ¬ x < 0 := by omega
        have n2 : ¬ ((g.first.2.length : Int) ≤ x) := by rw [Wg.first_of V]; omega
        simp [L_check_steps_k09_1l1, mvar, n1, n2]) e
    have hb := V.both i _ _ (show (g.first.2.map Prod.snd)[i]? = some g.first.2[i].2 by rw [List.getElem?_map, List.getElem?_eq_getElem hi]; rfl) (show (g.second.2.map Prod.snd)[i]? = some g.second.2[i].2 by rw [List.getElem?_map, List.getElem?_eq_getElem hi2]; rfl)
    have hz : g.first.2[i].2.length + g.second.2[i].2.length ≤ 1000 := by omega
    refine ⟨[some (.dat (sqD g.first.1 (g.first.2.map sqI))), some (.dat (sqD g.second.1 (g.second.2.map sqI))), some (.dat (.int i)), some (.dat (sqI g.first.2[i])), e], by simp [gset2, gset], [some (.dat (sqD g.first.1 (g.first.2.map sqI))), some (.dat (sqD g.second.1 (g.second.2.map sqI))), some (.dat (.int i)), some (.dat (sqI g.first.2[i])), o'], q, .inl ?_, rfl, _, _, _, rfl⟩
    simp [L_check_steps_k09_1, b_check_steps_k09_1l1, b_check_steps_k09_1l2, astar, mvar, g3, hz, e1, hb, fNe, sc, scal]
  obtain ⟨l', p', e, rfl, _⟩ := key
  simp [D_check_steps_k09, denF, dn_check_steps_k09, locOf, mvar, -List.map_map]
  rw [e]
  rfl
theorem check_parts_sq (V : ValidG g.wb) (p : List Int) : D_check_parts_k09 (encG g) p = .ok .non p := by
  have n1 := Wg.n1_of V
  have n2 := Wg.n2_of V
  have l1 := Wg.first_of V
  have l2 := Wg.second_of V
  have l3 := Wg.dues_of V
  obtain ⟨o1, e1⟩ := loop_env (i := 5) (fun o => [some (.dat (sqD g.first.1 (g.first.2.map sqI))), some (.dat (sqD g.second.1 (g.second.2.map sqI))), some (.dat (sqI g.marks)), some (.dat (sqD g.dues.1 (g.dues.2.map sqDue))), some (.dat (.int g.marks.2.length)), o, none]) (p := p)
    (body := L_check_parts_k09_5) (fun _ _ => rfl) (ds := g.marks.2.map .int) (fun d hd => by
      obtain ⟨m, hm, rfl⟩ := List.mem_map.mp hd
      simp [L_check_parts_k09_5, mvar, mark_in m (V.mks m hm)]) none
  obtain ⟨o2, e2⟩ := loop_env (i := 6) (fun o => [some (.dat (sqD g.first.1 (g.first.2.map sqI))), some (.dat (sqD g.second.1 (g.second.2.map sqI))), some (.dat (sqI g.marks)), some (.dat (sqD g.dues.1 (g.dues.2.map sqDue))), some (.dat (.int g.marks.2.length)), o1, o]) (p := p)
    (body := L_check_parts_k09_6) (fun _ _ => rfl) (ds := g.dues.2.map sqDue) (fun d hd => by
      obtain ⟨x, hx, rfl⟩ := List.mem_map.mp hd
      simp [L_check_parts_k09_6, mvar, due_in_range_sq x (fun b y e => (Wg.du_of V hx b y e).1)]) none
  obtain ⟨o3, e3⟩ := loop_env (i := 6) (fun o => [some (.dat (sqD g.first.1 (g.first.2.map sqI))), some (.dat (sqD g.second.1 (g.second.2.map sqI))), some (.dat (sqI g.marks)), some (.dat (sqD g.dues.1 (g.dues.2.map sqDue))), some (.dat (.int g.marks.2.length)), o1, o]) (p := p)
    (body := L_check_parts_k09_8) (fun _ _ => rfl) (ds := g.dues.2.map sqDue) (fun d hd => by
      obtain ⟨x, hx, rfl⟩ := List.mem_map.mp hd
      simp [L_check_parts_k09_8, mvar, due_too_great_sq x (fun b y e => (Wg.du_of V hx b y e).2)]) o2
  have hk := check_kinds_sq V p
  have hs := check_steps_sq V p
  have hm := check_most_ev (g.marks.2.length : Int) 60 p
  rw [if_pos (by omega)] at hm
  have hne : ¬ g.marks.2 = [] := fun z => by rw [z] at n1; simp at n1
  have hrep : fRep (.lst [.int (g.marks.2.length : Int)]) (.int 3) = some (.lst [.int g.marks.2.length, .int g.marks.2.length, .int g.marks.2.length]) := rfl
  simp only [encG] at hk
  simp [D_check_parts_k09, denF, dn_check_parts_k09, b_check_parts_k09_1, b_check_parts_k09_2, b_check_parts_k09_3, b_check_parts_k09_4, b_check_parts_k09_5, b_check_parts_k09_6, b_check_parts_k09_7, b_check_parts_k09_8, locOf, encG, mvar, hk, l1, l2, l3, hne, hrep, fEqD_3, hs, e1, e2, hm, e3, -List.map_map]
end
end PL
namespace PL
open PySem L2 Den
section
variable {g : Wg}
def locW (g : Wg) (o : Option L) : Den.Loc := [o, some (.dat (sqD g.first.1 (g.first.2.map sqI))), some (.dat (sqD g.second.1 (g.second.2.map sqI))), some (.dat (sqI g.marks)), some (.dat (sqD g.dues.1 (g.dues.2.map sqDue))), some (.dat (.int g.marks.2.length)), none, none, none]
theorem wA (V : ValidG g.wb) (p : List Int) (o : Option L) : c_Web_init_k09_1 (locW g o) p = .ok (g.wb.first.map dS) p := by
  have l1 := Wg.first_of V
  have n2 := Wg.n2_of V
  unfold c_Web_init_k09_1
  rw [mcomp_ev (ds := g.first.2.map sqI) (p' := p) (by simp [locW, mvar, -List.map_map]) (by rw [List.length_map]; omega)]
  rw [comp_mapL (by simp [locW]) sqI (fun s => dS s.2) fun s hs => by
    have := Wg.fst_of V hs
    simp [locW, mvar, as_stands_sq s g.marks.2.length this.1 this.2]]
  simp [Wg.wb, List.map_map, Function.comp_def]
theorem wB (V : ValidG g.wb) (p : List Int) (o : Option L) : c_Web_init_k09_2 (locW g o) p = .ok (g.wb.second.map dS) p := by
  have l1 := Wg.second_of V
  have n2 := Wg.n2_of V
  unfold c_Web_init_k09_2
  rw [mcomp_ev (ds := g.second.2.map sqI) (p' := p) (by simp [locW, mvar, -List.map_map]) (by rw [List.length_map]; omega)]
  rw [comp_mapL (by simp [locW]) sqI (fun s => dS s.2) fun s hs => by
    have := Wg.snd_of V hs
    simp [locW, mvar, as_stands_sq s g.marks.2.length this.1 this.2]]
  simp [Wg.wb, List.map_map, Function.comp_def]
theorem wD (V : ValidG g.wb) (p : List Int) (o : Option L) : c_Web_init_k09_3 (locW g o) p = .ok (g.wb.dues.map dDue) p := by
  have l1 := Wg.dues_of V
  have n2 := Wg.n2_of V
  unfold c_Web_init_k09_3
  rw [mcomp_ev (ds := g.dues.2.map sqDue) (p' := p) (by simp [locW, mvar, -List.map_map]) (by rw [List.length_map]; omega)]
  rw [comp_mapL (by simp [locW]) sqDue (fun s => dDue s.2) fun s hs => by
    rcases sqDue_cases s with ⟨e, e2⟩ | ⟨b, x, e, e2⟩
    · simp [locW, mvar, e, e2, dDue]
    · simp [locW, mvar, e, e2, dDue_some]]
  simp [Wg.wb, List.map_map, Function.comp_def]
theorem wG (V : ValidG g.wb) (p : List Int) (o : Option L) : c_Web_init_k09_6 (locW g o) p = .ok (g.wb.dues.map fun d => .int (gdI d)) p := by
  have l1 := Wg.dues_of V
  have n2 := Wg.n2_of V
  unfold c_Web_init_k09_6
  rw [mcomp_ev (ds := g.dues.2.map sqDue) (p' := p) (by simp [locW, mvar, -List.map_map]) (by rw [List.length_map]; omega)]
  rw [comp_mapL (by simp [locW]) sqDue (fun s => .int (gdI s.2)) fun s hs => by
    rcases sqDue_cases s with ⟨e, e2⟩ | ⟨b, x, e, e2⟩
    · simp [locW, mvar, e, e2, gdI]
    · simp [locW, mvar, e, e2, gdI]]
  simp [Wg.wb, List.map_map, Function.comp_def]
theorem wmv (V : ValidG g.wb) : ∀ d ∈ rngD 0 g.marks.2.length, (fIx (sqD g.first.1 (g.first.2.map sqI)) d).bind truOf = some (moves g.wb d) := fun d hd => by
  have l1 := Wg.first_of V
  obtain ⟨i, hi, rfl⟩ := rngD_mem hd
  have hi' : i < g.first.2.length := by omega
  have e1 : atI (g.first.2.map sqI) ((0 : Int) + (i : Int)) = some (sqI g.first.2[i]) := by
    rw [Int.zero_add]
    exact atI_nat (by rw [List.getElem?_map, List.getElem?_eq_getElem hi']; rfl)
  have e2 : atI (g.wb.first.map dI) ((0 : Int) + (i : Int)) = some (dI g.first.2[i].2) := by
    rw [Int.zero_add]
    exact atI_nat (by simp [Wg.wb, List.getElem?_map, List.getElem?_eq_getElem hi'])
  unfold moves
  simp only [fIx_lst, fIx_sq, e1, e2, Option.bind_some, truOf_dI, truOf_sqI]
theorem wmv2 (V : ValidG g.wb) (p : List Int) (o : Option L) (d : D) (hd : d ∈ rngD 0 g.marks.2.length) : mtru (op2 fIx (mvar 1) (mvar 8)) ((locW g o).set 8 (some (.dat d))) p = .ok (moves g.wb d) p := by
  have := wmv V d hd
  have h1 : ((locW g o).set 8 (some (.dat d)))[1]? = some (some (.dat (sqD g.first.1 (g.first.2.map sqI)))) := by simp [locW]
  have h8 : ((locW g o).set 8 (some (.dat d)))[8]? = some (some (.dat d)) := by simp [locW]
  simp only [mtru_ev, op2_ev, mvar_ev h1, mvar_ev h8, bind_ok]
  cases e : fIx (sqD g.first.1 (g.first.2.map sqI)) d with
  | none => rw [e] at this; cases this
  | some y =>
    rw [e] at this
    simp only [Option.bind_some] at this
    simp [this]
theorem wrng (V : ValidG g.wb) (p : List Int) (o : Option L) : (mbind (acons (mvar 5) anil) fun x => mlift (rng1 x)) (locW g o) p = .ok (rngD 0 g.marks.2.length) p := by
  have n2 := Wg.n2_of V
  have hr : rng1 [D.int (g.marks.2.length : Int)] = some (rngD 0 g.marks.2.length) := by
    have h := rng1_int (n := (g.marks.2.length : Int)) (by omega)
    rw [Int.toNat_natCast] at h
    exact h
  have h5 : (locW g o)[5]? = some (some (.dat (.int g.marks.2.length))) := by simp [locW]
  simp only [mbind_ev, acons_ev, mvar_ev h5, bind_ok, anil_ev, hr, mlift_some]
theorem wE (V : ValidG g.wb) (p : List Int) (o : Option L) : c_Web_init_k09_4 (locW g o) p = .ok ((rngD 0 g.marks.2.length).filter fun d => !moves g.wb d) p := by
  have n2 := Wg.n2_of V
  refine (mcomp_ev (wrng V p o) (by rw [rngD_len]; omega)).trans ?_
  refine comp_filter (by simp [locW]) _ (fun d hd => ?_) fun d hd => mvar_ev (by simp [locW])
  rw [mnot_ev, wmv2 V p o d hd]
  rfl
theorem wM (V : ValidG g.wb) (p : List Int) (o : Option L) : c_Web_init_k09_5 (locW g o) p = .ok ((rngD 0 g.marks.2.length).filter fun d => moves g.wb d) p := by
  have n2 := Wg.n2_of V
  refine (mcomp_ev (wrng V p o) (by rw [rngD_len]; omega)).trans ?_
  refine comp_filter (by simp [locW]) _ (fun d hd => ?_) fun d hd => mvar_ev (by simp [locW])
  exact wmv2 V p o d hd
theorem wgd (V : ValidG g.wb) : fMaxL [.lst (g.wb.dues.map fun d => .int (gdI d))] = some (gdD g.wb) := by
  have n1 := V.n1
  have l3 := V.l3
  have e : intsOf (g.wb.dues.map fun d => D.int (gdI d)) = some (g.wb.dues.map gdI) := by
    have := intsOf_map (g.wb.dues.map gdI)
    rwa [List.map_map] at this
  show (intsOf (g.wb.dues.map fun d => D.int (gdI d))).bind mostOf = some (gdD g.wb)
  rw [e]
  unfold gdD
  cases e2 : g.wb.dues.map gdI with
  | nil =>
    have h0 : g.wb.dues.length = 0 := by rw [← List.length_map (f := gdI), e2]; rfl
    omega
  | cons n ns => rfl
theorem initG_eval (V : ValidG g.wb) (x : Addr) (A : CA) (p : List Int) : denI x A.Web 5 9 (dn_Web_init_k09 A) (encG g) p = .ok (wnames, wfields g.wb) p := by
  have hp := check_parts_sq V p
  simp only [encG] at hp
  unfold denI
  rw [if_pos (show (encG g).length + 1 = 5 from rfl)]
  show outI x A.Web (dn_Web_init_k09 A ((locW g (some (.obj x A.Web [] []))).set 5 none) p) = _
  unfold dn_Web_init_k09
  rw [seq_nx (l' := (locW g (some (.obj x A.Web [] []))).set 5 none) (p' := p) (by simp [b_Web_init_k09_01, locW, mvar, hp, -List.map_map])]
  rw [seq_nx (l' := locW g (some (.obj x A.Web [] []))) (p' := p) (by simp [b_Web_init_k09_02, locW, mvar, -List.map_map])]
  have s0 : ∀ (o q : Option L), (locW g o).set 0 q = locW g q := fun _ _ => rfl
  have h0 : ∀ o, (locW g (some o))[0]? = some (some o) := fun _ => rfl
  rw [seq_nx (sfldO_ev (x := .int g.marks.2.length) (p' := p) (by simp [locW, mvar]) (h0 _) ⟨rfl, by decide, by decide +kernel⟩)]
  simp only [s0, List.nil_append, List.cons_append]
  unfold b_Web_init_k09_04
  rw [seq_nx (sfldO_ev (x := .tup (g.wb.first.map dS)) (p' := p) (by simp [wA V p]) (h0 _) ⟨rfl, by decide, by decide +kernel⟩)]
  simp only [s0, List.nil_append, List.cons_append]
  unfold b_Web_init_k09_05
  rw [seq_nx (sfldO_ev (x := .tup (g.wb.second.map dS)) (p' := p) (by simp [wB V p]) (h0 _) ⟨rfl, by decide, by decide +kernel⟩)]
  simp only [s0, List.nil_append, List.cons_append]
  unfold b_Web_init_k09_06
  rw [seq_nx (sfldO_ev (x := .tup (g.wb.marks.map .int)) (p' := p) (by simp [locW, mvar, Wg.wb]) (h0 _) ⟨rfl, by decide, by decide +kernel⟩)]
  simp only [s0, List.nil_append, List.cons_append]
  unfold b_Web_init_k09_07
  rw [seq_nx (sfldO_ev (x := .tup (g.wb.dues.map dDue)) (p' := p) (by simp [wD V p]) (h0 _) ⟨rfl, by decide, by decide +kernel⟩)]
  simp only [s0, List.nil_append, List.cons_append]
  unfold b_Web_init_k09_08
  rw [seq_nx (sfldO_ev (x := .tup ((rngD 0 g.marks.2.length).filter fun d => !moves g.wb d)) (p' := p) (by simp [wE V p]) (h0 _) ⟨rfl, by decide, by decide +kernel⟩)]
  simp only [s0, List.nil_append, List.cons_append]
  unfold b_Web_init_k09_09
  rw [seq_nx (sfldO_ev (x := .tup ((rngD 0 g.marks.2.length).filter fun d => moves g.wb d)) (p' := p) (by simp [wM V p]) (h0 _) ⟨rfl, by decide, by decide +kernel⟩)]
  simp only [s0, List.nil_append, List.cons_append]
  unfold b_Web_init_k09_10
  rw [seq_nx (sfldO_ev (x := gdD g.wb) (p' := p) (by simp [wG V p, wgd V]) (h0 _) ⟨rfl, by decide, by decide +kernel⟩)]
  simp only [s0, List.nil_append, List.cons_append]
  unfold b_Web_init_k09_11
  rw [sfldO_ev (x := .bl (evB g.wb)) (p' := p) (by
    have b1 : (("_first" : Str) == "_size") = false := by decide +kernel
    have b2 : (("_second" : Str) == "_size") = false := by decide +kernel
    have b3 : (("_second" : Str) == "_first") = false := by decide +kernel
    simp [mfldO, h0, List.lookup, b1, b2, b3, even_ev]) (h0 _) ⟨rfl, by decide, by decide +kernel⟩]
  simp only [s0, List.nil_append, List.cons_append]
  unfold outI
  simp [wnames, wfields, Wg.wb, locW]
end
theorem D_Web_init_k09_len (A : CA) : ∀ ds pot, D_Web_init_k09 A ds pot ≠ .bad → ds.length + 1 = 5 := fun ds pot h => by
  unfold D_Web_init_k09 at h
  split at h
  · rename_i z
    obtain ⟨g, _, rfl⟩ := z
    rfl
  · exact absurd rfl h
theorem D_Web_init_k09_is (A : CA) : ∀ x ds pot, ds.length + 1 = 5 → D_Web_init_k09 A ds pot ≠ .bad → denI x A.Web 5 9 (dn_Web_init_k09 A) ds pot = D_Web_init_k09 A ds pot := fun x ds pot _ h => by
  unfold D_Web_init_k09 at h ⊢
  split
  · rename_i z
    obtain ⟨V, e⟩ := Classical.choose_spec z
    have q := initG_eval V x A pot
    rw [← e] at q
    exact q
  · rename_i z
    rw [dif_neg z] at h
    exact absurd rfl h
theorem Web_init_ev {g : Wg} (V : ValidG g.wb) (A : CA) (p : List Int) : D_Web_init_k09 A (encG g) p = .ok (wnames, wfields g.wb) p := by
  have hz : ∃ g', ValidG (Wg.wb g') ∧ encG g = encG g' := ⟨g, V, rfl⟩
  have h : D_Web_init_k09 A (encG g) p ≠ .bad := by
    unfold D_Web_init_k09
    rw [dif_pos hz]
    exact fun z => nomatch z
  rw [← D_Web_init_k09_is A 0 (encG g) p rfl h]
  exact initG_eval V 0 A p
theorem Valid.g {wb : Wb} (V : Valid wb) : ValidG wb := ⟨V.n1, V.n2, V.l1, V.l2, V.l3, fun ss h => ⟨by have := (V.s1 ss h).1; omega, (V.s1 ss h).2⟩, fun ss h => ⟨by have := (V.s2 ss h).1; omega, (V.s2 ss h).2⟩, V.both, V.mks, fun d h b x e => by have := V.du d h b x e; omega⟩
end PL
namespace K63
open PySem L2 Den PL
noncomputable section
variable {c : Cfg} {P : Program} {w : World} {mg : Str → Option Value} {base : Heap} {A : Adr}
theorem ok_is_integer (T : Txt c mg A) : FnR P w c.K mg base (L2.CX P w) 1 A.is_integer (spD c (D_is_integer)) :=
  fn_ss (N := Nn_is_integer) (ps := ["thing"]) (s := dn_is_integer) T.F_is_integer sc_is_integer (T.F_is_integer.binds (ps := ["thing"]) fun _ _ _ _ _ _ us hl => match us, hl with | [_], _ => rfl) fun cdv A_ outer sh H E' hr => ⟨(tRet (tAndV (tCB (rIsi c.K) (tCons (tVar 0) (tCons (tC (V.ty "int")) tNil))) (tNotV (tCB (rIsi c.K) (tCons (tVar 0) (tCons (tC (V.ty "bool")) tNil)))))),
    (pss_one (ps_ret (pe_and (pe_callB call_isi (by rfl) T.n_isinstance (by decide +kernel) (pa_cons (pv 0) (pa_cons (pe_bltn (v := V.ty "int") (by rfl) T.n_int (by decide +kernel) rfl) pa_nil))) (pe_one (pe_not (pe_callB call_isi (by rfl) T.n_isinstance (by decide +kernel) (pa_cons (pv 0) (pa_cons (pe_bltn (v := V.ty "bool") (by rfl) T.n_bool (by decide +kernel) rfl) pa_nil)))))))),
    (ss_ret (se_and (se_cb sn_is1 (sa_cons se_var (sa_cons (se_c fun _ _ => At.ty Ty.int) sa_nil))) (se_not (se_cb sn_is1 (sa_cons se_var (sa_cons (se_c fun _ _ => At.ty Ty.bl) sa_nil))))))⟩
theorem ok_check_whole (T : Txt c mg A) : FnR P w c.K mg base (L2.CX P w) 2 A.check_whole (spD c (D_check_whole)) :=
  fn_star_ss (N := Nn_check_whole) (pv := "things") (s := dn_check_whole) T.F_check_whole sc_check_whole (fun _ _ _ _ _ _ rest => by cases rest <;> rfl) fun cdv A_ outer sh H E' hr => ⟨(tFor (iTup c.K (tVar 0)) (gName 1) (tIfS (tNot (fun σ H Q => (tCallS (spD c D_is_integer) (fun _ => E') (tCons (tVar 1) tNil)) σ H fun x H' => ∃ k, TruV c.K x H' k ∧ Q k H')) (fun _ σ H => E' (Value.ref (c.ec 0)) none H) tNext)),
    (pss_one (ps_for (passes_of rfl) rfl (pi_tup (pv 0)) (pg_name (i := 1) sc_check_whole.nd rfl (by first | exact Or.inl rfl | exact Or.inr rfl)) (pss_one (ps_if (pt_not (pt_truth (pe_callRS (ok_is_integer T) (hr.mono (by decide)) (by rfl) T.m_is_integer T.F_is_integer.kp (passE (takes_of rfl rfl rfl rfl)) (pa_cons (pv 1) pa_nil)) (by intro _; rfl))) (pss_one (ps_raise rfl (takes_of rfl rfl rfl rfl) (pmk_own PySem.F.excBase_Exception T.xE0 T.mE0 T.kE0 (raises_own T.bE0 T.tE0) (by exact rfl)))) pss_nil)))),
    (ss_for (si_tup se_var) sg_name (ss_if (st_not (st_tru (se_call (sa_cons se_var sa_nil)))) (ss_raise (n := 0)) ss_next))⟩
theorem ok_whole_list (T : Txt c mg A) : FnR P w c.K mg base (L2.CX P w) 3 A.whole_list (spD c (D_whole_list)) :=
  fn_ss (N := Nn_whole_list) (ps := ["thing"]) (s := dn_whole_list) T.F_whole_list sc_whole_list (T.F_whole_list.binds (ps := ["thing"]) fun _ _ _ _ _ _ us hl => match us, hl with | [_], _ => rfl) fun cdv A_ outer sh H E' hr => ⟨(tSeq (tIfS (tNot (fun σ H Q => (tCB (rIsiT c.K) (tCons (tVar 0) (tCons (tTup (tCons (tC (V.ty "list")) (tCons (tC (V.ty "tuple")) tNil))) tNil))) σ H fun x H' => ∃ k, TruV c.K x H' k ∧ Q k H')) (fun _ σ H => E' (Value.ref (c.ec 0)) none H) tNext)
    (tSeq (tDrop (tCallStar c.K (spD c D_check_whole) (fun _ => E') (tVar 0)))
    (tRet (tCB (rTupleF c.K) (tCons (tVar 0) tNil))))),
    (pss_cons (ps_if (pt_not (pt_truth (pe_callB call_isiT (by rfl) T.n_isinstance (by decide +kernel) (pa_cons (pv 0) (pa_cons (pe_tup (pa_cons (pe_bltn (v := V.ty "list") (by rfl) T.n_list (by decide +kernel) rfl) (pa_cons (pe_bltn (v := V.ty "tuple") (by rfl) T.n_tuple (by decide +kernel) rfl) pa_nil))) pa_nil))) (by intro _; rfl))) (pss_one (ps_raise rfl (takes_of rfl rfl rfl rfl) (pmk_own PySem.F.excBase_Exception T.xE0 T.mE0 T.kE0 (raises_own T.bE0 T.tE0) (by exact rfl)))) pss_nil)
    (pss_cons (ps_expr (pe_callStar (ok_check_whole T) (hr.mono (by decide)) T.F_check_whole.kp (by rfl) T.m_check_whole (passE (takes_of rfl rfl rfl rfl)) (pv 0)))
    (pss_one (ps_ret (pe_callTy call_tuple_of (by rfl) T.n_tuple (by decide +kernel) (pa_cons (pv 0) pa_nil)))))),
    (ss_seq (ss_if (st_not (st_tru (se_cb sn_is2 (sa_cons se_var (sa_cons (se_tup (sa_cons (se_c fun _ _ => At.ty Ty.lst) (sa_cons (se_c fun _ _ => At.ty Ty.tup) sa_nil))) sa_nil))))) (ss_raise (n := 0)) ss_next)
    (ss_seq (ss_drop (se_star se_var))
    (ss_ret (se_cb sn_tuple (sa_cons se_var sa_nil)))))⟩
theorem ok_check_range (T : Txt c mg A) : FnR P w c.K mg base (L2.CX P w) 1 A.check_range (spD c (D_check_range)) :=
  fn_ss (N := Nn_check_range) (ps := ["number", "least", "most"]) (s := dn_check_range) T.F_check_range sc_check_range (T.F_check_range.binds (ps := ["number", "least", "most"]) fun _ _ _ _ _ _ us hl => match us, hl with | [_, _, _], _ => rfl) fun cdv A_ outer sh H E' hr => ⟨(tIfS (tOr (tTest (tOp (rI0 fun i j => V.bl (decide (i < j))) (tVar 0) (tVar 1))) (tTest (tOp (rI0 fun i j => V.bl (decide (j < i))) (tVar 0) (tVar 2)))) (fun _ σ H => E' (Value.ref (c.ec 1)) none H) tNext),
    (pss_one (ps_if (PW.pt (pw_or (pt_cmpR op_lt (pv 0) (pv 1) (nomark _)) (pw_or1 (pt_cmpR op_gt (pv 0) (pv 2) (nomark _))))) (pss_one (ps_raise rfl (takes_of rfl rfl rfl rfl) (pmk_own PySem.F.excBase_Exception T.xE1 T.mE1 T.kE1 (raises_own T.bE1 T.tE1) (by exact rfl)))) pss_nil)),
    (ss_if (st_or (st_test (se_op2 s2_lt se_var se_var)) (st_test (se_op2 s2_gt se_var se_var))) (ss_raise (n := 1)) ss_next)⟩
theorem ok_check_least (T : Txt c mg A) : FnR P w c.K mg base (L2.CX P w) 1 A.check_least (spD c (D_check_least)) :=
  fn_ss (N := Nn_check_least) (ps := ["number", "least"]) (s := dn_check_least) T.F_check_least sc_check_least (T.F_check_least.binds (ps := ["number", "least"]) fun _ _ _ _ _ _ us hl => match us, hl with | [_, _], _ => rfl) fun cdv A_ outer sh H E' hr => ⟨(tIfS (tTest (tOp (rI0 fun i j => V.bl (decide (i < j))) (tVar 0) (tVar 1))) (fun _ σ H => E' (Value.ref (c.ec 1)) none H) tNext),
    (pss_one (ps_if (pt_cmpR op_lt (pv 0) (pv 1) (nomark _)) (pss_one (ps_raise rfl (takes_of rfl rfl rfl rfl) (pmk_own PySem.F.excBase_Exception T.xE1 T.mE1 T.kE1 (raises_own T.bE1 T.tE1) (by exact rfl)))) pss_nil)),
    (ss_if (st_test (se_op2 s2_lt se_var se_var)) (ss_raise (n := 1)) ss_next)⟩
theorem ok_check_most (T : Txt c mg A) : FnR P w c.K mg base (L2.CX P w) 1 A.check_most (spD c (D_check_most)) :=
  fn_ss (N := Nn_check_most) (ps := ["number", "most"]) (s := dn_check_most) T.F_check_most sc_check_most (T.F_check_most.binds (ps := ["number", "most"]) fun _ _ _ _ _ _ us hl => match us, hl with | [_, _], _ => rfl) fun cdv A_ outer sh H E' hr => ⟨(tIfS (tTest (tOp (rI0 fun i j => V.bl (decide (j < i))) (tVar 0) (tVar 1))) (fun _ σ H => E' (Value.ref (c.ec 3)) none H) tNext),
    (pss_one (ps_if (pt_cmpR op_gt (pv 0) (pv 1) (nomark _)) (pss_one (ps_raise rfl (takes_of rfl rfl rfl rfl) (pmk_own PySem.F.excBase_Exception T.xE3 T.mE3 T.kE3 (raises_own T.bE3 T.tE3) (by exact rfl)))) pss_nil)),
    (ss_if (st_test (se_op2 s2_gt se_var se_var)) (ss_raise (n := 3)) ss_next)⟩
theorem ok_as_stands (T : Txt c mg A) : FnR P w c.K mg base (L2.CX P w) 4 A.as_stands (spD c (D_as_stands)) :=
  fn_ss (N := Nn_as_stands) (ps := ["thing", "size"]) (s := dn_as_stands) T.F_as_stands sc_as_stands (T.F_as_stands.binds (ps := ["thing", "size"]) fun _ _ _ _ _ _ us hl => match us, hl with | [_, _], _ => rfl) fun cdv A_ outer sh H E' hr => ⟨(tSeq (tAsg (tCallS (spD c D_whole_list) (fun _ => E') (tCons (tVar 0) tNil)) (gName 2))
    (tSeq (tFor (iTup c.K (tVar 2)) (gName 3) (tDrop (tCallS (spD c D_check_range) (fun _ => E') (tCons (tVar 3) (tCons (tC (V.int 0)) (tCons (tOp (rI0 fun i j => V.int (i - j)) (tVar 1) (tC (V.int 1))) tNil))))))
    (tRet (tCB (rTupleF c.K) (tCons (tCB (rSortedSet w) (tCons (tCB (rSetI c.K w) (tCons (tVar 2) tNil)) tNil)) tNil))))),
    (pss_cons (ps_asg (pe_callRS (ok_whole_list T) (hr.mono (by decide)) (by rfl) T.m_whole_list T.F_whole_list.kp (passE (takes_of rfl rfl rfl rfl)) (pa_cons (pv 0) pa_nil)) (pg_name (i := 2) sc_as_stands.nd rfl (by first | exact Or.inl rfl | exact Or.inr rfl)))
    (pss_cons (ps_for (passes_of rfl) rfl (pi_tup (pv 2)) (pg_name (i := 3) sc_as_stands.nd rfl (by first | exact Or.inl rfl | exact Or.inr rfl)) (pss_one (ps_expr (pe_callRS (ok_check_range T) (hr.mono (by decide)) (by rfl) T.m_check_range T.F_check_range.kp (passE (takes_of rfl rfl rfl rfl)) (pa_cons (pv 3) (pa_cons pe_int (pa_cons (pe_op op_sub (pv 1) pe_int) pa_nil)))))))
    (pss_one (ps_ret (pe_callTy call_tuple_of (by rfl) T.n_tuple (by decide +kernel) (pa_cons (pe_callB (cr_sortedSet rfl) (by rfl) T.n_sorted (by decide +kernel) (pa_cons (pe_callTy (cr_setI rfl) (by rfl) T.n_set (by decide +kernel) (pa_cons (pv 2) pa_nil)) pa_nil)) pa_nil)))))),
    (ss_seq (ss_asg (se_call (sa_cons se_var sa_nil)) sg_name)
    (ss_seq (ss_for (si_tup se_var) sg_name (ss_drop (se_call (sa_cons se_var (sa_cons se_int (sa_cons (se_op2 s2_sub se_var se_int) sa_nil))))))
    (ss_ret (se_cb sn_tuple (sa_cons (se_sortSet se_var) sa_nil)))))⟩
theorem ok_is_due (T : Txt c mg A) : FnR P w c.K mg base (L2.CX P w) 2 A.is_due (spD c (D_is_due)) :=
  fn_ss (N := Nn_is_due) (ps := ["due"]) (s := dn_is_due) T.F_is_due sc_is_due (T.F_is_due.binds (ps := ["due"]) fun _ _ _ _ _ _ us hl => match us, hl with | [_], _ => rfl) fun cdv A_ outer sh H E' hr => ⟨(tSeq (tIfS (tTest (tOp rIsNF (tVar 0) (tC V.non))) (tRet (tC (V.bl true))) tNext)
    (tSeq (tIfS (tOr (tNot (fun σ H Q => (tCB (rIsiT c.K) (tCons (tVar 0) (tCons (tTup (tCons (tC (V.ty "list")) (tCons (tC (V.ty "tuple")) tNil))) tNil))) σ H fun x H' => ∃ k, TruV c.K x H' k ∧ Q k H')) (tTest (tOp rNe (tCB (rLenS c.K) (tCons (tVar 0) tNil)) (tC (V.int 2))))) (tRet (tC (V.bl false))) tNext)
    (tRet (tAndV (tCB (rIsi c.K) (tCons (tOp (rIx c.K) (tVar 0) (tC (V.int 0))) (tCons (tC (V.ty "str")) tNil))) (tCallS (spD c D_is_integer) (fun _ => E') (tCons (tOp (rIx c.K) (tVar 0) (tC (V.int 1))) tNil)))))),
    (pss_cons (ps_if (pt_cmpR op_isN (pv 0) pe_non (nomark _)) (pss_one (ps_ret pe_bl)) pss_nil)
    (pss_cons (ps_if (PW.pt (pw_or (pt_not (pt_truth (pe_callB call_isiT (by rfl) T.n_isinstance (by decide +kernel) (pa_cons (pv 0) (pa_cons (pe_tup (pa_cons (pe_bltn (v := V.ty "list") (by rfl) T.n_list (by decide +kernel) rfl) (pa_cons (pe_bltn (v := V.ty "tuple") (by rfl) T.n_tuple (by decide +kernel) rfl) pa_nil))) pa_nil))) (by intro _; rfl))) (pw_or1 (pt_cmpR op_ne (pe_callB call_len_seq (by rfl) T.n_len (by decide +kernel) (pa_cons (pv 0) pa_nil)) pe_int (nomark _))))) (pss_one (ps_ret pe_bl)) pss_nil)
    (pss_one (ps_ret (pe_and (pe_callB call_isi (by rfl) T.n_isinstance (by decide +kernel) (pa_cons (pe_ix ix_seq (pv 0) pe_int (fun _ _ => rfl)) (pa_cons (pe_bltn (v := V.ty "str") (by rfl) T.n_str (by decide +kernel) rfl) pa_nil))) (pe_one (pe_callRS (ok_is_integer T) (hr.mono (by decide)) (by rfl) T.m_is_integer T.F_is_integer.kp (passE (takes_of rfl rfl rfl rfl)) (pa_cons (pe_ix ix_seq (pv 0) pe_int (fun _ _ => rfl)) pa_nil)))))))),
    (ss_seq (ss_if (st_test (se_op2 s2_isN se_var se_non)) (ss_ret se_bl) ss_next)
    (ss_seq (ss_if (st_or (st_not (st_tru (se_cb sn_is2 (sa_cons se_var (sa_cons (se_tup (sa_cons (se_c fun _ _ => At.ty Ty.lst) (sa_cons (se_c fun _ _ => At.ty Ty.tup) sa_nil))) sa_nil))))) (st_test (se_op2 s2_ne (se_cb sn_len (sa_cons se_var sa_nil)) se_int))) (ss_ret se_bl) ss_next)
    (ss_ret (se_and (se_cb sn_is1 (sa_cons (se_op2 s2_ix se_var se_int) (sa_cons (se_c fun _ _ => At.ty Ty.str) sa_nil))) (se_call (sa_cons (se_op2 s2_ix se_var se_int) sa_nil))))))⟩
theorem ok_due_in_range (T : Txt c mg A) : FnR P w c.K mg base (L2.CX P w) 1 A.due_in_range (spD c (D_due_in_range)) :=
  fn_ss (N := Nn_due_in_range) (ps := ["due"]) (s := dn_due_in_range) T.F_due_in_range sc_due_in_range (T.F_due_in_range.binds (ps := ["due"]) fun _ _ _ _ _ _ us hl => match us, hl with | [_], _ => rfl) fun cdv A_ outer sh H E' hr => ⟨(tRet (tOrV (tOp rIsNF (tVar 0) (tC V.non)) (tAndV (tOp (rIn c.K false) (tOp (rIx c.K) (tVar 0) (tC (V.int 0))) (tTup (tCons (tC (V.str "chips")) (tCons (tC (V.str "less")) tNil)))) (tOp (rI0 fun i j => V.bl (decide (j ≤ i))) (tOp (rIx c.K) (tVar 0) (tC (V.int 1))) (tC (V.int 0)))))),
    (pss_one (ps_ret (pe_or (pe_cmpR op_isN (pv 0) pe_non (nomark _)) (pe_one (pe_and (pe_cmpR op_in_seq (pe_ix ix_seq (pv 0) pe_int (fun _ _ => rfl)) (pe_tup (pa_cons pe_str (pa_cons pe_str pa_nil))) rfl) (pe_one (pe_cmpR op_ge (pe_ix ix_seq (pv 0) pe_int (fun _ _ => rfl)) pe_int (nomark _)))))))),
    (ss_ret (se_or (se_op2 s2_isN se_var se_non) (se_and (se_op2 s2_in (se_op2 s2_ix se_var se_int) (se_tup (sa_cons se_str (sa_cons se_str sa_nil)))) (se_op2 s2_ge (se_op2 s2_ix se_var se_int) se_int))))⟩
theorem ok_due_too_great (T : Txt c mg A) : FnR P w c.K mg base (L2.CX P w) 1 A.due_too_great (spD c (D_due_too_great)) :=
  fn_ss (N := Nn_due_too_great) (ps := ["due"]) (s := dn_due_too_great) T.F_due_too_great sc_due_too_great (T.F_due_too_great.binds (ps := ["due"]) fun _ _ _ _ _ _ us hl => match us, hl with | [_], _ => rfl) fun cdv A_ outer sh H E' hr => ⟨(tRet (tAndV (tOp rNotNF (tVar 0) (tC V.non)) (tOp (rI0 fun i j => V.bl (decide (j < i))) (tOp (rIx c.K) (tVar 0) (tC (V.int 1))) (tC (V.int 10000000000000000000000000000000000000000))))),
    (pss_one (ps_ret (pe_and (pe_cmpR op_notN (pv 0) pe_non (nomark _)) (pe_one (pe_cmpR op_gt (pe_ix ix_seq (pv 0) pe_int (fun _ _ => rfl)) (pe_gint (by rfl) T.c_GREATEST) (nomark _)))))),
    (ss_ret (se_and (se_op2 s2_notN se_var se_non) (se_op2 s2_gt (se_op2 s2_ix se_var se_int) se_int)))⟩
theorem ok_check_due (T : Txt c mg A) : FnR P w c.K mg base (L2.CX P w) 3 A.check_due (spD c (D_check_due)) :=
  fn_ss (N := Nn_check_due) (ps := ["due"]) (s := dn_check_due) T.F_check_due sc_check_due (T.F_check_due.binds (ps := ["due"]) fun _ _ _ _ _ _ us hl => match us, hl with | [_], _ => rfl) fun cdv A_ outer sh H E' hr => ⟨(tIfS (tNot (fun σ H Q => (tCallS (spD c D_is_due) (fun _ => E') (tCons (tVar 0) tNil)) σ H fun x H' => ∃ k, TruV c.K x H' k ∧ Q k H')) (fun _ σ H => E' (Value.ref (c.ec 0)) none H) tNext),
    (pss_one (ps_if (pt_not (pt_truth (pe_callRS (ok_is_due T) (hr.mono (by decide)) (by rfl) T.m_is_due T.F_is_due.kp (passE (takes_of rfl rfl rfl rfl)) (pa_cons (pv 0) pa_nil)) (by intro _; rfl))) (pss_one (ps_raise rfl (takes_of rfl rfl rfl rfl) (pmk_own PySem.F.excBase_Exception T.xE0 T.mE0 T.kE0 (raises_own T.bE0 T.tE0) (by exact rfl)))) pss_nil)),
    (ss_if (st_not (st_tru (se_call (sa_cons se_var sa_nil)))) (ss_raise (n := 0)) ss_next)⟩
theorem ok_check_kinds (T : Txt c mg A) : FnR P w c.K mg base (L2.CX P w) 4 A.check_kinds (spD c (D_check_kinds_k09)) :=
  fn_ss (N := Nn_check_kinds) (ps := ["first", "second", "marks", "dues"]) (s := dn_check_kinds_k09) T.F_check_kinds sc_check_kinds (T.F_check_kinds.binds (ps := ["first", "second", "marks", "dues"]) fun _ _ _ _ _ _ us hl => match us, hl with | [_, _, _, _], _ => rfl) fun cdv A_ outer sh H E' hr => ⟨(tSeq (tFor (iTup c.K (tTup (tCons (tVar 0) (tCons (tVar 1) (tCons (tVar 3) tNil))))) (gName 4) (tIfS (tNot (fun σ H Q => (tCB (rIsiT c.K) (tCons (tVar 4) (tCons (tTup (tCons (tC (V.ty "list")) (tCons (tC (V.ty "tuple")) tNil))) tNil))) σ H fun x H' => ∃ k, TruV c.K x H' k ∧ Q k H')) (fun _ σ H => E' (Value.ref (c.ec 0)) none H) tNext))
    (tSeq (tFor (iTup c.K (tTup (StX.tStar c.K (tVar 0) (StX.tStar c.K (tVar 1) (tCons (tVar 2) tNil))))) (gName 4) (tDrop (tCallS (spD c D_whole_list) (fun _ => E') (tCons (tVar 4) tNil))))
    (tFor (iSeq c.K (tVar 3)) (gName 5) (tDrop (tCallS (spD c D_check_due) (fun _ => E') (tCons (tVar 5) tNil)))))),
    (pss_cons (ps_for (passes_of rfl) rfl (pi_tup (pe_tup (pa_cons (pv 0) (pa_cons (pv 1) (pa_cons (pv 3) pa_nil))))) (pg_name (i := 4) sc_check_kinds.nd rfl (by first | exact Or.inl rfl | exact Or.inr rfl)) (pss_one (ps_if (pt_not (pt_truth (pe_callB call_isiT (by rfl) T.n_isinstance (by decide +kernel) (pa_cons (pv 4) (pa_cons (pe_tup (pa_cons (pe_bltn (v := V.ty "list") (by rfl) T.n_list (by decide +kernel) rfl) (pa_cons (pe_bltn (v := V.ty "tuple") (by rfl) T.n_tuple (by decide +kernel) rfl) pa_nil))) pa_nil))) (by intro _; rfl))) (pss_one (ps_raise rfl (takes_of rfl rfl rfl rfl) (pmk_own PySem.F.excBase_Exception T.xE0 T.mE0 T.kE0 (raises_own T.bE0 T.tE0) (by exact rfl)))) pss_nil)))
    (pss_cons (ps_for (passes_of rfl) rfl (pi_tup (pe_tup (StX.pa_star (pv 0) (StX.pa_star (pv 1) (pa_cons (pv 2) pa_nil))))) (pg_name (i := 4) sc_check_kinds.nd rfl (by first | exact Or.inl rfl | exact Or.inr rfl)) (pss_one (ps_expr (pe_callRS (ok_whole_list T) (hr.mono (by decide)) (by rfl) T.m_whole_list T.F_whole_list.kp (passE (takes_of rfl rfl rfl rfl)) (pa_cons (pv 4) pa_nil)))))
    (pss_one (ps_for (passes_of rfl) rfl (pi_seq (pv 3)) (pg_name (i := 5) sc_check_kinds.nd rfl (by first | exact Or.inl rfl | exact Or.inr rfl)) (pss_one (ps_expr (pe_callRS (ok_check_due T) (hr.mono (by decide)) (by rfl) T.m_check_due T.F_check_due.kp (passE (takes_of rfl rfl rfl rfl)) (pa_cons (pv 5) pa_nil)))))))),
    (ss_seq (ss_for (si_tup (se_tup (sa_cons se_var (sa_cons se_var (sa_cons se_var sa_nil))))) sg_name (ss_if (st_not (st_tru (se_cb sn_is2 (sa_cons se_var (sa_cons (se_tup (sa_cons (se_c fun _ _ => At.ty Ty.lst) (sa_cons (se_c fun _ _ => At.ty Ty.tup) sa_nil))) sa_nil))))) (ss_raise (n := 0)) ss_next))
    (ss_seq (ss_for (si_tup (se_tup (sa_star se_var (sa_star se_var (sa_cons se_var sa_nil))))) sg_name (ss_drop (se_call (sa_cons se_var sa_nil))))
    (ss_for (si_seq se_var) sg_name (ss_drop (se_call (sa_cons se_var sa_nil))))))⟩
theorem ok_check_steps (T : Txt c mg A) : FnR P w c.K mg base (L2.CX P w) 1 A.check_steps (spD c (D_check_steps_k09)) :=
  fn_ss (N := Nn_check_steps) (ps := ["first", "second"]) (s := dn_check_steps_k09) T.F_check_steps sc_check_steps (T.F_check_steps.binds (ps := ["first", "second"]) fun _ _ _ _ _ _ us hl => match us, hl with | [_, _], _ => rfl) fun cdv A_ outer sh H E' hr => ⟨(tFor (iEnumS c.K (tCons (tVar 0) tNil)) (gTup c.K 2 (gCons (gName 2) (gCons (gName 3) gNil))) (tSeq (tFor (iTup c.K (tTup (StX.tStar c.K (tVar 3) (StX.tStar c.K (tOp (rIx c.K) (tVar 1) (tVar 2)) tNil)))) (gName 4) (tIfS (tOr (tTest (tOp (rI0 fun i j => V.bl (decide (i < j))) (tVar 4) (tC (V.int 0)))) (tTest (tOp (rI0 fun i j => V.bl (decide (j ≤ i))) (tVar 4) (tCB (rLenS c.K) (tCons (tVar 0) tNil))))) (fun _ σ H => E' (Value.ref (c.ec 2)) none H) tNext))
    (tIfS (tTest (tOp rNe (tCB (rBoolS c.K) (tCons (tVar 3) tNil)) (tCB (rBoolS c.K) (tCons (tOp (rIx c.K) (tVar 1) (tVar 2)) tNil)))) (fun _ σ H => E' (Value.ref (c.ec 2)) none H) tNext))),
    (pss_one (ps_for (passes_of rfl) rfl (pi_enumS (by rfl) T.n_enumerate (pa_cons (pv 0) pa_nil)) (pg_tup rfl (pgs_cons (pg_name (i := 2) sc_check_steps.nd rfl (by first | exact Or.inl rfl | exact Or.inr rfl)) (pgs_cons (pg_name (i := 3) sc_check_steps.nd rfl (by first | exact Or.inl rfl | exact Or.inr rfl)) pgs_nil))) (pss_cons (ps_for (passes_of rfl) rfl (pi_tup (pe_tup (StX.pa_star (pv 3) (StX.pa_star (pe_ix ix_seq (pv 1) (pv 2) (fun _ _ => rfl)) pa_nil)))) (pg_name (i := 4) sc_check_steps.nd rfl (by first | exact Or.inl rfl | exact Or.inr rfl)) (pss_one (ps_if (PW.pt (pw_or (pt_cmpR op_lt (pv 4) pe_int (nomark _)) (pw_or1 (pt_cmpR op_ge (pv 4) (pe_callB call_len_seq (by rfl) T.n_len (by decide +kernel) (pa_cons (pv 0) pa_nil)) (nomark _))))) (pss_one (ps_raise rfl (takes_of rfl rfl rfl rfl) (pmk_own PySem.F.excBase_Exception T.xE2 T.mE2 T.kE2 (raises_own T.bE2 T.tE2) (by exact rfl)))) pss_nil)))
    (pss_one (ps_if (pt_cmpR op_ne (pe_callTy call_boolS (by rfl) T.n_bool (by decide +kernel) (pa_cons (pv 3) pa_nil)) (pe_callTy call_boolS (by rfl) T.n_bool (by decide +kernel) (pa_cons (pe_ix ix_seq (pv 1) (pv 2) (fun _ _ => rfl)) pa_nil)) (nomark _)) (pss_one (ps_raise rfl (takes_of rfl rfl rfl rfl) (pmk_own PySem.F.excBase_Exception T.xE2 T.mE2 T.kE2 (raises_own T.bE2 T.tE2) (by exact rfl)))) pss_nil))))),
    (ss_for (si_enumS (sa_cons se_var sa_nil)) sg_pair (ss_seq (ss_for (si_tup (se_tup (sa_star se_var (sa_star (se_op2 s2_ix se_var se_var) sa_nil)))) sg_name (ss_if (st_or (st_test (se_op2 s2_lt se_var se_int)) (st_test (se_op2 s2_ge se_var (se_cb sn_len (sa_cons se_var sa_nil))))) (ss_raise (n := 2)) ss_next))
    (ss_if (st_test (se_op2 s2_ne (se_cb sn_boolS (sa_cons se_var sa_nil)) (se_cb sn_boolS (sa_cons (se_op2 s2_ix se_var se_var) sa_nil)))) (ss_raise (n := 2)) ss_next)))⟩
theorem ok_check_parts (T : Txt c mg A) : FnR P w c.K mg base (L2.CX P w) 5 A.check_parts (spD c (D_check_parts_k09)) :=
  fn_ss (N := Nn_check_parts) (ps := ["first", "second", "marks", "dues"]) (s := dn_check_parts_k09) T.F_check_parts sc_check_parts (T.F_check_parts.binds (ps := ["first", "second", "marks", "dues"]) fun _ _ _ _ _ _ us hl => match us, hl with | [_, _, _, _], _ => rfl) fun cdv A_ outer sh H E' hr => ⟨(tSeq (tDrop (tCallS (spD c D_check_kinds_k09) (fun _ => E') (tCons (tVar 0) (tCons (tVar 1) (tCons (tVar 2) (tCons (tVar 3) tNil))))))
    (tSeq (tAsg (tCB (rLenS c.K) (tCons (tVar 2) tNil)) (gName 4))
    (tSeq (tIfS (tOr (tTest (tOp rEq (tVar 4) (tC (V.int 0)))) (tTest (tOp (rNeD c.K) (tLst (tCons (tCB (rLenS c.K) (tCons (tVar 0) tNil)) (tCons (tCB (rLenS c.K) (tCons (tVar 1) tNil)) (tCons (tCB (rLenS c.K) (tCons (tVar 3) tNil)) tNil)))) (tOp rRep (tLst (tCons (tVar 4) tNil)) (tC (V.int 3)))))) (fun _ σ H => E' (Value.ref (c.ec 2)) none H) tNext)
    (tSeq (tDrop (tCallS (spD c D_check_steps_k09) (fun _ => E') (tCons (tVar 0) (tCons (tVar 1) tNil))))
    (tSeq (tFor (iSeq c.K (tVar 2)) (gName 5) (tIfS (tTest (tOp (rIn c.K true) (tVar 5) (tTup (tCons (tC (V.int 1)) (tCons (tC (V.int 2)) tNil))))) (fun _ σ H => E' (Value.ref (c.ec 2)) none H) tNext))
    (tSeq (tFor (iSeq c.K (tVar 3)) (gName 6) (tIfS (tNot (fun σ H Q => (tCallS (spD c D_due_in_range) (fun _ => E') (tCons (tVar 6) tNil)) σ H fun x H' => ∃ k, TruV c.K x H' k ∧ Q k H')) (fun _ σ H => E' (Value.ref (c.ec 2)) none H) tNext))
    (tSeq (tDrop (tCallS (spD c D_check_most) (fun _ => E') (tCons (tVar 4) (tCons (tC (V.int 60)) tNil))))
    (tFor (iSeq c.K (tVar 3)) (gName 6) (tIfS (fun σ H Q => (tCallS (spD c D_due_too_great) (fun _ => E') (tCons (tVar 6) tNil)) σ H fun x H' => ∃ k, TruV c.K x H' k ∧ Q k H') (fun _ σ H => E' (Value.ref (c.ec 3)) none H) tNext))))))))),
    (pss_cons (ps_expr (pe_callRS (ok_check_kinds T) (hr.mono (by decide)) (by rfl) T.m_check_kinds T.F_check_kinds.kp (passE (takes_of rfl rfl rfl rfl)) (pa_cons (pv 0) (pa_cons (pv 1) (pa_cons (pv 2) (pa_cons (pv 3) pa_nil))))))
    (pss_cons (ps_asg (pe_callB call_len_seq (by rfl) T.n_len (by decide +kernel) (pa_cons (pv 2) pa_nil)) (pg_name (i := 4) sc_check_parts.nd rfl (by first | exact Or.inl rfl | exact Or.inr rfl)))
    (pss_cons (ps_if (PW.pt (pw_or (pt_cmpR op_eq (pv 4) pe_int (nomark _)) (pw_or1 (pt_cmpR (op_neD (hr.units)) (pe_lst (pa_cons (pe_callB call_len_seq (by rfl) T.n_len (by decide +kernel) (pa_cons (pv 0) pa_nil)) (pa_cons (pe_callB call_len_seq (by rfl) T.n_len (by decide +kernel) (pa_cons (pv 1) pa_nil)) (pa_cons (pe_callB call_len_seq (by rfl) T.n_len (by decide +kernel) (pa_cons (pv 3) pa_nil)) pa_nil)))) (pe_op op_rep (pe_lst (pa_cons (pv 4) pa_nil)) pe_int) (nomark _))))) (pss_one (ps_raise rfl (takes_of rfl rfl rfl rfl) (pmk_own PySem.F.excBase_Exception T.xE2 T.mE2 T.kE2 (raises_own T.bE2 T.tE2) (by exact rfl)))) pss_nil)
    (pss_cons (ps_expr (pe_callRS (ok_check_steps T) (hr.mono (by decide)) (by rfl) T.m_check_steps T.F_check_steps.kp (passE (takes_of rfl rfl rfl rfl)) (pa_cons (pv 0) (pa_cons (pv 1) pa_nil))))
    (pss_cons (ps_for (passes_of rfl) rfl (pi_seq (pv 2)) (pg_name (i := 5) sc_check_parts.nd rfl (by first | exact Or.inl rfl | exact Or.inr rfl)) (pss_one (ps_if (pt_cmpR op_notIn_seq (pv 5) (pe_tup (pa_cons pe_int (pa_cons pe_int pa_nil))) rfl) (pss_one (ps_raise rfl (takes_of rfl rfl rfl rfl) (pmk_own PySem.F.excBase_Exception T.xE2 T.mE2 T.kE2 (raises_own T.bE2 T.tE2) (by exact rfl)))) pss_nil)))
    (pss_cons (ps_for (passes_of rfl) rfl (pi_seq (pv 3)) (pg_name (i := 6) sc_check_parts.nd rfl (by first | exact Or.inl rfl | exact Or.inr rfl)) (pss_one (ps_if (pt_not (pt_truth (pe_callRS (ok_due_in_range T) (hr.mono (by decide)) (by rfl) T.m_due_in_range T.F_due_in_range.kp (passE (takes_of rfl rfl rfl rfl)) (pa_cons (pv 6) pa_nil)) (by intro _; rfl))) (pss_one (ps_raise rfl (takes_of rfl rfl rfl rfl) (pmk_own PySem.F.excBase_Exception T.xE2 T.mE2 T.kE2 (raises_own T.bE2 T.tE2) (by exact rfl)))) pss_nil)))
    (pss_cons (ps_expr (pe_callRS (ok_check_most T) (hr.mono (by decide)) (by rfl) T.m_check_most T.F_check_most.kp (passE (takes_of rfl rfl rfl rfl)) (pa_cons (pv 4) (pa_cons (pe_gint (by rfl) T.c_MOST_STANDS) pa_nil))))
    (pss_one (ps_for (passes_of rfl) rfl (pi_seq (pv 3)) (pg_name (i := 6) sc_check_parts.nd rfl (by first | exact Or.inl rfl | exact Or.inr rfl)) (pss_one (ps_if (pt_truth (pe_callRS (ok_due_too_great T) (hr.mono (by decide)) (by rfl) T.m_due_too_great T.F_due_too_great.kp (passE (takes_of rfl rfl rfl rfl)) (pa_cons (pv 6) pa_nil)) (by intro _; rfl)) (pss_one (ps_raise rfl (takes_of rfl rfl rfl rfl) (pmk_own PySem.F.excBase_Exception T.xE3 T.mE3 T.kE3 (raises_own T.bE3 T.tE3) (by exact rfl)))) pss_nil))))))))))),
    (ss_seq (ss_drop (se_call (sa_cons se_var (sa_cons se_var (sa_cons se_var (sa_cons se_var sa_nil))))))
    (ss_seq (ss_asg (se_cb sn_len (sa_cons se_var sa_nil)) sg_name)
    (ss_seq (ss_if (st_or (st_test (se_op2 s2_eq se_var se_int)) (st_test (se_op2 s2_neD (se_new (sen_lst (sa_cons (se_cb sn_len (sa_cons se_var sa_nil)) (sa_cons (se_cb sn_len (sa_cons se_var sa_nil)) (sa_cons (se_cb sn_len (sa_cons se_var sa_nil)) sa_nil))))) (se_op2 s2_rep (se_new (sen_lst (sa_cons se_var sa_nil))) se_int)))) (ss_raise (n := 2)) ss_next)
    (ss_seq (ss_drop (se_call (sa_cons se_var (sa_cons se_var sa_nil))))
    (ss_seq (ss_for (si_seq se_var) sg_name (ss_if (st_test (se_op2 s2_in se_var (se_tup (sa_cons se_int (sa_cons se_int sa_nil))))) (ss_raise (n := 2)) ss_next))
    (ss_seq (ss_for (si_seq se_var) sg_name (ss_if (st_not (st_tru (se_call (sa_cons se_var sa_nil)))) (ss_raise (n := 2)) ss_next))
    (ss_seq (ss_drop (se_call (sa_cons se_var (sa_cons se_int sa_nil))))
    (ss_for (si_seq se_var) sg_name (ss_if (st_tru (se_call (sa_cons se_var sa_nil))) (ss_raise (n := 3)) ss_next)))))))))⟩
theorem ok_Web_init (T : Txt c mg A) : FnR P w c.K mg base (L2.CX P w) 6 A.Web_init (spI c A.ca.Web (D_Web_init_k09 A.ca)) :=
  init_ss (N := Nn_Web_init) (s := dn_Web_init_k09 A.ca) T.F_Web_init sc_Web_init (T.F_Web_init.binds (ps := ["self", "first", "second", "marks", "dues"]) fun _ _ _ _ _ _ us hl => match us, hl with | [_, _, _, _, _], _ => rfl) (D_Web_init_k09_is A.ca) (D_Web_init_k09_len A.ca) fun cdv A_ outer sh H E' hr => ⟨(tSeq (tDrop (tCallS (spD c D_check_parts_k09) (fun _ => E') (tCons (tVar 1) (tCons (tVar 2) (tCons (tVar 3) (tCons (tVar 4) tNil))))))
    (tSeq (tAsg (tCB (rLenS c.K) (tCons (tVar 3) tNil)) (gName 5))
    (tSeq (sFld c.K (tVar 0) (tVar 5) "_size")
    (tSeq (sFld c.K (tVar 0) (tCB (rTupleF c.K) (tCons (tLc (iSeq c.K (tVar 1)) (gName 6) tYes (tCallS (spD c D_as_stands) (fun _ => L2.E0) (tCons (tVar 6) (tCons (tVar 5) tNil))) [6]) tNil)) "_first")
    (tSeq (sFld c.K (tVar 0) (tCB (rTupleF c.K) (tCons (tLc (iSeq c.K (tVar 2)) (gName 6) tYes (tCallS (spD c D_as_stands) (fun _ => L2.E0) (tCons (tVar 6) (tCons (tVar 5) tNil))) [6]) tNil)) "_second")
    (tSeq (sFld c.K (tVar 0) (tCB (rTupleF c.K) (tCons (tVar 3) tNil)) "_marks")
    (tSeq (sFld c.K (tVar 0) (tCB (rTupleF c.K) (tCons (tLc (iSeq c.K (tVar 4)) (gName 7) tYes (tIf (tTest (tOp rIsNF (tVar 7) (tC V.non))) (tC V.non) (tCB (rTupleF c.K) (tCons (tVar 7) tNil))) [7]) tNil)) "_dues")
    (tSeq (sFld c.K (tVar 0) (tCB (rTupleF c.K) (tCons (tLc (iRng1 (tCons (tVar 5) tNil)) (gName 8) (tNot (fun σ H Q => (tOp (rIx c.K) (tVar 1) (tVar 8)) σ H fun x H' => ∃ k, TruV c.K x H' k ∧ Q k H')) (tVar 8) [8]) tNil)) "_ends")
    (tSeq (sFld c.K (tVar 0) (tCB (rTupleF c.K) (tCons (tLc (iRng1 (tCons (tVar 5) tNil)) (gName 8) (fun σ H Q => (tOp (rIx c.K) (tVar 1) (tVar 8)) σ H fun x H' => ∃ k, TruV c.K x H' k ∧ Q k H') (tVar 8) [8]) tNil)) "_moving")
    (tSeq (sFld c.K (tVar 0) (tCB (rMax c.K) (tCons (tLc (iSeq c.K (tVar 4)) (gName 7) tYes (tIf (tTest (tOp rIsNF (tVar 7) (tC V.non))) (tC (V.int 0)) (tOp (rIx c.K) (tVar 7) (tC (V.int 1)))) [7]) tNil)) "_greatest_due")
    (sFld c.K (tVar 0) (tOp (rEqD c.K) (tFld c.K (tVar 0) "_first") (tFld c.K (tVar 0) "_second")) "_even"))))))))))),
    (pss_cons (ps_expr (pe_callRS (ok_check_parts T) (hr.mono (by decide)) (by rfl) T.m_check_parts T.F_check_parts.kp (passE (takes_of rfl rfl rfl rfl)) (pa_cons (pv 1) (pa_cons (pv 2) (pa_cons (pv 3) (pa_cons (pv 4) pa_nil))))))
    (pss_cons (ps_asg (pe_callB call_len_seq (by rfl) T.n_len (by decide +kernel) (pa_cons (pv 3) pa_nil)) (pg_name (i := 5) sc_Web_init.nd rfl (by first | exact Or.inl rfl | exact Or.inr rfl)))
    (pss_cons (ps_fld (pv 0) (pv 5) rfl)
    (pss_cons (ps_fld (pv 0) (pe_callTy call_tuple_of (by rfl) T.n_tuple (by decide +kernel) (pa_cons (pe_lc (own := [("steps", 6)]) (g := gName 6) (wi := (iSeq c.K (tVar 1))) (tt := tYes) (te := (tCallS (spD c D_as_stands) (fun _ => L2.E0) (tCons (tVar 6) (tCons (tVar 5) tNil)))) rfl sc_Web_init.nd (pi_seq (pv 1)) (blkOk_by (N := Nn_Web_init) (sc := defScope s_Web_init) (by decide +kernel)) (fun _ _ _ _ _ => pg_name (i := 6) sc_Web_init.nd rfl (by first | exact Or.inl rfl | exact Or.inr rfl)) (fun _ _ _ _ _ => pts_nil) (fun _ _ _ _ _ => (pe_callRS (ok_as_stands T) (hr.mono (by decide)) (by rfl) T.m_as_stands T.F_as_stands.kp passNo (pa_cons (pv 6) (pa_cons (pv 5) pa_nil))))) pa_nil)) rfl)
    (pss_cons (ps_fld (pv 0) (pe_callTy call_tuple_of (by rfl) T.n_tuple (by decide +kernel) (pa_cons (pe_lc (own := [("steps", 6)]) (g := gName 6) (wi := (iSeq c.K (tVar 2))) (tt := tYes) (te := (tCallS (spD c D_as_stands) (fun _ => L2.E0) (tCons (tVar 6) (tCons (tVar 5) tNil)))) rfl sc_Web_init.nd (pi_seq (pv 2)) (blkOk_by (N := Nn_Web_init) (sc := defScope s_Web_init) (by decide +kernel)) (fun _ _ _ _ _ => pg_name (i := 6) sc_Web_init.nd rfl (by first | exact Or.inl rfl | exact Or.inr rfl)) (fun _ _ _ _ _ => pts_nil) (fun _ _ _ _ _ => (pe_callRS (ok_as_stands T) (hr.mono (by decide)) (by rfl) T.m_as_stands T.F_as_stands.kp passNo (pa_cons (pv 6) (pa_cons (pv 5) pa_nil))))) pa_nil)) rfl)
    (pss_cons (ps_fld (pv 0) (pe_callTy call_tuple_of (by rfl) T.n_tuple (by decide +kernel) (pa_cons (pv 3) pa_nil)) rfl)
    (pss_cons (ps_fld (pv 0) (pe_callTy call_tuple_of (by rfl) T.n_tuple (by decide +kernel) (pa_cons (pe_lc (own := [("due", 7)]) (g := gName 7) (wi := (iSeq c.K (tVar 4))) (tt := tYes) (te := (tIf (tTest (tOp rIsNF (tVar 7) (tC V.non))) (tC V.non) (tCB (rTupleF c.K) (tCons (tVar 7) tNil)))) rfl sc_Web_init.nd (pi_seq (pv 4)) (blkOk_by (N := Nn_Web_init) (sc := defScope s_Web_init) (by decide +kernel)) (fun _ _ _ _ _ => pg_name (i := 7) sc_Web_init.nd rfl (by first | exact Or.inl rfl | exact Or.inr rfl)) (fun _ _ _ _ _ => pts_nil) (fun _ _ _ _ _ => (pe_ifExp (pt_cmpR op_isN (pv 7) pe_non (nomark _)) pe_non (pe_callTy call_tuple_of (by rfl) T.n_tuple (by decide +kernel) (pa_cons (pv 7) pa_nil))))) pa_nil)) rfl)
    (pss_cons (ps_fld (pv 0) (pe_callTy call_tuple_of (by rfl) T.n_tuple (by decide +kernel) (pa_cons (pe_lc (own := [("stand", 8)]) (g := gName 8) (wi := (iRng1 (tCons (tVar 5) tNil))) (tt := (tNot (fun σ H Q => (tOp (rIx c.K) (tVar 1) (tVar 8)) σ H fun x H' => ∃ k, TruV c.K x H' k ∧ Q k H'))) (te := (tVar 8)) rfl sc_Web_init.nd (pi_range1 (by rfl) T.n_range (pa_cons (pv 5) pa_nil)) (blkOk_by (N := Nn_Web_init) (sc := defScope s_Web_init) (by decide +kernel)) (fun _ _ _ _ _ => pg_name (i := 8) sc_Web_init.nd rfl (by first | exact Or.inl rfl | exact Or.inr rfl)) (fun _ _ _ _ _ => (pts_one (pt_not (pt_truth (pe_ix ix_seq (pv 1) (pv 8) (fun _ _ => rfl)) (by intro _; rfl))))) (fun _ _ _ _ _ => (pv 8))) pa_nil)) rfl)
    (pss_cons (ps_fld (pv 0) (pe_callTy call_tuple_of (by rfl) T.n_tuple (by decide +kernel) (pa_cons (pe_lc (own := [("stand", 8)]) (g := gName 8) (wi := (iRng1 (tCons (tVar 5) tNil))) (tt := (fun σ H Q => (tOp (rIx c.K) (tVar 1) (tVar 8)) σ H fun x H' => ∃ k, TruV c.K x H' k ∧ Q k H')) (te := (tVar 8)) rfl sc_Web_init.nd (pi_range1 (by rfl) T.n_range (pa_cons (pv 5) pa_nil)) (blkOk_by (N := Nn_Web_init) (sc := defScope s_Web_init) (by decide +kernel)) (fun _ _ _ _ _ => pg_name (i := 8) sc_Web_init.nd rfl (by first | exact Or.inl rfl | exact Or.inr rfl)) (fun _ _ _ _ _ => (pts_one (pt_truth (pe_ix ix_seq (pv 1) (pv 8) (fun _ _ => rfl)) (by intro _; rfl)))) (fun _ _ _ _ _ => (pv 8))) pa_nil)) rfl)
    (pss_cons (ps_fld (pv 0) (pe_callB (cr_max rfl) (by rfl) T.n_max (by decide +kernel) (pa_cons (pe_lc (own := [("due", 7)]) (g := gName 7) (wi := (iSeq c.K (tVar 4))) (tt := tYes) (te := (tIf (tTest (tOp rIsNF (tVar 7) (tC V.non))) (tC (V.int 0)) (tOp (rIx c.K) (tVar 7) (tC (V.int 1))))) rfl sc_Web_init.nd (pi_seq (pv 4)) (blkOk_by (N := Nn_Web_init) (sc := defScope s_Web_init) (by decide +kernel)) (fun _ _ _ _ _ => pg_name (i := 7) sc_Web_init.nd rfl (by first | exact Or.inl rfl | exact Or.inr rfl)) (fun _ _ _ _ _ => pts_nil) (fun _ _ _ _ _ => (pe_ifExp (pt_cmpR op_isN (pv 7) pe_non (nomark _)) pe_int (pe_ix ix_seq (pv 7) pe_int (fun _ _ => rfl))))) pa_nil)) rfl)
    (pss_one (ps_fld (pv 0) (pe_cmpR (op_eqD (hr.units)) (pe_fld (pv 0) rfl) (pe_fld (pv 0) rfl) (nomark _)) rfl)))))))))))),
    (ss_seq (ss_drop (se_call (sa_cons se_var (sa_cons se_var (sa_cons se_var (sa_cons se_var sa_nil))))))
    (ss_seq (ss_asg (se_cb sn_len (sa_cons se_var sa_nil)) sg_name)
    (ss_seq (ss_fldO T.f_Web.cl T.a_Web__size se_var)
    (ss_seq (ss_fldO T.f_Web.cl T.a_Web__first (se_cb sn_tuple (sa_cons (se_new (sen_comp (si_seq se_var) st_true (se_call (sa_cons se_var (sa_cons se_var sa_nil))))) sa_nil)))
    (ss_seq (ss_fldO T.f_Web.cl T.a_Web__second (se_cb sn_tuple (sa_cons (se_new (sen_comp (si_seq se_var) st_true (se_call (sa_cons se_var (sa_cons se_var sa_nil))))) sa_nil)))
    (ss_seq (ss_fldO T.f_Web.cl T.a_Web__marks (se_cb sn_tuple (sa_cons se_var sa_nil)))
    (ss_seq (ss_fldO T.f_Web.cl T.a_Web__dues (se_cb sn_tuple (sa_cons (se_new (sen_comp (si_seq se_var) st_true (se_if (st_test (se_op2 s2_isN se_var se_non)) se_non (se_cb sn_tuple (sa_cons se_var sa_nil))))) sa_nil)))
    (ss_seq (ss_fldO T.f_Web.cl T.a_Web__ends (se_cb sn_tuple (sa_cons (se_new (sen_comp (si_rng1 (sa_cons se_var sa_nil)) (st_not (st_tru (se_op2 s2_ix se_var se_var))) se_var)) sa_nil)))
    (ss_seq (ss_fldO T.f_Web.cl T.a_Web__moving (se_cb sn_tuple (sa_cons (se_new (sen_comp (si_rng1 (sa_cons se_var sa_nil)) (st_tru (se_op2 s2_ix se_var se_var)) se_var)) sa_nil)))
    (ss_seq (ss_fldO T.f_Web.cl T.a_Web__greatest_due (se_cb sn_maxL (sa_cons (se_new (sen_comp (si_seq se_var) st_true (se_if (st_test (se_op2 s2_isN se_var se_non)) se_int (se_op2 s2_ix se_var se_int)))) sa_nil)))
    (ss_fldO T.f_Web.cl T.a_Web__even (se_op2 s2_eqD (se_fldO T.f_Web.cl T.a_Web__first) (se_fldO T.f_Web.cl T.a_Web__second)))))))))))))⟩
theorem ok_check_web (T : Txt c mg A) : FnR P w c.K mg base (L2.CX P w) 1 A.check_web (spD c (D_check_web A.ca)) :=
  fn_ss (N := Nn_check_web) (ps := ["thing"]) (s := dn_check_web A.ca) T.F_check_web sc_check_web (T.F_check_web.binds (ps := ["thing"]) fun _ _ _ _ _ _ us hl => match us, hl with | [_], _ => rfl) fun cdv A_ outer sh H E' hr => ⟨(tIfS (tNot (fun σ H Q => (tCB (rIsi c.K) (tCons (tVar 0) (tCons (tC (V.ref A.ca.Web)) tNil))) σ H fun x H' => ∃ k, TruV c.K x H' k ∧ Q k H')) (fun _ σ H => E' (Value.ref (c.ec 0)) none H) tNext),
    (pss_one (ps_if (pt_not (pt_truth (pe_callB call_isi (by rfl) T.n_isinstance (by decide +kernel) (pa_cons (pv 0) (pa_cons (pe_glob (by rfl) T.m_Web rfl) pa_nil))) (by intro _; rfl))) (pss_one (ps_raise rfl (takes_of rfl rfl rfl rfl) (pmk_own PySem.F.excBase_Exception T.xE0 T.mE0 T.kE0 (raises_own T.bE0 T.tE0) (by exact rfl)))) pss_nil)),
    (ss_if (st_not (st_tru (se_cb (sn_isC T.f_Web) (sa_cons se_var (sa_cons (se_c fun _ _ => At.cls A.ca.Web) sa_nil))))) (ss_raise (n := 0)) ss_next)⟩
theorem ok_stays_off (T : Txt c mg A) : FnR P w c.K mg base (L2.CX P w) 3 A.stays_off (spD c (D_stays_off A.ca)) :=
  fn_ss (N := Nn_stays_off) (ps := ["web", "stand", "kept"]) (s := dn_stays_off A.ca) T.F_stays_off sc_stays_off (T.F_stays_off.binds (ps := ["web", "stand", "kept"]) fun _ _ _ _ _ _ us hl => match us, hl with | [_, _, _], _ => rfl) fun cdv A_ outer sh H E' hr => ⟨(tSeq (tFor (iTup c.K (tOp (rIx c.K) (tProp A.ca.Web (getSp A.ca.Web "_first") [] L2.E0 (tVar 0)) (tVar 1))) (gName 3) (tIfS (tTest (tOp rNotInDc (tVar 3) (tVar 2))) (tRet (tC (V.bl false))) tNext))
    (tSeq (tIfS (tOr (tNot (fun σ H Q => (tOp (rIx c.K) (tProp A.ca.Web (getSp A.ca.Web "_first") [] L2.E0 (tVar 0)) (tVar 1)) σ H fun x H' => ∃ k, TruV c.K x H' k ∧ Q k H')) (tTest (tOp rEq (tOp (rIx c.K) (tProp A.ca.Web (getSp A.ca.Web "_marks") [] L2.E0 (tVar 0)) (tVar 1)) (tC (V.int 1))))) (tRet (tC (V.bl true))) tNext)
    (tSeq (tFor (iTup c.K (tOp (rIx c.K) (tProp A.ca.Web (getSp A.ca.Web "_second") [] L2.E0 (tVar 0)) (tVar 1))) (gName 3) (tIfS (tTest (tOp rInDc (tVar 3) (tVar 2))) (tRet (tC (V.bl true))) tNext))
    (tRet (tC (V.bl false)))))),
    (pss_cons (ps_for (passes_of rfl) rfl (pi_tup (pe_ix ix_seq (pe_prop (pv 0) T.f_Web.cl T.p_Web_first (getter_of T.F_Web_first gsc_Web_first rfl rfl T.f_Web.cl T.a_Web__first) (hr.mono (by decide)) (T.F_Web_first.binds (ps := ["self"]) fun _ _ _ _ _ _ us hl => match us, hl with | [_], _ => rfl) .nil passL rfl) (pv 1) (fun _ _ => rfl))) (pg_name (i := 3) sc_stays_off.nd rfl (by first | exact Or.inl rfl | exact Or.inr rfl)) (pss_one (ps_if (pt_cmpR (op_notInDc (Nat.lt_of_le_of_lt (Nat.add_le_add_left (by decide) _) hr.units)) (pv 3) (pv 2) rfl) (pss_one (ps_ret pe_bl)) pss_nil)))
    (pss_cons (ps_if (PW.pt (pw_or (pt_not (pt_truth (pe_ix ix_seq (pe_prop (pv 0) T.f_Web.cl T.p_Web_first (getter_of T.F_Web_first gsc_Web_first rfl rfl T.f_Web.cl T.a_Web__first) (hr.mono (by decide)) (T.F_Web_first.binds (ps := ["self"]) fun _ _ _ _ _ _ us hl => match us, hl with | [_], _ => rfl) .nil passL rfl) (pv 1) (fun _ _ => rfl)) (by intro _; rfl))) (pw_or1 (pt_cmpR op_eq (pe_ix ix_seq (pe_prop (pv 0) T.f_Web.cl T.p_Web_marks (getter_of T.F_Web_marks gsc_Web_marks rfl rfl T.f_Web.cl T.a_Web__marks) (hr.mono (by decide)) (T.F_Web_marks.binds (ps := ["self"]) fun _ _ _ _ _ _ us hl => match us, hl with | [_], _ => rfl) .nil passL rfl) (pv 1) (fun _ _ => rfl)) pe_int (nomark _))))) (pss_one (ps_ret pe_bl)) pss_nil)
    (pss_cons (ps_for (passes_of rfl) rfl (pi_tup (pe_ix ix_seq (pe_prop (pv 0) T.f_Web.cl T.p_Web_second (getter_of T.F_Web_second gsc_Web_second rfl rfl T.f_Web.cl T.a_Web__second) (hr.mono (by decide)) (T.F_Web_second.binds (ps := ["self"]) fun _ _ _ _ _ _ us hl => match us, hl with | [_], _ => rfl) .nil passL rfl) (pv 1) (fun _ _ => rfl))) (pg_name (i := 3) sc_stays_off.nd rfl (by first | exact Or.inl rfl | exact Or.inr rfl)) (pss_one (ps_if (pt_cmpR (op_inDc (Nat.lt_of_le_of_lt (Nat.add_le_add_left (by decide) _) hr.units)) (pv 3) (pv 2) rfl) (pss_one (ps_ret pe_bl)) pss_nil)))
    (pss_one (ps_ret pe_bl))))),
    (ss_seq (ss_for (si_tup (se_op2 s2_ix (se_prop se_var) se_var)) sg_name (ss_if (st_test (se_op2 s2_ninDc se_var se_var)) (ss_ret se_bl) ss_next))
    (ss_seq (ss_if (st_or (st_not (st_tru (se_op2 s2_ix (se_prop se_var) se_var))) (st_test (se_op2 s2_eq (se_op2 s2_ix (se_prop se_var) se_var) se_int))) (ss_ret se_bl) ss_next)
    (ss_seq (ss_for (si_tup (se_op2 s2_ix (se_prop se_var) se_var)) sg_name (ss_if (st_test (se_op2 s2_inDc se_var se_var)) (ss_ret se_bl) ss_next))
    (ss_ret se_bl))))⟩
theorem ok_kept_off (T : Txt c mg A) : FnR P w c.K mg base (L2.CX P w) 4 A.kept_off (spD c (D_kept_off A.ca)) :=
  fn_ss (N := Nn_kept_off) (ps := ["web"]) (s := dn_kept_off A.ca) T.F_kept_off sc_kept_off (T.F_kept_off.binds (ps := ["web"]) fun _ _ _ _ _ _ us hl => match us, hl with | [_], _ => rfl) fun cdv A_ outer sh H E' hr => ⟨(tSeq (tDrop (tCallS (spD c (D_check_web A.ca)) (fun _ => E') (tCons (tVar 0) tNil)))
    (tSeq (tAsg (tLk (tDc (iRng1 (tCons (tProp A.ca.Web (getSp A.ca.Web "_size") [] L2.E0 (tVar 0)) tNil)) (gName 2) (tTest (tOp rIsNF (tOp (rIx c.K) (tProp A.ca.Web (getSp A.ca.Web "_dues") [] L2.E0 (tVar 0)) (tVar 2)) (tC V.non))) (tVar 2) (tC (V.bl true)) [2])) (gName 1))
    (tSeq (tAsg (tUn (rU fun i => V.int (-i)) (tC (V.int 1))) (gName 3))
    (tSeq (tWhile (tTest (tOp rNe (tVar 3) (tCB rLenDc (tCons (tVar 1) tNil)))) (tSeq (tAsg (tCB rLenDc (tCons (tVar 1) tNil)) (gName 3))
    (tAsg (tLk (tDc (iKeys (tVar 1)) (gName 2) (fun σ H Q => (tCallS (spD c (D_stays_off A.ca)) (fun _ => L2.E0) (tCons (tVar 0) (tCons (tVar 2) (tCons (tVar 1) tNil)))) σ H fun x H' => ∃ k, TruV c.K x H' k ∧ Q k H') (tVar 2) (tC (V.bl true)) [2])) (gName 1))))
    (tRet (tCB (rTupleF c.K) (tCons (tCB rSortDc (tCons (tVar 1) tNil)) tNil))))))),
    (pss_cons (ps_expr (pe_callRS (ok_check_web T) (hr.mono (by decide)) (by rfl) T.m_check_web T.F_check_web.kp (passE (takes_of rfl rfl rfl rfl)) (pa_cons (pv 0) pa_nil)))
    (pss_cons (ps_asg (pe_lk (pe_dc (own := [("stand", 2)]) (g := gName 2) (wi := (iRng1 (tCons (tProp A.ca.Web (getSp A.ca.Web "_size") [] L2.E0 (tVar 0)) tNil))) (tt := (tTest (tOp rIsNF (tOp (rIx c.K) (tProp A.ca.Web (getSp A.ca.Web "_dues") [] L2.E0 (tVar 0)) (tVar 2)) (tC V.non)))) (tk := (tVar 2)) (tv := (tC (V.bl true))) rfl sc_kept_off.nd (pi_range1 (by rfl) T.n_range (pa_cons (pe_prop (pv 0) T.f_Web.cl T.p_Web_size (getter_of T.F_Web_size gsc_Web_size rfl rfl T.f_Web.cl T.a_Web__size) (hr.mono (by decide)) (T.F_Web_size.binds (ps := ["self"]) fun _ _ _ _ _ _ us hl => match us, hl with | [_], _ => rfl) .nil passL rfl) pa_nil)) (blkOk_by (N := Nn_kept_off) (sc := defScope s_kept_off) (by decide +kernel)) (fun _ _ _ _ _ => pg_name (i := 2) sc_kept_off.nd rfl (by first | exact Or.inl rfl | exact Or.inr rfl)) (fun _ _ _ _ _ => (pts_one (pt_cmpR op_isN (pe_ix ix_seq (pe_prop (pv 0) T.f_Web.cl T.p_Web_dues (getter_of T.F_Web_dues gsc_Web_dues rfl rfl T.f_Web.cl T.a_Web__dues) (hr.mono (by decide)) (T.F_Web_dues.binds (ps := ["self"]) fun _ _ _ _ _ _ us hl => match us, hl with | [_], _ => rfl) .nil passL rfl) (pv 2) (fun _ _ => rfl)) pe_non (nomark _)))) (fun _ _ _ _ _ => (pv 2)) (fun _ _ _ _ _ => pe_bl))) (pg_name (i := 1) sc_kept_off.nd rfl (by first | exact Or.inl rfl | exact Or.inr rfl)))
    (pss_cons (ps_asg (pe_un un_neg pe_int) (pg_name (i := 3) sc_kept_off.nd rfl (by first | exact Or.inl rfl | exact Or.inr rfl)))
    (pss_cons (ps_while (passes_of rfl) (pt_cmpR op_ne (pv 3) (pe_callB call_lenDc (by rfl) T.n_len (by decide +kernel) (pa_cons (pv 1) pa_nil)) (nomark _)) (pss_cons (ps_asg (pe_callB call_lenDc (by rfl) T.n_len (by decide +kernel) (pa_cons (pv 1) pa_nil)) (pg_name (i := 3) sc_kept_off.nd rfl (by first | exact Or.inl rfl | exact Or.inr rfl)))
    (pss_one (ps_asg (pe_lk (pe_dc (own := [("stand", 2)]) (g := gName 2) (wi := (iKeys (tVar 1))) (tt := (fun σ H Q => (tCallS (spD c (D_stays_off A.ca)) (fun _ => L2.E0) (tCons (tVar 0) (tCons (tVar 2) (tCons (tVar 1) tNil)))) σ H fun x H' => ∃ k, TruV c.K x H' k ∧ Q k H')) (tk := (tVar 2)) (tv := (tC (V.bl true))) rfl sc_kept_off.nd (pi_keys (pv 1)) (blkOk_by (N := Nn_kept_off) (sc := defScope s_kept_off) (by decide +kernel)) (fun _ _ _ _ _ => pg_name (i := 2) sc_kept_off.nd rfl (by first | exact Or.inl rfl | exact Or.inr rfl)) (fun _ _ _ _ _ => (pts_one (pt_truth (pe_callRS (ok_stays_off T) (hr.mono (by decide)) (by rfl) T.m_stays_off T.F_stays_off.kp passNo (pa_cons (pv 0) (pa_cons (pv 2) (pa_cons (pv 1) pa_nil)))) (by intro _; rfl)))) (fun _ _ _ _ _ => (pv 2)) (fun _ _ _ _ _ => pe_bl))) (pg_name (i := 1) sc_kept_off.nd rfl (by first | exact Or.inl rfl | exact Or.inr rfl))))))
    (pss_one (ps_ret (pe_callTy call_tuple_of (by rfl) T.n_tuple (by decide +kernel) (pa_cons (pe_callB (call_sortDc rfl) (by rfl) T.n_sorted (by decide +kernel) (pa_cons (pv 1) pa_nil)) pa_nil)))))))),
    (ss_seq (ss_drop (se_call (sa_cons se_var sa_nil)))
    (ss_seq (ss_asg (se_dc (si_rng1 (sa_cons (se_prop se_var) sa_nil)) (st_test (se_op2 s2_isN (se_op2 s2_ix (se_prop se_var) se_var) se_non)) se_var se_bl) sg_name)
    (ss_seq (ss_asg (se_op1 s1_neg se_int) sg_name)
    (ss_seq (ss_while (st_test (se_op2 s2_ne se_var (se_cb sn_lenDc (sa_cons se_var sa_nil)))) (ss_seq (ss_asg (se_cb sn_lenDc (sa_cons se_var sa_nil)) sg_name)
    (ss_asg (se_dc (si_keys se_var) (st_tru (se_call (sa_cons se_var (sa_cons se_var (sa_cons se_var sa_nil))))) se_var se_bl) sg_name)))
    (ss_ret (se_cb sn_tuple (sa_cons (se_new (sen_sortDc (sa_cons se_var sa_nil))) sa_nil)))))))⟩
theorem ok_bank_due_of (T : Txt c mg A) : FnR P w c.K mg base (L2.CX P w) 1 A.bank_due_of (spD c (D_bank_due_of)) :=
  fn_ss (N := Nn_bank_due_of) (ps := ["due"]) (s := dn_bank_due_of) T.F_bank_due_of sc_bank_due_of (T.F_bank_due_of.binds (ps := ["due"]) fun _ _ _ _ _ _ us hl => match us, hl with | [_], _ => rfl) fun cdv A_ outer sh H E' hr => ⟨(tRet (tIf (tAnd (tTest (tOp rNotNF (tVar 0) (tC V.non))) (tTest (tOp rEq (tOp (rIx c.K) (tVar 0) (tC (V.int 0))) (tC (V.str "chips"))))) (tOp (rIx c.K) (tVar 0) (tC (V.int 1))) (tC V.non))),
    (pss_one (ps_ret (pe_ifExp (PW.pt (pw_and (pt_cmpR op_notN (pv 0) pe_non (nomark _)) (pw_and1 (pt_cmpR op_eq (pe_ix ix_seq (pv 0) pe_int (fun _ _ => rfl)) pe_str (nomark _))))) (pe_ix ix_seq (pv 0) pe_int (fun _ _ => rfl)) pe_non))),
    (ss_ret (se_if (st_and (st_test (se_op2 s2_notN se_var se_non)) (st_test (se_op2 s2_eq (se_op2 s2_ix se_var se_int) se_str))) (se_op2 s2_ix se_var se_int) se_non))⟩
theorem ok_least_of (T : Txt c mg A) : FnR P w c.K mg base (L2.CX P w) 1 A.least_of (spD c (D_least_of)) :=
  fn_ss (N := Nn_least_of) (ps := ["parts"]) (s := dn_least_of) T.F_least_of sc_least_of (T.F_least_of.binds (ps := ["parts"]) fun _ _ _ _ _ _ us hl => match us, hl with | [_], _ => rfl) fun cdv A_ outer sh H E' hr => ⟨(tRet (tCKw (rMinD c.K) (tCons (tLc (iList c.K (tVar 0)) (gName 1) (tTest (tOp rNotNF (tVar 1) (tC V.non))) (tVar 1) [1]) tNil) (tCons (tC V.non) tNil))),
    (pss_one (ps_ret (pe_callBK (cr_minD rfl) (by rfl) T.n_min (by decide +kernel) (pa_cons (pe_lc (own := [("number", 1)]) (g := gName 1) (wi := (iList c.K (tVar 0))) (tt := (tTest (tOp rNotNF (tVar 1) (tC V.non)))) (te := (tVar 1)) rfl sc_least_of.nd (pi_list (pv 0)) (blkOk_by (N := Nn_least_of) (sc := defScope s_least_of) (by decide +kernel)) (fun _ _ _ _ _ => pg_name (i := 1) sc_least_of.nd rfl (by first | exact Or.inl rfl | exact Or.inr rfl)) (fun _ _ _ _ _ => (pts_one (pt_cmpR op_notN (pv 1) pe_non (nomark _)))) (fun _ _ _ _ _ => (pv 1))) pa_nil) (pk_cons pe_non pk_nil)))),
    (ss_ret (se_ckw sn_minD (sa_cons (se_new (sen_comp (si_list se_var) (st_test (se_op2 s2_notN se_var se_non)) se_var)) sa_nil) (sa_cons se_non sa_nil)))⟩
theorem ok_greatest_of (T : Txt c mg A) : FnR P w c.K mg base (L2.CX P w) 1 A.greatest_of (spD c (D_greatest_of)) :=
  fn_ss (N := Nn_greatest_of) (ps := ["parts"]) (s := dn_greatest_of) T.F_greatest_of sc_greatest_of (T.F_greatest_of.binds (ps := ["parts"]) fun _ _ _ _ _ _ us hl => match us, hl with | [_], _ => rfl) fun cdv A_ outer sh H E' hr => ⟨(tRet (tIf (tTest (tOp (rIn c.K false) (tC V.non) (tVar 0))) (tC V.non) (tCB (rMax c.K) (tCons (tVar 0) tNil)))),
    (pss_one (ps_ret (pe_ifExp (pt_cmpR op_in_seq pe_non (pv 0) rfl) pe_non (pe_callB (cr_max rfl) (by rfl) T.n_max (by decide +kernel) (pa_cons (pv 0) pa_nil))))),
    (ss_ret (se_if (st_test (se_op2 s2_in se_non se_var)) se_non (se_cb sn_maxL (sa_cons se_var sa_nil))))⟩
theorem ok_bank_high (T : Txt c mg A) : FnR P w c.K mg base (L2.CX P w) 3 A.bank_high (spD c (D_bank_high A.ca)) :=
  fn_ss (N := Nn_bank_high) (ps := ["web", "row", "stand"]) (s := dn_bank_high A.ca) T.F_bank_high sc_bank_high (T.F_bank_high.binds (ps := ["web", "row", "stand"]) fun _ _ _ _ _ _ us hl => match us, hl with | [_, _, _], _ => rfl) fun cdv A_ outer sh H E' hr => ⟨(tRet (tCallS (spD c D_greatest_of) (fun _ => E') (tCons (tLc (iTup c.K (tOp (rIx c.K) (tProp A.ca.Web (getSp A.ca.Web "_second") [] L2.E0 (tVar 0)) (tVar 2))) (gName 3) tYes (tOp (rIx c.K) (tVar 1) (tVar 3)) [3]) tNil))),
    (pss_one (ps_ret (pe_callRS (ok_greatest_of T) (hr.mono (by decide)) (by rfl) T.m_greatest_of T.F_greatest_of.kp (passE (takes_of rfl rfl rfl rfl)) (pa_cons (pe_lc (own := [("step", 3)]) (g := gName 3) (wi := (iTup c.K (tOp (rIx c.K) (tProp A.ca.Web (getSp A.ca.Web "_second") [] L2.E0 (tVar 0)) (tVar 2)))) (tt := tYes) (te := (tOp (rIx c.K) (tVar 1) (tVar 3))) rfl sc_bank_high.nd (pi_tup (pe_ix ix_seq (pe_prop (pv 0) T.f_Web.cl T.p_Web_second (getter_of T.F_Web_second gsc_Web_second rfl rfl T.f_Web.cl T.a_Web__second) (hr.mono (by decide)) (T.F_Web_second.binds (ps := ["self"]) fun _ _ _ _ _ _ us hl => match us, hl with | [_], _ => rfl) .nil passL rfl) (pv 2) (fun _ _ => rfl))) (blkOk_by (N := Nn_bank_high) (sc := defScope s_bank_high) (by decide +kernel)) (fun _ _ _ _ _ => pg_name (i := 3) sc_bank_high.nd rfl (by first | exact Or.inl rfl | exact Or.inr rfl)) (fun _ _ _ _ _ => pts_nil) (fun _ _ _ _ _ => (pe_ix ix_seq (pv 1) (pv 3) (fun _ _ => rfl)))) pa_nil)))),
    (ss_ret (se_call (sa_cons (se_new (sen_comp (si_tup (se_op2 s2_ix (se_prop se_var) se_var)) st_true (se_op2 s2_ix se_var se_var))) sa_nil)))⟩
theorem ok_bank_price_of (T : Txt c mg A) : FnR P w c.K mg base (L2.CX P w) 3 A.bank_price_of (spD c (D_bank_price_of A.ca)) :=
  fn_ss (N := Nn_bank_price_of) (ps := ["mark", "low", "highs"]) (s := dn_bank_price_of A.ca) T.F_bank_price_of sc_bank_price_of (T.F_bank_price_of.binds (ps := ["mark", "low", "highs"]) fun _ _ _ _ _ _ us hl => match us, hl with | [_, _, _], _ => rfl) fun cdv A_ outer sh H E' hr => ⟨(tSeq (tAsg (tIf (tTest (tOp rEq (tVar 0) (tC (V.int 1)))) (tC (V.int 0)) (tC (V.int 1))) (gName 3))
    (tSeq (tAsg (tIf (tTest (tOp rEq (tVar 0) (tC (V.int 1)))) (tLst tNil) (tLst (tCons (tOp (rIx c.K) (tVar 2) (tUn (rU fun i => V.int (-i)) (tC (V.int 1)))) tNil))) (gName 4))
    (tSeq (tIfS (tTest (tOp rNotNF (tVar 1) (tC V.non))) (tDrop (tBM c.K "list" rExtend (tVar 4) (tCons (tLc (iEnum c.K (tCons (tRev2 c.K (tVar 2)) tNil)) (gTup c.K 2 (gCons (gName 5) (gCons (gName 6) gNil))) (tTest (tOp rNotNF (tVar 6) (tC V.non))) (tCB rMax2F (tCons (tOp (rI0 fun i j => V.int (i + j)) (tOp (rI0 fun i j => V.int (i + j)) (tVar 1) (tVar 5)) (tVar 3)) (tCons (tVar 6) tNil))) [5, 6]) tNil))) tNext)
    (tRet (tCallS (spD c D_least_of) (fun _ => E') (tCons (tVar 4) tNil)))))),
    (pss_cons (ps_asg (pe_ifExp (pt_cmpR op_eq (pv 0) pe_int (nomark _)) pe_int pe_int) (pg_name (i := 3) sc_bank_price_of.nd rfl (by first | exact Or.inl rfl | exact Or.inr rfl)))
    (pss_cons (ps_asg (pe_ifExp (pt_cmpR op_eq (pv 0) pe_int (nomark _)) (pe_lst pa_nil) (pe_lst (pa_cons (pe_ix ix_seq (pv 2) (pe_un un_neg pe_int) (fun _ _ => rfl)) pa_nil))) (pg_name (i := 4) sc_bank_price_of.nd rfl (by first | exact Or.inl rfl | exact Or.inr rfl)))
    (pss_cons (ps_if (pt_cmpR op_notN (pv 1) pe_non (nomark _)) (pss_one (ps_expr (pe_bm PySem.F.plainAttrs_list PySem.F.slot_list_extend PySem.F.type_list_extend mt_extend (pv 4) (pa_cons (pe_lc (own := [("x", 5), ("high", 6)]) (g := (gTup c.K 2 (gCons (gName 5) (gCons (gName 6) gNil)))) (wi := (iEnum c.K (tCons (tRev2 c.K (tVar 2)) tNil))) (tt := (tTest (tOp rNotNF (tVar 6) (tC V.non)))) (te := (tCB rMax2F (tCons (tOp (rI0 fun i j => V.int (i + j)) (tOp (rI0 fun i j => V.int (i + j)) (tVar 1) (tVar 5)) (tVar 3)) (tCons (tVar 6) tNil)))) rfl sc_bank_price_of.nd (pi_enum (by rfl) T.n_enumerate (pa_cons (pe_rev2 (pv 2)) pa_nil)) (blkOk_by (N := Nn_bank_price_of) (sc := defScope s_bank_price_of) (by decide +kernel)) (fun _ _ _ _ _ => pg_tup rfl (pgs_cons (pg_name (i := 5) sc_bank_price_of.nd rfl (by first | exact Or.inl rfl | exact Or.inr rfl)) (pgs_cons (pg_name (i := 6) sc_bank_price_of.nd rfl (by first | exact Or.inl rfl | exact Or.inr rfl)) pgs_nil))) (fun _ _ _ _ _ => (pts_one (pt_cmpR op_notN (pv 6) pe_non (nomark _)))) (fun _ _ _ _ _ => (pe_callB (call_max2 rfl) (by rfl) T.n_max (by decide +kernel) (pa_cons (pe_op op_add (pe_op op_add (pv 1) (pv 5)) (pv 3)) (pa_cons (pv 6) pa_nil))))) pa_nil)))) pss_nil)
    (pss_one (ps_ret (pe_callRS (ok_least_of T) (hr.mono (by decide)) (by rfl) T.m_least_of T.F_least_of.kp (passE (takes_of rfl rfl rfl rfl)) (pa_cons (pv 4) pa_nil))))))),
    (ss_seq (ss_asg (se_if (st_test (se_op2 s2_eq se_var se_int)) se_int se_int) sg_name)
    (ss_seq (ss_own (sen_if (st_test (se_op2 s2_eq se_var se_int)) (sen_lst sa_nil) (sen_lst (sa_cons (se_op2 s2_ix se_var (se_op1 s1_neg se_int)) sa_nil))))
    (ss_seq (ss_if (st_test (se_op2 s2_notN se_var se_non)) (ss_extend (se_new (sen_comp2 (si_enum (sa_cons (se_new (sen_rev2 se_var)) sa_nil)) (st_test (se_op2 s2_notN se_var se_non)) (se_cb sn_max2 (sa_cons (se_op2 s2_add (se_op2 s2_add se_var se_var) se_var) (sa_cons se_var sa_nil)))))) ss_next)
    (ss_give (i := 4) (ss_ret (se_call (sa_cons se_var sa_nil)))))))⟩
theorem ok_next_bank_row (T : Txt c mg A) : FnR P w c.K mg base (L2.CX P w) 4 A.next_bank_row (spD c (D_next_bank_row A.ca)) :=
  fn_ss (N := Nn_next_bank_row) (ps := ["web", "row", "highs"]) (s := dn_next_bank_row A.ca) T.F_next_bank_row sc_next_bank_row (T.F_next_bank_row.binds (ps := ["web", "row", "highs"]) fun _ _ _ _ _ _ us hl => match us, hl with | [_, _, _], _ => rfl) fun cdv A_ outer sh H E' hr => ⟨(tSeq (tAsg (tLst tNil) (gName 3))
    (tSeq (tFor (iEnumS c.K (tCons (tProp A.ca.Web (getSp A.ca.Web "_dues") [] L2.E0 (tVar 0)) tNil)) (gTup c.K 2 (gCons (gName 4) (gCons (gName 5) gNil))) (tSeq (tAsg (tC V.non) (gName 6))
    (tSeq (tIfS (fun σ H Q => (tOp (rIx c.K) (tProp A.ca.Web (getSp A.ca.Web "_first") [] L2.E0 (tVar 0)) (tVar 4)) σ H fun x H' => ∃ k, TruV c.K x H' k ∧ Q k H') (tSeq (tAsg (tCallS (spD c D_least_of) (fun _ => E') (tCons (tLc (iTup c.K (tOp (rIx c.K) (tProp A.ca.Web (getSp A.ca.Web "_first") [] L2.E0 (tVar 0)) (tVar 4))) (gName 8) tYes (tOp (rIx c.K) (tVar 1) (tVar 8)) [8]) tNil)) (gName 7))
    (tAsg (tCallS (spD c (D_bank_price_of A.ca)) (fun _ => E') (tCons (tOp (rIx c.K) (tProp A.ca.Web (getSp A.ca.Web "_marks") [] L2.E0 (tVar 0)) (tVar 4)) (tCons (tVar 7) (tCons (tOp rCat (tOp (rIx c.K) (tVar 2) (tVar 4)) (tLst (tCons (tCallS (spD c (D_bank_high A.ca)) (fun _ => E') (tCons (tVar 0) (tCons (tVar 1) (tCons (tVar 4) tNil)))) tNil))) tNil)))) (gName 6))) tNext)
    (tDrop (tBM c.K "list" rAppend (tVar 3) (tCons (tCallS (spD c D_least_of) (fun _ => E') (tCons (tLst (tCons (tCallS (spD c D_bank_due_of) (fun _ => E') (tCons (tVar 5) tNil)) (tCons (tVar 6) tNil))) tNil)) tNil))))))
    (tRet (tCB (rTupleF c.K) (tCons (tVar 3) tNil))))),
    (pss_cons (ps_asg (pe_lst pa_nil) (pg_name (i := 3) sc_next_bank_row.nd rfl (by first | exact Or.inl rfl | exact Or.inr rfl)))
    (pss_cons (ps_for (passes_of rfl) rfl (pi_enumS (by rfl) T.n_enumerate (pa_cons (pe_prop (pv 0) T.f_Web.cl T.p_Web_dues (getter_of T.F_Web_dues gsc_Web_dues rfl rfl T.f_Web.cl T.a_Web__dues) (hr.mono (by decide)) (T.F_Web_dues.binds (ps := ["self"]) fun _ _ _ _ _ _ us hl => match us, hl with | [_], _ => rfl) .nil passL rfl) pa_nil)) (pg_tup rfl (pgs_cons (pg_name (i := 4) sc_next_bank_row.nd rfl (by first | exact Or.inl rfl | exact Or.inr rfl)) (pgs_cons (pg_name (i := 5) sc_next_bank_row.nd rfl (by first | exact Or.inl rfl | exact Or.inr rfl)) pgs_nil))) (pss_cons (ps_asg pe_non (pg_name (i := 6) sc_next_bank_row.nd rfl (by first | exact Or.inl rfl | exact Or.inr rfl)))
    (pss_cons (ps_if (pt_truth (pe_ix ix_seq (pe_prop (pv 0) T.f_Web.cl T.p_Web_first (getter_of T.F_Web_first gsc_Web_first rfl rfl T.f_Web.cl T.a_Web__first) (hr.mono (by decide)) (T.F_Web_first.binds (ps := ["self"]) fun _ _ _ _ _ _ us hl => match us, hl with | [_], _ => rfl) .nil passL rfl) (pv 4) (fun _ _ => rfl)) (by intro _; rfl)) (pss_cons (ps_asg (pe_callRS (ok_least_of T) (hr.mono (by decide)) (by rfl) T.m_least_of T.F_least_of.kp (passE (takes_of rfl rfl rfl rfl)) (pa_cons (pe_lc (own := [("step", 8)]) (g := gName 8) (wi := (iTup c.K (tOp (rIx c.K) (tProp A.ca.Web (getSp A.ca.Web "_first") [] L2.E0 (tVar 0)) (tVar 4)))) (tt := tYes) (te := (tOp (rIx c.K) (tVar 1) (tVar 8))) rfl sc_next_bank_row.nd (pi_tup (pe_ix ix_seq (pe_prop (pv 0) T.f_Web.cl T.p_Web_first (getter_of T.F_Web_first gsc_Web_first rfl rfl T.f_Web.cl T.a_Web__first) (hr.mono (by decide)) (T.F_Web_first.binds (ps := ["self"]) fun _ _ _ _ _ _ us hl => match us, hl with | [_], _ => rfl) .nil passL rfl) (pv 4) (fun _ _ => rfl))) (blkOk_by (N := Nn_next_bank_row) (sc := defScope s_next_bank_row) (by decide +kernel)) (fun _ _ _ _ _ => pg_name (i := 8) sc_next_bank_row.nd rfl (by first | exact Or.inl rfl | exact Or.inr rfl)) (fun _ _ _ _ _ => pts_nil) (fun _ _ _ _ _ => (pe_ix ix_seq (pv 1) (pv 8) (fun _ _ => rfl)))) pa_nil)) (pg_name (i := 7) sc_next_bank_row.nd rfl (by first | exact Or.inl rfl | exact Or.inr rfl)))
    (pss_one (ps_asg (pe_callRS (ok_bank_price_of T) (hr.mono (by decide)) (by rfl) T.m_bank_price_of T.F_bank_price_of.kp (passE (takes_of rfl rfl rfl rfl)) (pa_cons (pe_ix ix_seq (pe_prop (pv 0) T.f_Web.cl T.p_Web_marks (getter_of T.F_Web_marks gsc_Web_marks rfl rfl T.f_Web.cl T.a_Web__marks) (hr.mono (by decide)) (T.F_Web_marks.binds (ps := ["self"]) fun _ _ _ _ _ _ us hl => match us, hl with | [_], _ => rfl) .nil passL rfl) (pv 4) (fun _ _ => rfl)) (pa_cons (pv 7) (pa_cons (pe_op op_cat (pe_ix ix_seq (pv 2) (pv 4) (fun _ _ => rfl)) (pe_lst (pa_cons (pe_callRS (ok_bank_high T) (hr.mono (by decide)) (by rfl) T.m_bank_high T.F_bank_high.kp (passE (takes_of rfl rfl rfl rfl)) (pa_cons (pv 0) (pa_cons (pv 1) (pa_cons (pv 4) pa_nil)))) pa_nil))) pa_nil)))) (pg_name (i := 6) sc_next_bank_row.nd rfl (by first | exact Or.inl rfl | exact Or.inr rfl))))) pss_nil)
    (pss_one (ps_expr (pe_bm PySem.F.plainAttrs_list PySem.F.slot_list_append PySem.F.type_list_append mt_append (pv 3) (pa_cons (pe_callRS (ok_least_of T) (hr.mono (by decide)) (by rfl) T.m_least_of T.F_least_of.kp (passE (takes_of rfl rfl rfl rfl)) (pa_cons (pe_lst (pa_cons (pe_callRS (ok_bank_due_of T) (hr.mono (by decide)) (by rfl) T.m_bank_due_of T.F_bank_due_of.kp (passE (takes_of rfl rfl rfl rfl)) (pa_cons (pv 5) pa_nil)) (pa_cons (pv 6) pa_nil))) pa_nil)) pa_nil)))))))
    (pss_one (ps_ret (pe_callTy call_tuple_of (by rfl) T.n_tuple (by decide +kernel) (pa_cons (pv 3) pa_nil)))))),
    (ss_seq (ss_own (sen_lst sa_nil))
    (ss_seq (ss_for (si_enumS (sa_cons (se_prop se_var) sa_nil)) sg_pair (ss_seq (ss_asg se_non sg_name)
    (ss_seq (ss_if (st_tru (se_op2 s2_ix (se_prop se_var) se_var)) (ss_seq (ss_asg (se_call (sa_cons (se_new (sen_comp (si_tup (se_op2 s2_ix (se_prop se_var) se_var)) st_true (se_op2 s2_ix se_var se_var))) sa_nil)) sg_name)
    (ss_asg (se_call (sa_cons (se_op2 s2_ix (se_prop se_var) se_var) (sa_cons se_var (sa_cons (se_op2 s2_cat (se_op2 s2_ix se_var se_var) (se_new (sen_lst (sa_cons (se_call (sa_cons se_var (sa_cons se_var (sa_cons se_var sa_nil)))) sa_nil)))) sa_nil)))) sg_name)) ss_next)
    (ss_append (se_call (sa_cons (se_new (sen_lst (sa_cons (se_call (sa_cons se_var sa_nil)) (sa_cons se_var sa_nil)))) sa_nil))))))
    (ss_give (i := 3) (ss_ret (se_cb sn_tuple (sa_cons se_var sa_nil))))))⟩
theorem ok_with_highs (T : Txt c mg A) : FnR P w c.K mg base (L2.CX P w) 4 A.with_highs (spD c (D_with_highs A.ca)) :=
  fn_ss (N := Nn_with_highs) (ps := ["web", "highs", "row"]) (s := dn_with_highs A.ca) T.F_with_highs sc_with_highs (T.F_with_highs.binds (ps := ["web", "highs", "row"]) fun _ _ _ _ _ _ us hl => match us, hl with | [_, _, _], _ => rfl) fun cdv A_ outer sh H E' hr => ⟨(tRet (tLc (iEnum c.K (tCons (tVar 1) tNil)) (gTup c.K 2 (gCons (gName 3) (gCons (gName 4) gNil))) tYes (tIf (fun σ H Q => (tOp (rIx c.K) (tProp A.ca.Web (getSp A.ca.Web "_first") [] L2.E0 (tVar 0)) (tVar 3)) σ H fun x H' => ∃ k, TruV c.K x H' k ∧ Q k H') (tOp rCat (tVar 4) (tLst (tCons (tCallS (spD c (D_bank_high A.ca)) (fun _ => L2.E0) (tCons (tVar 0) (tCons (tVar 2) (tCons (tVar 3) tNil)))) tNil))) (tVar 4)) [3, 4])),
    (pss_one (ps_ret (pe_lc (own := [("stand", 3), ("told", 4)]) (g := (gTup c.K 2 (gCons (gName 3) (gCons (gName 4) gNil)))) (wi := (iEnum c.K (tCons (tVar 1) tNil))) (tt := tYes) (te := (tIf (fun σ H Q => (tOp (rIx c.K) (tProp A.ca.Web (getSp A.ca.Web "_first") [] L2.E0 (tVar 0)) (tVar 3)) σ H fun x H' => ∃ k, TruV c.K x H' k ∧ Q k H') (tOp rCat (tVar 4) (tLst (tCons (tCallS (spD c (D_bank_high A.ca)) (fun _ => L2.E0) (tCons (tVar 0) (tCons (tVar 2) (tCons (tVar 3) tNil)))) tNil))) (tVar 4))) rfl sc_with_highs.nd (pi_enum (by rfl) T.n_enumerate (pa_cons (pv 1) pa_nil)) (blkOk_by (N := Nn_with_highs) (sc := defScope s_with_highs) (by decide +kernel)) (fun _ _ _ _ _ => pg_tup rfl (pgs_cons (pg_name (i := 3) sc_with_highs.nd rfl (by first | exact Or.inl rfl | exact Or.inr rfl)) (pgs_cons (pg_name (i := 4) sc_with_highs.nd rfl (by first | exact Or.inl rfl | exact Or.inr rfl)) pgs_nil))) (fun _ _ _ _ _ => pts_nil) (fun _ _ _ _ _ => (pe_ifExp (pt_truth (pe_ix ix_seq (pe_prop (pv 0) T.f_Web.cl T.p_Web_first (getter_of T.F_Web_first gsc_Web_first rfl rfl T.f_Web.cl T.a_Web__first) (hr.mono (by decide)) (T.F_Web_first.binds (ps := ["self"]) fun _ _ _ _ _ _ us hl => match us, hl with | [_], _ => rfl) .nil passL rfl) (pv 3) (fun _ _ => rfl)) (by intro _; rfl)) (pe_op op_cat (pv 4) (pe_lst (pa_cons (pe_callRS (ok_bank_high T) (hr.mono (by decide)) (by rfl) T.m_bank_high T.F_bank_high.kp passNo (pa_cons (pv 0) (pa_cons (pv 2) (pa_cons (pv 3) pa_nil)))) pa_nil))) (pv 4)))))),
    (ss_ret (se_new (sen_comp2 (si_enum (sa_cons se_var sa_nil)) st_true (se_if (st_tru (se_op2 s2_ix (se_prop se_var) se_var)) (se_op2 s2_cat se_var (se_new (sen_lst (sa_cons (se_call (sa_cons se_var (sa_cons se_var (sa_cons se_var sa_nil)))) sa_nil)))) se_var))))⟩
theorem ok_rounds_by_highs (T : Txt c mg A) : FnR P w c.K mg base (L2.CX P w) 5 A.rounds_by_highs (spD c (D_rounds_by_highs A.ca)) :=
  fn_ss (N := Nn_rounds_by_highs) (ps := ["web", "highs"]) (s := dn_rounds_by_highs A.ca) T.F_rounds_by_highs sc_rounds_by_highs (T.F_rounds_by_highs.binds (ps := ["web", "highs"]) fun _ _ _ _ _ _ us hl => match us, hl with | [_, _], _ => rfl) fun cdv A_ outer sh H E' hr => ⟨(tSeq (tAsg (tLst (tCons (tCB (rTupleF c.K) (tCons (tLc (iTup c.K (tProp A.ca.Web (getSp A.ca.Web "_dues") [] L2.E0 (tVar 0))) (gName 3) tYes (tCallS (spD c D_bank_due_of) (fun _ => L2.E0) (tCons (tVar 3) tNil)) [3]) tNil)) tNil)) (gName 2))
    (tSeq (tAsg (tCallS (spD c (D_next_bank_row A.ca)) (fun _ => E') (tCons (tVar 0) (tCons (tOp (rIx c.K) (tVar 2) (tC (V.int 0))) (tCons (tVar 1) tNil)))) (gName 4))
    (tSeq (tWhile (tTest (tOp (rNeD c.K) (tVar 4) (tOp (rIx c.K) (tVar 2) (tUn (rU fun i => V.int (-i)) (tC (V.int 1)))))) (tSeq (tDrop (tBM c.K "list" rAppend (tVar 2) (tCons (tVar 4) tNil)))
    (tAsg (tCallS (spD c (D_next_bank_row A.ca)) (fun _ => E') (tCons (tVar 0) (tCons (tVar 4) (tCons (tVar 1) tNil)))) (gName 4))))
    (tRet (tVar 2))))),
    (pss_cons (ps_asg (pe_lst (pa_cons (pe_callTy call_tuple_of (by rfl) T.n_tuple (by decide +kernel) (pa_cons (pe_lc (own := [("due", 3)]) (g := gName 3) (wi := (iTup c.K (tProp A.ca.Web (getSp A.ca.Web "_dues") [] L2.E0 (tVar 0)))) (tt := tYes) (te := (tCallS (spD c D_bank_due_of) (fun _ => L2.E0) (tCons (tVar 3) tNil))) rfl sc_rounds_by_highs.nd (pi_tup (pe_prop (pv 0) T.f_Web.cl T.p_Web_dues (getter_of T.F_Web_dues gsc_Web_dues rfl rfl T.f_Web.cl T.a_Web__dues) (hr.mono (by decide)) (T.F_Web_dues.binds (ps := ["self"]) fun _ _ _ _ _ _ us hl => match us, hl with | [_], _ => rfl) .nil passL rfl)) (blkOk_by (N := Nn_rounds_by_highs) (sc := defScope s_rounds_by_highs) (by decide +kernel)) (fun _ _ _ _ _ => pg_name (i := 3) sc_rounds_by_highs.nd rfl (by first | exact Or.inl rfl | exact Or.inr rfl)) (fun _ _ _ _ _ => pts_nil) (fun _ _ _ _ _ => (pe_callRS (ok_bank_due_of T) (hr.mono (by decide)) (by rfl) T.m_bank_due_of T.F_bank_due_of.kp passNo (pa_cons (pv 3) pa_nil)))) pa_nil)) pa_nil)) (pg_name (i := 2) sc_rounds_by_highs.nd rfl (by first | exact Or.inl rfl | exact Or.inr rfl)))
    (pss_cons (ps_asg (pe_callRS (ok_next_bank_row T) (hr.mono (by decide)) (by rfl) T.m_next_bank_row T.F_next_bank_row.kp (passE (takes_of rfl rfl rfl rfl)) (pa_cons (pv 0) (pa_cons (pe_ix ix_seq (pv 2) pe_int (fun _ _ => rfl)) (pa_cons (pv 1) pa_nil)))) (pg_name (i := 4) sc_rounds_by_highs.nd rfl (by first | exact Or.inl rfl | exact Or.inr rfl)))
    (pss_cons (ps_while (passes_of rfl) (pt_cmpR (op_neD (hr.units)) (pv 4) (pe_ix ix_seq (pv 2) (pe_un un_neg pe_int) (fun _ _ => rfl)) (nomark _)) (pss_cons (ps_expr (pe_bm PySem.F.plainAttrs_list PySem.F.slot_list_append PySem.F.type_list_append mt_append (pv 2) (pa_cons (pv 4) pa_nil)))
    (pss_one (ps_asg (pe_callRS (ok_next_bank_row T) (hr.mono (by decide)) (by rfl) T.m_next_bank_row T.F_next_bank_row.kp (passE (takes_of rfl rfl rfl rfl)) (pa_cons (pv 0) (pa_cons (pv 4) (pa_cons (pv 1) pa_nil)))) (pg_name (i := 4) sc_rounds_by_highs.nd rfl (by first | exact Or.inl rfl | exact Or.inr rfl))))))
    (pss_one (ps_ret (pv 2)))))),
    (ss_seq (ss_own (sen_lst (sa_cons (se_cb sn_tuple (sa_cons (se_new (sen_comp (si_tup (se_prop se_var)) st_true (se_call (sa_cons se_var sa_nil)))) sa_nil)) sa_nil)))
    (ss_seq (ss_asg (se_call (sa_cons se_var (sa_cons (se_ixc se_int) (sa_cons se_var sa_nil)))) sg_name)
    (ss_seq (ss_while (st_test (se_op2 s2_neD se_var (se_ixc (se_op1 s1_neg se_int)))) (ss_seq (ss_append se_var)
    (ss_asg (se_call (sa_cons se_var (sa_cons se_var (sa_cons se_var sa_nil)))) sg_name)))
    (ss_give (i := 2) (ss_ret se_var)))))⟩
theorem ok_bank_rows (T : Txt c mg A) : FnR P w c.K mg base (L2.CX P w) 6 A.bank_rows (spD c (D_bank_rows A.ca)) :=
  fn_ss (N := Nn_bank_rows) (ps := ["web", "most"]) (s := dn_bank_rows A.ca) T.F_bank_rows sc_bank_rows (T.F_bank_rows.binds (ps := ["web", "most"]) fun _ _ _ _ _ _ us hl => match us, hl with | [_, _], _ => rfl) fun cdv A_ outer sh H E' hr => ⟨(tSeq (tDrop (tCallS (spD c (D_check_web A.ca)) (fun _ => E') (tCons (tVar 0) tNil)))
    (tSeq (tDrop (tCallS (spD c D_check_whole) (fun _ => E') (tCons (tVar 1) tNil)))
    (tSeq (tDrop (tCallS (spD c D_check_least) (fun _ => E') (tCons (tVar 1) (tCons (tC (V.int 0)) tNil))))
    (tSeq (tDrop (tCallS (spD c D_check_most) (fun _ => E') (tCons (tVar 1) (tCons (tC (V.int 60)) tNil))))
    (tSeq (tDrop (tCallS (spD c D_check_most) (fun _ => E') (tCons (tProp A.ca.Web (getSp A.ca.Web "_greatest_due") [] L2.E0 (tVar 0)) (tCons (tC (V.int 1000000)) tNil))))
    (tSeq (tAsg (tLc (iRng1 (tCons (tProp A.ca.Web (getSp A.ca.Web "_size") [] L2.E0 (tVar 0)) tNil)) (gName 3) tYes (tLst (tCons (tC (V.int 0)) tNil)) [3]) (gName 2))
    (tSeq (tAsg (tLst tNil) (gName 4))
    (tSeq (tFor (iRng1 (tCons (tOp (rI0 fun i j => V.int (i + j)) (tVar 1) (tC (V.int 1))) tNil)) (gName 3) (tSeq (tAsg (tOp (rIx c.K) (tCallS (spD c (D_rounds_by_highs A.ca)) (fun _ => E') (tCons (tVar 0) (tCons (tVar 2) tNil))) (tUn (rU fun i => V.int (-i)) (tC (V.int 1)))) (gName 5))
    (tSeq (tDrop (tBM c.K "list" rAppend (tVar 4) (tCons (tVar 5) tNil)))
    (tAsg (tCallS (spD c (D_with_highs A.ca)) (fun _ => E') (tCons (tVar 0) (tCons (tVar 2) (tCons (tVar 5) tNil)))) (gName 2)))))
    (tRet (tCB (rTupleF c.K) (tCons (tVar 4) tNil))))))))))),
    (pss_cons (ps_expr (pe_callRS (ok_check_web T) (hr.mono (by decide)) (by rfl) T.m_check_web T.F_check_web.kp (passE (takes_of rfl rfl rfl rfl)) (pa_cons (pv 0) pa_nil)))
    (pss_cons (ps_expr (pe_callRS (ok_check_whole T) (hr.mono (by decide)) (by rfl) T.m_check_whole T.F_check_whole.kp (passE (takes_of rfl rfl rfl rfl)) (pa_cons (pv 1) pa_nil)))
    (pss_cons (ps_expr (pe_callRS (ok_check_least T) (hr.mono (by decide)) (by rfl) T.m_check_least T.F_check_least.kp (passE (takes_of rfl rfl rfl rfl)) (pa_cons (pv 1) (pa_cons pe_int pa_nil))))
    (pss_cons (ps_expr (pe_callRS (ok_check_most T) (hr.mono (by decide)) (by rfl) T.m_check_most T.F_check_most.kp (passE (takes_of rfl rfl rfl rfl)) (pa_cons (pv 1) (pa_cons (pe_gint (by rfl) T.c_MOST_CHIPS) pa_nil))))
    (pss_cons (ps_expr (pe_callRS (ok_check_most T) (hr.mono (by decide)) (by rfl) T.m_check_most T.F_check_most.kp (passE (takes_of rfl rfl rfl rfl)) (pa_cons (pe_prop (pv 0) T.f_Web.cl T.p_Web_greatest_due (getter_of T.F_Web_greatest_due gsc_Web_greatest_due rfl rfl T.f_Web.cl T.a_Web__greatest_due) (hr.mono (by decide)) (T.F_Web_greatest_due.binds (ps := ["self"]) fun _ _ _ _ _ _ us hl => match us, hl with | [_], _ => rfl) .nil passL rfl) (pa_cons (pe_gint (by rfl) T.c_MOST_DUE) pa_nil))))
    (pss_cons (ps_setLc (i := 2) (own := [("_", 3)]) (g := gName 3) (wi := (iRng1 (tCons (tProp A.ca.Web (getSp A.ca.Web "_size") [] L2.E0 (tVar 0)) tNil))) (tt := tYes) (te := (tLst (tCons (tC (V.int 0)) tNil))) rfl sc_bank_rows.nd rfl rfl (sw_true rfl rfl rfl (by decide +kernel)) (pi_range1 (by rfl) T.n_range (pa_cons (pe_prop (pv 0) T.f_Web.cl T.p_Web_size (getter_of T.F_Web_size gsc_Web_size rfl rfl T.f_Web.cl T.a_Web__size) (hr.mono (by decide)) (T.F_Web_size.binds (ps := ["self"]) fun _ _ _ _ _ _ us hl => match us, hl with | [_], _ => rfl) .nil passL rfl) pa_nil)) (blkOk_by (N := Nn_bank_rows) (sc := defScope s_bank_rows) (by decide +kernel)) (fun _ _ _ _ _ => pg_name (i := 3) sc_bank_rows.nd rfl (by first | exact Or.inl rfl | exact Or.inr rfl)) (fun _ _ _ _ _ => pts_nil) (fun _ _ _ _ _ => (pe_lst (pa_cons pe_int pa_nil))))
    (pss_cons (ps_asg (pe_lst pa_nil) (pg_name (i := 4) sc_bank_rows.nd rfl (by first | exact Or.inl rfl | exact Or.inr rfl)))
    (pss_cons (ps_for (passes_of rfl) rfl (pi_range1 (by rfl) T.n_range (pa_cons (pe_op op_add (pv 1) pe_int) pa_nil)) (pg_name (i := 3) sc_bank_rows.nd rfl (by first | exact Or.inl rfl | exact Or.inr rfl)) (pss_cons (ps_asg (pe_ix ix_seq (pe_callRS (ok_rounds_by_highs T) (hr.mono (by decide)) (by rfl) T.m_rounds_by_highs T.F_rounds_by_highs.kp (passE (takes_of rfl rfl rfl rfl)) (pa_cons (pv 0) (pa_cons (pv 2) pa_nil))) (pe_un un_neg pe_int) (fun _ _ => rfl)) (pg_name (i := 5) sc_bank_rows.nd rfl (by first | exact Or.inl rfl | exact Or.inr rfl)))
    (pss_cons (ps_expr (pe_bm PySem.F.plainAttrs_list PySem.F.slot_list_append PySem.F.type_list_append mt_append (pv 4) (pa_cons (pv 5) pa_nil)))
    (pss_one (ps_asg (pe_callRS (ok_with_highs T) (hr.mono (by decide)) (by rfl) T.m_with_highs T.F_with_highs.kp (passE (takes_of rfl rfl rfl rfl)) (pa_cons (pv 0) (pa_cons (pv 2) (pa_cons (pv 5) pa_nil)))) (pg_name (i := 2) sc_bank_rows.nd rfl (by first | exact Or.inl rfl | exact Or.inr rfl)))))))
    (pss_one (ps_ret (pe_callTy call_tuple_of (by rfl) T.n_tuple (by decide +kernel) (pa_cons (pv 4) pa_nil)))))))))))),
    (ss_seq (ss_drop (se_call (sa_cons se_var sa_nil)))
    (ss_seq (ss_drop (se_call (sa_cons se_var sa_nil)))
    (ss_seq (ss_drop (se_call (sa_cons se_var (sa_cons se_int sa_nil))))
    (ss_seq (ss_drop (se_call (sa_cons se_var (sa_cons se_int sa_nil))))
    (ss_seq (ss_drop (se_call (sa_cons (se_prop se_var) (sa_cons se_int sa_nil))))
    (ss_seq (ss_asg (se_new (sen_comp (si_rng1 (sa_cons (se_prop se_var) sa_nil)) st_true (se_new (sen_lst (sa_cons se_int sa_nil))))) sg_name)
    (ss_seq (ss_own (sen_lst sa_nil))
    (ss_seq (ss_for (si_rng1 (sa_cons (se_op2 s2_add se_var se_int) sa_nil)) sg_name (ss_seq (ss_asg (se_op2 s2_ix (se_call (sa_cons se_var (sa_cons se_var sa_nil))) (se_op1 s1_neg se_int)) sg_name)
    (ss_seq (ss_append se_var)
    (ss_asg (se_call (sa_cons se_var (sa_cons se_var (sa_cons se_var sa_nil)))) sg_name))))
    (ss_give (i := 4) (ss_ret (se_cb sn_tuple (sa_cons se_var sa_nil))))))))))))⟩
theorem ok_law_draw (T : Txt c mg A) : FnR P w c.K mg base (L2.CX P w) 6 A.law_draw (spD c (D_law_draw)) :=
  fn_ss (N := Nn_law_draw) (ps := ["_law_pot_here", "_law_many"]) (s := dn_law_draw) T.F_law_draw sc_law_draw (T.F_law_draw.binds (ps := ["_law_pot_here", "_law_many"]) fun _ _ _ _ _ _ us hl => match us, hl with | [_, _], _ => rfl) fun cdv A_ outer sh H E' hr => ⟨(tSeq (tIfS (tTest (tOp rEq (tCB (rLenS c.K) (tCons (tVar 0) tNil)) (tC (V.int 0)))) (tRet (tC (V.int 0))) tNext)
    (tRet (tOp (rI (fun _ j => 0 < j) fun i j => V.int (i % j)) (tCB rIntF (tCons (tBM0 c.K "list" rPop (tVar 0)) tNil)) (tVar 1)))),
    (pss_cons (ps_if (pt_cmpR op_eq (pe_callB call_len_seq (by rfl) T.n_len PySem.boot_len (pa_cons (pv 0) pa_nil)) pe_int (nomark _)) (pss_one (ps_ret pe_int)) pss_nil)
    (pss_one (ps_ret (pe_op op_mod (pe_callTy call_int1 (by rfl) T.n_int (by decide +kernel) (pa_cons (pe_bm0 PySem.F.plainAttrs_list PySem.F.slot_list_pop PySem.F.type_list_pop mt_pop (pv 0)) pa_nil)) (pv 1))))),
    (ss_seq (ss_if (st_test (se_op2 s2_eq (se_lenp T.pl se_var) se_int)) (ss_ret se_int) ss_next)
    (ss_ret (se_op2 s2_mod (se_cb sn_int (sa_cons (se_pop T.pl se_var) sa_nil)) se_var)))⟩
theorem ok_law_whole (T : Txt c mg A) : FnR P w c.K mg base (L2.CX P w) 6 A.law_whole (spD c (D_is_integer)) :=
  fn_ss (N := Nn_law_whole) (ps := ["_law_thing"]) (s := dn_is_integer) T.F_law_whole sc_law_whole (T.F_law_whole.binds (ps := ["_law_thing"]) fun _ _ _ _ _ _ us hl => match us, hl with | [_], _ => rfl) fun cdv A_ outer sh H E' hr => ⟨(tRet (tAndV (tCB (rIsi c.K) (tCons (tVar 0) (tCons (tC (V.ty "int")) tNil))) (tNotV (tCB (rIsi c.K) (tCons (tVar 0) (tCons (tC (V.ty "bool")) tNil)))))),
    (pss_one (ps_ret (pe_and (pe_callB call_isi (by rfl) T.n_isinstance (by decide +kernel) (pa_cons (pv 0) (pa_cons (pe_bltn (v := V.ty "int") (by rfl) T.n_int (by decide +kernel) rfl) pa_nil))) (pe_one (pe_not (pe_callB call_isi (by rfl) T.n_isinstance (by decide +kernel) (pa_cons (pv 0) (pa_cons (pe_bltn (v := V.ty "bool") (by rfl) T.n_bool (by decide +kernel) rfl) pa_nil)))))))),
    (ss_ret (se_and (se_cb sn_is1 (sa_cons se_var (sa_cons (se_c fun _ _ => At.ty Ty.int) sa_nil))) (se_not (se_cb sn_is1 (sa_cons se_var (sa_cons (se_c fun _ _ => At.ty Ty.bl) sa_nil))))))⟩
theorem ok_law_lot (T : Txt c mg A) : FnR P w c.K mg base (L2.CX P w) 7 A.law_lot (spD c (D_law_lot)) :=
  fn_ss (N := Nn_law_lot) (ps := ["_law_pot_here", "_law_size"]) (s := dn_law_lot) T.F_law_lot sc_law_lot (T.F_law_lot.binds (ps := ["_law_pot_here", "_law_size"]) fun _ _ _ _ _ _ us hl => match us, hl with | [_, _], _ => rfl) fun cdv A_ outer sh H E' hr => ⟨(tSeq (tAsg (tLst (tCons (tCallS (spD c D_law_draw) (fun _ => E') (tCons (tVar 0) (tCons (tVar 1) tNil))) tNil)) (gName 2))
    (tSeq (tFor (iRng1 (tCons (tCallS (spD c D_law_draw) (fun _ => E') (tCons (tVar 0) (tCons (tC (V.int 3)) tNil))) tNil)) (gName 3) (tSeq (tAsg (tCallS (spD c D_law_draw) (fun _ => E') (tCons (tVar 0) (tCons (tVar 1) tNil))) (gName 4))
    (tIfS (tTest (tOp (rIn c.K true) (tVar 4) (tVar 2))) (tDrop (tBM c.K "list" rAppend (tVar 2) (tCons (tVar 4) tNil))) tNext)))
    (tRet (tVar 2)))),
    (pss_cons (ps_asg (pe_lst (pa_cons (pe_callRS (ok_law_draw T) (hr.mono (by decide)) (by rfl) T.m_law_draw T.F_law_draw.kp (passE (takes_of rfl rfl rfl rfl)) (pa_cons (pv 0) (pa_cons (pv 1) pa_nil))) pa_nil)) (pg_name (i := 2) sc_law_lot.nd rfl (by first | exact Or.inl rfl | exact Or.inr rfl)))
    (pss_cons (ps_for (passes_of rfl) rfl (pi_range1 (by rfl) T.n_range (pa_cons (pe_callRS (ok_law_draw T) (hr.mono (by decide)) (by rfl) T.m_law_draw T.F_law_draw.kp (passE (takes_of rfl rfl rfl rfl)) (pa_cons (pv 0) (pa_cons pe_int pa_nil))) pa_nil)) (pg_name (i := 3) sc_law_lot.nd rfl (by first | exact Or.inl rfl | exact Or.inr rfl)) (pss_cons (ps_asg (pe_callRS (ok_law_draw T) (hr.mono (by decide)) (by rfl) T.m_law_draw T.F_law_draw.kp (passE (takes_of rfl rfl rfl rfl)) (pa_cons (pv 0) (pa_cons (pv 1) pa_nil))) (pg_name (i := 4) sc_law_lot.nd rfl (by first | exact Or.inl rfl | exact Or.inr rfl)))
    (pss_one (ps_if (pt_cmpR op_notIn_seq (pv 4) (pv 2) rfl) (pss_one (ps_expr (pe_bm PySem.F.plainAttrs_list PySem.F.slot_list_append PySem.F.type_list_append mt_append (pv 2) (pa_cons (pv 4) pa_nil)))) pss_nil))))
    (pss_one (ps_ret (pv 2))))),
    (ss_seq (ss_own (sen_lst (sa_cons (se_call (sa_cons se_var (sa_cons se_var sa_nil))) sa_nil)))
    (ss_seq (ss_for (si_rng1 (sa_cons (se_call (sa_cons se_var (sa_cons se_int sa_nil))) sa_nil)) sg_name (ss_seq (ss_asg (se_call (sa_cons se_var (sa_cons se_var sa_nil))) sg_name)
    (ss_if (st_test (se_inc se_var)) (ss_append se_var) ss_next)))
    (ss_give (i := 2) (ss_ret se_var))))⟩
theorem ok_law_due (T : Txt c mg A) : FnR P w c.K mg base (L2.CX P w) 7 A.law_due (spD c (D_law_due)) :=
  fn_ss (N := Nn_law_due) (ps := ["_law_pot_here"]) (s := dn_law_due) T.F_law_due sc_law_due (T.F_law_due.binds (ps := ["_law_pot_here"]) fun _ _ _ _ _ _ us hl => match us, hl with | [_], _ => rfl) fun cdv A_ outer sh H E' hr => ⟨(tSeq (tAsg (tCallS (spD c D_law_draw) (fun _ => E') (tCons (tVar 0) (tCons (tC (V.int 6)) tNil))) (gName 1))
    (tSeq (tIfS (tTest (tOp (rI0 fun i j => V.bl (decide (i ≤ j))) (tVar 1) (tC (V.int 2)))) (tRet (tTup (tCons (tC (V.str "chips")) (tCons (tC (V.int 0)) tNil)))) tNext)
    (tSeq (tIfS (tTest (tOp rEq (tVar 1) (tC (V.int 3)))) (tRet (tTup (tCons (tC (V.str "chips")) (tCons (tOp (rI0 fun i j => V.int (i + j)) (tC (V.int 1)) (tCallS (spD c D_law_draw) (fun _ => E') (tCons (tVar 0) (tCons (tC (V.int 4)) tNil)))) tNil)))) tNext)
    (tSeq (tIfS (tTest (tOp rEq (tVar 1) (tC (V.int 4)))) (tRet (tTup (tCons (tC (V.str "less")) (tCons (tOp (rI0 fun i j => V.int (i + j)) (tC (V.int 1)) (tCallS (spD c D_law_draw) (fun _ => E') (tCons (tVar 0) (tCons (tC (V.int 3)) tNil)))) tNil)))) tNext)
    (tRet (tC V.non)))))),
    (pss_cons (ps_asg (pe_callRS (ok_law_draw T) (hr.mono (by decide)) (by rfl) T.m_law_draw T.F_law_draw.kp (passE (takes_of rfl rfl rfl rfl)) (pa_cons (pv 0) (pa_cons pe_int pa_nil))) (pg_name (i := 1) sc_law_due.nd rfl (by first | exact Or.inl rfl | exact Or.inr rfl)))
    (pss_cons (ps_if (pt_cmpR op_le (pv 1) pe_int (nomark _)) (pss_one (ps_ret (pe_tup (pa_cons pe_str (pa_cons pe_int pa_nil))))) pss_nil)
    (pss_cons (ps_if (pt_cmpR op_eq (pv 1) pe_int (nomark _)) (pss_one (ps_ret (pe_tup (pa_cons pe_str (pa_cons (pe_op op_add pe_int (pe_callRS (ok_law_draw T) (hr.mono (by decide)) (by rfl) T.m_law_draw T.F_law_draw.kp (passE (takes_of rfl rfl rfl rfl)) (pa_cons (pv 0) (pa_cons pe_int pa_nil)))) pa_nil))))) pss_nil)
    (pss_cons (ps_if (pt_cmpR op_eq (pv 1) pe_int (nomark _)) (pss_one (ps_ret (pe_tup (pa_cons pe_str (pa_cons (pe_op op_add pe_int (pe_callRS (ok_law_draw T) (hr.mono (by decide)) (by rfl) T.m_law_draw T.F_law_draw.kp (passE (takes_of rfl rfl rfl rfl)) (pa_cons (pv 0) (pa_cons pe_int pa_nil)))) pa_nil))))) pss_nil)
    (pss_one (ps_ret pe_non)))))),
    (ss_seq (ss_asg (se_call (sa_cons se_var (sa_cons se_int sa_nil))) sg_name)
    (ss_seq (ss_if (st_test (se_op2 s2_le se_var se_int)) (ss_ret (se_tup (sa_cons se_str (sa_cons se_int sa_nil)))) ss_next)
    (ss_seq (ss_if (st_test (se_op2 s2_eq se_var se_int)) (ss_ret (se_tup (sa_cons se_str (sa_cons (se_op2 s2_add se_int (se_call (sa_cons se_var (sa_cons se_int sa_nil)))) sa_nil)))) ss_next)
    (ss_seq (ss_if (st_test (se_op2 s2_eq se_var se_int)) (ss_ret (se_tup (sa_cons se_str (sa_cons (se_op2 s2_add se_int (se_call (sa_cons se_var (sa_cons se_int sa_nil)))) sa_nil)))) ss_next)
    (ss_ret se_non)))))⟩
theorem ok_law_marks (T : Txt c mg A) : FnR P w c.K mg base (L2.CX P w) 7 A.law_marks (spD c (D_law_marks)) :=
  fn_ss (N := Nn_law_marks) (ps := ["_law_pot_here", "_law_size"]) (s := dn_law_marks) T.F_law_marks sc_law_marks (T.F_law_marks.binds (ps := ["_law_pot_here", "_law_size"]) fun _ _ _ _ _ _ us hl => match us, hl with | [_, _], _ => rfl) fun cdv A_ outer sh H E' hr => ⟨(tSeq (tAsg (tCallS (spD c D_law_draw) (fun _ => E') (tCons (tVar 0) (tCons (tC (V.int 4)) tNil))) (gName 2))
    (tSeq (tIfS (tTest (tOp (rI0 fun i j => V.bl (decide (i ≤ j))) (tVar 2) (tC (V.int 1)))) (tRet (tLc (iRng1 (tCons (tVar 1) tNil)) (gName 3) tYes (tOp (rI0 fun i j => V.int (i + j)) (tC (V.int 1)) (tVar 2)) [3])) tNext)
    (tRet (tLc (iRng1 (tCons (tVar 1) tNil)) (gName 3) tYes (tOp (rI0 fun i j => V.int (i + j)) (tC (V.int 1)) (tCallS (spD c D_law_draw) (fun _ => L2.E0) (tCons (tVar 0) (tCons (tC (V.int 2)) tNil)))) [3])))),
    (pss_cons (ps_asg (pe_callRS (ok_law_draw T) (hr.mono (by decide)) (by rfl) T.m_law_draw T.F_law_draw.kp (passE (takes_of rfl rfl rfl rfl)) (pa_cons (pv 0) (pa_cons pe_int pa_nil))) (pg_name (i := 2) sc_law_marks.nd rfl (by first | exact Or.inl rfl | exact Or.inr rfl)))
    (pss_cons (ps_if (pt_cmpR op_le (pv 2) pe_int (nomark _)) (pss_one (ps_ret (pe_lc (own := [("_law_stand", 3)]) (g := gName 3) (wi := (iRng1 (tCons (tVar 1) tNil))) (tt := tYes) (te := (tOp (rI0 fun i j => V.int (i + j)) (tC (V.int 1)) (tVar 2))) rfl sc_law_marks.nd (pi_range1 (by rfl) T.n_range (pa_cons (pv 1) pa_nil)) (blkOk_by (N := Nn_law_marks) (sc := defScope s_law_marks) (by decide +kernel)) (fun _ _ _ _ _ => pg_name (i := 3) sc_law_marks.nd rfl (by first | exact Or.inl rfl | exact Or.inr rfl)) (fun _ _ _ _ _ => pts_nil) (fun _ _ _ _ _ => (pe_op op_add pe_int (pv 2)))))) pss_nil)
    (pss_one (ps_ret (pe_lc (own := [("_law_stand", 3)]) (g := gName 3) (wi := (iRng1 (tCons (tVar 1) tNil))) (tt := tYes) (te := (tOp (rI0 fun i j => V.int (i + j)) (tC (V.int 1)) (tCallS (spD c D_law_draw) (fun _ => L2.E0) (tCons (tVar 0) (tCons (tC (V.int 2)) tNil))))) rfl sc_law_marks.nd (pi_range1 (by rfl) T.n_range (pa_cons (pv 1) pa_nil)) (blkOk_by (N := Nn_law_marks) (sc := defScope s_law_marks) (by decide +kernel)) (fun _ _ _ _ _ => pg_name (i := 3) sc_law_marks.nd rfl (by first | exact Or.inl rfl | exact Or.inr rfl)) (fun _ _ _ _ _ => pts_nil) (fun _ _ _ _ _ => (pe_op op_add pe_int (pe_callRS (ok_law_draw T) (hr.mono (by decide)) (by rfl) T.m_law_draw T.F_law_draw.kp passNo (pa_cons (pv 0) (pa_cons pe_int pa_nil)))))))))),
    (ss_seq (ss_asg (se_call (sa_cons se_var (sa_cons se_int sa_nil))) sg_name)
    (ss_seq (ss_if (st_test (se_op2 s2_le se_var se_int)) (ss_ret (se_new (sen_comp (si_rng1 (sa_cons se_var sa_nil)) st_true (se_op2 s2_add se_int se_var)))) ss_next)
    (ss_ret (se_new (sen_comp (si_rng1 (sa_cons se_var sa_nil)) st_true (se_op2 s2_add se_int (se_call (sa_cons se_var (sa_cons se_int sa_nil)))))))))⟩
theorem ok_law_path (T : Txt c mg A) : FnR P w c.K mg base (L2.CX P w) 6 A.law_path (spD c (D_law_path)) :=
  fn_ss (N := Nn_law_path) (ps := ["_law_size"]) (s := dn_law_path) T.F_law_path sc_law_path (T.F_law_path.binds (ps := ["_law_size"]) fun _ _ _ _ _ _ us hl => match us, hl with | [_], _ => rfl) fun cdv A_ outer sh H E' hr => ⟨(tSeq (tAsg (tLst (tCons (tLst tNil) (tCons (tLst tNil) tNil))) (gName 1))
    (tSeq (tFor (iRng2 (tCons (tC (V.int 2)) (tCons (tVar 0) tNil))) (gName 2) (tSeq (tAsg (tOp (rI0 fun i j => V.int (i - j)) (tVar 2) (tC (V.int 1))) (gName 3))
    (tSeq (tIfS (tTest (tOp rEq (tVar 2) (tC (V.int 2)))) (tAsg (tC (V.int 0)) (gName 3)) tNext)
    (tSeq (tAsg (tOp (rI0 fun i j => V.int (i + j)) (tVar 2) (tC (V.int 1))) (gName 4))
    (tSeq (tIfS (tTest (tOp rEq (tVar 2) (tOp (rI0 fun i j => V.int (i - j)) (tVar 0) (tC (V.int 1))))) (tAsg (tC (V.int 1)) (gName 4)) tNext)
    (tDrop (tBM c.K "list" rAppend (tVar 1) (tCons (tLst (tCons (tVar 3) (tCons (tVar 4) tNil))) tNil))))))))
    (tRet (tVar 1)))),
    (pss_cons (ps_asg (pe_lst (pa_cons (pe_lst pa_nil) (pa_cons (pe_lst pa_nil) pa_nil))) (pg_name (i := 1) sc_law_path.nd rfl (by first | exact Or.inl rfl | exact Or.inr rfl)))
    (pss_cons (ps_for (passes_of rfl) rfl (pi_range2 (by rfl) T.n_range (pa_cons pe_int (pa_cons (pv 0) pa_nil))) (pg_name (i := 2) sc_law_path.nd rfl (by first | exact Or.inl rfl | exact Or.inr rfl)) (pss_cons (ps_asg (pe_op op_sub (pv 2) pe_int) (pg_name (i := 3) sc_law_path.nd rfl (by first | exact Or.inl rfl | exact Or.inr rfl)))
    (pss_cons (ps_if (pt_cmpR op_eq (pv 2) pe_int (nomark _)) (pss_one (ps_asg pe_int (pg_name (i := 3) sc_law_path.nd rfl (by first | exact Or.inl rfl | exact Or.inr rfl)))) pss_nil)
    (pss_cons (ps_asg (pe_op op_add (pv 2) pe_int) (pg_name (i := 4) sc_law_path.nd rfl (by first | exact Or.inl rfl | exact Or.inr rfl)))
    (pss_cons (ps_if (pt_cmpR op_eq (pv 2) (pe_op op_sub (pv 0) pe_int) (nomark _)) (pss_one (ps_asg pe_int (pg_name (i := 4) sc_law_path.nd rfl (by first | exact Or.inl rfl | exact Or.inr rfl)))) pss_nil)
    (pss_one (ps_expr (pe_bm PySem.F.plainAttrs_list PySem.F.slot_list_append PySem.F.type_list_append mt_append (pv 1) (pa_cons (pe_lst (pa_cons (pv 3) (pa_cons (pv 4) pa_nil))) pa_nil)))))))))
    (pss_one (ps_ret (pv 1))))),
    (ss_seq (ss_own (sen_lst (sa_cons (se_new (sen_lst sa_nil)) (sa_cons (se_new (sen_lst sa_nil)) sa_nil))))
    (ss_seq (ss_for (si_rng2 (sa_cons se_int (sa_cons se_var sa_nil))) sg_name (ss_seq (ss_asg (se_op2 s2_sub se_var se_int) sg_name)
    (ss_seq (ss_if (st_test (se_op2 s2_eq se_var se_int)) (ss_asg se_int sg_name) ss_next)
    (ss_seq (ss_asg (se_op2 s2_add se_var se_int) sg_name)
    (ss_seq (ss_if (st_test (se_op2 s2_eq se_var (se_op2 s2_sub se_var se_int))) (ss_asg se_int sg_name) ss_next)
    (ss_append (se_new (sen_lst (sa_cons se_var (sa_cons se_var sa_nil))))))))))
    (ss_give (i := 1) (ss_ret se_var))))⟩
theorem ok_law_web (T : Txt c mg A) : FnR P w c.K mg base (L2.CX P w) 8 A.law_web (spD c (D_law_web)) :=
  fn_ss (N := Nn_law_web) (ps := ["_law_pot_here", "_law_most", "_law_even"]) (s := dn_law_web) T.F_law_web sc_law_web (T.F_law_web.binds (ps := ["_law_pot_here", "_law_most", "_law_even"]) fun _ _ _ _ _ _ us hl => match us, hl with | [_, _, _], _ => rfl) fun cdv A_ outer sh H E' hr => ⟨(tSeq (tAsg (tCB rMin2F (tCons (tVar 1) (tCons (tOp (rIx c.K) (tLst (tCons (tC (V.int 4)) (tCons (tC (V.int 3)) (tCons (tC (V.int 5)) (tCons (tC (V.int 4)) (tCons (tC (V.int 6)) (tCons (tC (V.int 2)) (tCons (tC (V.int 5)) (tCons (tC (V.int 3)) (tCons (tC (V.int 7)) (tCons (tC (V.int 1)) tNil))))))))))) (tCallS (spD c D_law_draw) (fun _ => E') (tCons (tVar 0) (tCons (tC (V.int 10)) tNil)))) tNil))) (gName 3))
    (tSeq (tAsg (tCallS (spD c D_law_draw) (fun _ => E') (tCons (tVar 0) (tCons (tC (V.int 5)) tNil))) (gName 4))
    (tSeq (tAsg (tLst tNil) (gName 5))
    (tSeq (tAsg (tLst tNil) (gName 6))
    (tSeq (tIfS (tAnd (tTest (tOp rEq (tVar 4) (tC (V.int 0)))) (tTest (tOp (rI0 fun i j => V.bl (decide (j ≤ i))) (tVar 3) (tC (V.int 2))))) (tSeq (tAsg (tCallS (spD c D_law_path) (fun _ => E') (tCons (tVar 3) tNil)) (gName 5))
    (tSeq (tAsg (tOp rCat (tLst (tCons (tTup (tCons (tC (V.str "chips")) (tCons (tC (V.int 0)) tNil))) tNil)) (tLc (iRng1 (tCons (tOp (rI0 fun i j => V.int (i - j)) (tVar 3) (tC (V.int 1))) tNil)) (gName 7) tYes (tC V.non) [7])) (gName 6))
    (tAsg (tLc (iList c.K (tVar 5)) (gName 9) tYes (tCB (rListF c.K) (tCons (tVar 9) tNil)) [9]) (gName 8)))) (tSeq (tAsg (tLst tNil) (gName 8))
    (tFor (iRng1 (tCons (tVar 3) tNil)) (gName 7) (tSeq (tAsg (tAndV (tOp rEq (tVar 7) (tC (V.int 0))) (tOp rNe (tVar 4) (tC (V.int 4)))) (gName 10))
    (tSeq (tIfS (tAnd (tTest (tOp rEq (tVar 7) (tC (V.int 1)))) (tTest (tOp rNe (tVar 4) (tC (V.int 3))))) (tAsg (tC (V.bl true)) (gName 10)) tNext)
    (tSeq (tIfS (tAnd (tTest (tOp (rI0 fun i j => V.bl (decide (j ≤ i))) (tVar 7) (tC (V.int 2)))) (tTest (tOp rEq (tCallS (spD c D_law_draw) (fun _ => E') (tCons (tVar 0) (tCons (tC (V.int 8)) tNil))) (tC (V.int 7))))) (tAsg (tC (V.bl true)) (gName 10)) tNext)
    (tSeq (tIfS (fun σ H Q => (tVar 10) σ H fun x H' => ∃ k, TruV c.K x H' k ∧ Q k H') (tSeq (tDrop (tBM c.K "list" rAppend (tVar 5) (tCons (tLst tNil) tNil)))
    (tDrop (tBM c.K "list" rAppend (tVar 8) (tCons (tLst tNil) tNil)))) (tSeq (tAsg (tCallS (spD c D_law_lot) (fun _ => E') (tCons (tVar 0) (tCons (tVar 3) tNil))) (gName 9))
    (tSeq (tDrop (tBM c.K "list" rAppend (tVar 5) (tCons (tVar 9) tNil)))
    (tIfS (tOr (fun σ H Q => (tVar 2) σ H fun x H' => ∃ k, TruV c.K x H' k ∧ Q k H') (tTest (tOp rEq (tCallS (spD c D_law_draw) (fun _ => E') (tCons (tVar 0) (tCons (tC (V.int 2)) tNil))) (tC (V.int 0))))) (tDrop (tBM c.K "list" rAppend (tVar 8) (tCons (tCB (rListF c.K) (tCons (tVar 9) tNil)) tNil))) (tDrop (tBM c.K "list" rAppend (tVar 8) (tCons (tCallS (spD c D_law_lot) (fun _ => E') (tCons (tVar 0) (tCons (tVar 3) tNil))) tNil)))))))
    (tSeq (tAsg (tC V.non) (gName 11))
    (tSeq (tIfS (tOr (tTest (tOp rEq (tVar 7) (tC (V.int 0)))) (tAnd (fun σ H Q => (tVar 10) σ H fun x H' => ∃ k, TruV c.K x H' k ∧ Q k H') (tTest (tOp (rI0 fun i j => V.bl (decide (j ≤ i))) (tVar 7) (tC (V.int 2)))))) (tAsg (tCallS (spD c D_law_due) (fun _ => E') (tCons (tVar 0) tNil)) (gName 11)) (tIfS (tAnd (tNot (fun σ H Q => (tVar 10) σ H fun x H' => ∃ k, TruV c.K x H' k ∧ Q k H')) (tTest (tOp rEq (tCallS (spD c D_law_draw) (fun _ => E') (tCons (tVar 0) (tCons (tC (V.int 8)) tNil))) (tC (V.int 7))))) (tAsg (tCallS (spD c D_law_due) (fun _ => E') (tCons (tVar 0) tNil)) (gName 11)) tNext))
    (tDrop (tBM c.K "list" rAppend (tVar 6) (tCons (tVar 11) tNil))))))))))))
    (tRet (tLst (tCons (tVar 5) (tCons (tVar 8) (tCons (tCallS (spD c D_law_marks) (fun _ => E') (tCons (tVar 0) (tCons (tVar 3) tNil))) (tCons (tVar 6) tNil))))))))))),
    (pss_cons (ps_asg (pe_callB (call_min2 rfl) (by rfl) T.n_min (by decide +kernel) (pa_cons (pv 1) (pa_cons (pe_ix ix_seq (pe_lst (pa_cons pe_int (pa_cons pe_int (pa_cons pe_int (pa_cons pe_int (pa_cons pe_int (pa_cons pe_int (pa_cons pe_int (pa_cons pe_int (pa_cons pe_int (pa_cons pe_int pa_nil))))))))))) (pe_callRS (ok_law_draw T) (hr.mono (by decide)) (by rfl) T.m_law_draw T.F_law_draw.kp (passE (takes_of rfl rfl rfl rfl)) (pa_cons (pv 0) (pa_cons pe_int pa_nil))) (fun _ _ => rfl)) pa_nil))) (pg_name (i := 3) sc_law_web.nd rfl (by first | exact Or.inl rfl | exact Or.inr rfl)))
    (pss_cons (ps_asg (pe_callRS (ok_law_draw T) (hr.mono (by decide)) (by rfl) T.m_law_draw T.F_law_draw.kp (passE (takes_of rfl rfl rfl rfl)) (pa_cons (pv 0) (pa_cons pe_int pa_nil))) (pg_name (i := 4) sc_law_web.nd rfl (by first | exact Or.inl rfl | exact Or.inr rfl)))
    (pss_cons (ps_asg (pe_lst pa_nil) (pg_name (i := 5) sc_law_web.nd rfl (by first | exact Or.inl rfl | exact Or.inr rfl)))
    (pss_cons (ps_asg (pe_lst pa_nil) (pg_name (i := 6) sc_law_web.nd rfl (by first | exact Or.inl rfl | exact Or.inr rfl)))
    (pss_cons (ps_if (PW.pt (pw_and (pt_cmpR op_eq (pv 4) pe_int (nomark _)) (pw_and1 (pt_cmpR op_ge (pv 3) pe_int (nomark _))))) (pss_cons (ps_asg (pe_callRS (ok_law_path T) (hr.mono (by decide)) (by rfl) T.m_law_path T.F_law_path.kp (passE (takes_of rfl rfl rfl rfl)) (pa_cons (pv 3) pa_nil)) (pg_name (i := 5) sc_law_web.nd rfl (by first | exact Or.inl rfl | exact Or.inr rfl)))
    (pss_cons (ps_asg (pe_op op_cat (pe_lst (pa_cons (pe_tup (pa_cons pe_str (pa_cons pe_int pa_nil))) pa_nil)) (pe_lc (own := [("_law_stand", 7)]) (g := gName 7) (wi := (iRng1 (tCons (tOp (rI0 fun i j => V.int (i - j)) (tVar 3) (tC (V.int 1))) tNil))) (tt := tYes) (te := (tC V.non)) rfl sc_law_web.nd (pi_range1 (by rfl) T.n_range (pa_cons (pe_op op_sub (pv 3) pe_int) pa_nil)) (blkOk_by (N := Nn_law_web) (sc := defScope s_law_web) (by decide +kernel)) (fun _ _ _ _ _ => pg_name (i := 7) sc_law_web.nd rfl (by first | exact Or.inl rfl | exact Or.inr rfl)) (fun _ _ _ _ _ => pts_nil) (fun _ _ _ _ _ => pe_non))) (pg_name (i := 6) sc_law_web.nd rfl (by first | exact Or.inl rfl | exact Or.inr rfl)))
    (pss_one (ps_setLc (i := 8) (own := [("_law_lot_here", 9)]) (g := gName 9) (wi := (iList c.K (tVar 5))) (tt := tYes) (te := (tCB (rListF c.K) (tCons (tVar 9) tNil))) rfl sc_law_web.nd rfl rfl (sw_true rfl rfl rfl (by decide +kernel)) (pi_list (pv 5)) (blkOk_by (N := Nn_law_web) (sc := defScope s_law_web) (by decide +kernel)) (fun _ _ _ _ _ => pg_name (i := 9) sc_law_web.nd rfl (by first | exact Or.inl rfl | exact Or.inr rfl)) (fun _ _ _ _ _ => pts_nil) (fun _ _ _ _ _ => (pe_callTy call_list_of (by rfl) T.n_list (by decide +kernel) (pa_cons (pv 9) pa_nil))))))) (pss_cons (ps_asg (pe_lst pa_nil) (pg_name (i := 8) sc_law_web.nd rfl (by first | exact Or.inl rfl | exact Or.inr rfl)))
    (pss_one (ps_for (passes_of rfl) rfl (pi_range1 (by rfl) T.n_range (pa_cons (pv 3) pa_nil)) (pg_name (i := 7) sc_law_web.nd rfl (by first | exact Or.inl rfl | exact Or.inr rfl)) (pss_cons (ps_asg (pe_and (pe_cmpR op_eq (pv 7) pe_int (nomark _)) (pe_one (pe_cmpR op_ne (pv 4) pe_int (nomark _)))) (pg_name (i := 10) sc_law_web.nd rfl (by first | exact Or.inl rfl | exact Or.inr rfl)))
    (pss_cons (ps_if (PW.pt (pw_and (pt_cmpR op_eq (pv 7) pe_int (nomark _)) (pw_and1 (pt_cmpR op_ne (pv 4) pe_int (nomark _))))) (pss_one (ps_asg pe_bl (pg_name (i := 10) sc_law_web.nd rfl (by first | exact Or.inl rfl | exact Or.inr rfl)))) pss_nil)
    (pss_cons (ps_if (PW.pt (pw_and (pt_cmpR op_ge (pv 7) pe_int (nomark _)) (pw_and1 (pt_cmpR op_eq (pe_callRS (ok_law_draw T) (hr.mono (by decide)) (by rfl) T.m_law_draw T.F_law_draw.kp (passE (takes_of rfl rfl rfl rfl)) (pa_cons (pv 0) (pa_cons pe_int pa_nil))) pe_int (nomark _))))) (pss_one (ps_asg pe_bl (pg_name (i := 10) sc_law_web.nd rfl (by first | exact Or.inl rfl | exact Or.inr rfl)))) pss_nil)
    (pss_cons (ps_if (pt_truth (pv 10) (by intro _; rfl)) (pss_cons (ps_expr (pe_bm PySem.F.plainAttrs_list PySem.F.slot_list_append PySem.F.type_list_append mt_append (pv 5) (pa_cons (pe_lst pa_nil) pa_nil)))
    (pss_one (ps_expr (pe_bm PySem.F.plainAttrs_list PySem.F.slot_list_append PySem.F.type_list_append mt_append (pv 8) (pa_cons (pe_lst pa_nil) pa_nil))))) (pss_cons (ps_asg (pe_callRS (ok_law_lot T) (hr.mono (by decide)) (by rfl) T.m_law_lot T.F_law_lot.kp (passE (takes_of rfl rfl rfl rfl)) (pa_cons (pv 0) (pa_cons (pv 3) pa_nil))) (pg_name (i := 9) sc_law_web.nd rfl (by first | exact Or.inl rfl | exact Or.inr rfl)))
    (pss_cons (ps_expr (pe_bm PySem.F.plainAttrs_list PySem.F.slot_list_append PySem.F.type_list_append mt_append (pv 5) (pa_cons (pv 9) pa_nil)))
    (pss_one (ps_if (PW.pt (pw_or (pt_truth (pv 2) (by intro _; rfl)) (pw_or1 (pt_cmpR op_eq (pe_callRS (ok_law_draw T) (hr.mono (by decide)) (by rfl) T.m_law_draw T.F_law_draw.kp (passE (takes_of rfl rfl rfl rfl)) (pa_cons (pv 0) (pa_cons pe_int pa_nil))) pe_int (nomark _))))) (pss_one (ps_expr (pe_bm PySem.F.plainAttrs_list PySem.F.slot_list_append PySem.F.type_list_append mt_append (pv 8) (pa_cons (pe_callTy call_list_of (by rfl) T.n_list (by decide +kernel) (pa_cons (pv 9) pa_nil)) pa_nil)))) (pss_one (ps_expr (pe_bm PySem.F.plainAttrs_list PySem.F.slot_list_append PySem.F.type_list_append mt_append (pv 8) (pa_cons (pe_callRS (ok_law_lot T) (hr.mono (by decide)) (by rfl) T.m_law_lot T.F_law_lot.kp (passE (takes_of rfl rfl rfl rfl)) (pa_cons (pv 0) (pa_cons (pv 3) pa_nil))) pa_nil)))))))))
    (pss_cons (ps_asg pe_non (pg_name (i := 11) sc_law_web.nd rfl (by first | exact Or.inl rfl | exact Or.inr rfl)))
    (pss_cons (ps_if (PW.pt (pw_or (pt_cmpR op_eq (pv 7) pe_int (nomark _)) (pw_or1 (PW.pt (pw_and (pt_truth (pv 10) (by intro _; rfl)) (pw_and1 (pt_cmpR op_ge (pv 7) pe_int (nomark _)))))))) (pss_one (ps_asg (pe_callRS (ok_law_due T) (hr.mono (by decide)) (by rfl) T.m_law_due T.F_law_due.kp (passE (takes_of rfl rfl rfl rfl)) (pa_cons (pv 0) pa_nil)) (pg_name (i := 11) sc_law_web.nd rfl (by first | exact Or.inl rfl | exact Or.inr rfl)))) (pss_one (ps_if (PW.pt (pw_and (pt_not (pt_truth (pv 10) (by intro _; rfl))) (pw_and1 (pt_cmpR op_eq (pe_callRS (ok_law_draw T) (hr.mono (by decide)) (by rfl) T.m_law_draw T.F_law_draw.kp (passE (takes_of rfl rfl rfl rfl)) (pa_cons (pv 0) (pa_cons pe_int pa_nil))) pe_int (nomark _))))) (pss_one (ps_asg (pe_callRS (ok_law_due T) (hr.mono (by decide)) (by rfl) T.m_law_due T.F_law_due.kp (passE (takes_of rfl rfl rfl rfl)) (pa_cons (pv 0) pa_nil)) (pg_name (i := 11) sc_law_web.nd rfl (by first | exact Or.inl rfl | exact Or.inr rfl)))) pss_nil)))
    (pss_one (ps_expr (pe_bm PySem.F.plainAttrs_list PySem.F.slot_list_append PySem.F.type_list_append mt_append (pv 6) (pa_cons (pv 11) pa_nil))))))))))))))
    (pss_one (ps_ret (pe_lst (pa_cons (pv 5) (pa_cons (pv 8) (pa_cons (pe_callRS (ok_law_marks T) (hr.mono (by decide)) (by rfl) T.m_law_marks T.F_law_marks.kp (passE (takes_of rfl rfl rfl rfl)) (pa_cons (pv 0) (pa_cons (pv 3) pa_nil))) (pa_cons (pv 6) pa_nil)))))))))))),
    (ss_seq (ss_asg (se_cb sn_min2 (sa_cons se_var (sa_cons (se_op2 s2_ix (se_new (sen_lst (sa_cons se_int (sa_cons se_int (sa_cons se_int (sa_cons se_int (sa_cons se_int (sa_cons se_int (sa_cons se_int (sa_cons se_int (sa_cons se_int (sa_cons se_int sa_nil)))))))))))) (se_call (sa_cons se_var (sa_cons se_int sa_nil)))) sa_nil))) sg_name)
    (ss_seq (ss_asg (se_call (sa_cons se_var (sa_cons se_int sa_nil))) sg_name)
    (ss_seq (ss_own (sen_lst sa_nil))
    (ss_seq (ss_own (sen_lst sa_nil))
    (ss_seq (ss_if (st_and (st_test (se_op2 s2_eq se_var se_int)) (st_test (se_op2 s2_ge se_var se_int))) (ss_seq (ss_asg (se_call (sa_cons se_var sa_nil)) sg_name)
    (ss_seq (ss_asg (se_op2 s2_cat (se_new (sen_lst (sa_cons (se_tup (sa_cons se_str (sa_cons se_int sa_nil))) sa_nil))) (se_new (sen_comp (si_rng1 (sa_cons (se_op2 s2_sub se_var se_int) sa_nil)) st_true se_non))) sg_name)
    (ss_give (i := 5) (ss_own (sen_comp (si_list se_var) st_true (se_new (sen_list (sa_cons se_var sa_nil)))))))) (ss_seq (ss_own (sen_lst sa_nil))
    (ss_for (si_rng1 (sa_cons se_var sa_nil)) sg_name (ss_seq (ss_asg (se_and (se_op2 s2_eq se_var se_int) (se_op2 s2_ne se_var se_int)) sg_name)
    (ss_seq (ss_if (st_and (st_test (se_op2 s2_eq se_var se_int)) (st_test (se_op2 s2_ne se_var se_int))) (ss_asg se_bl sg_name) ss_next)
    (ss_seq (ss_if (st_and (st_test (se_op2 s2_ge se_var se_int)) (st_test (se_op2 s2_eq (se_call (sa_cons se_var (sa_cons se_int sa_nil))) se_int))) (ss_asg se_bl sg_name) ss_next)
    (ss_seq (ss_if (st_tru se_var) (ss_seq (ss_append (se_new (sen_lst sa_nil)))
    (ss_append (se_new (sen_lst sa_nil)))) (ss_seq (ss_asg (se_call (sa_cons se_var (sa_cons se_var sa_nil))) sg_name)
    (ss_seq (ss_append se_var)
    (ss_if (st_or (st_tru se_var) (st_test (se_op2 s2_eq (se_call (sa_cons se_var (sa_cons se_int sa_nil))) se_int))) (ss_append (se_new (sen_list (sa_cons se_var sa_nil)))) (ss_append (se_call (sa_cons se_var (sa_cons se_var sa_nil))))))))
    (ss_seq (ss_asg se_non sg_name)
    (ss_seq (ss_if (st_or (st_test (se_op2 s2_eq se_var se_int)) (st_and (st_tru se_var) (st_test (se_op2 s2_ge se_var se_int)))) (ss_asg (se_call (sa_cons se_var sa_nil)) sg_name) (ss_if (st_and (st_not (st_tru se_var)) (st_test (se_op2 s2_eq (se_call (sa_cons se_var (sa_cons se_int sa_nil))) se_int))) (ss_asg (se_call (sa_cons se_var sa_nil)) sg_name) ss_next))
    (ss_append se_var))))))))))
    (ss_give (i := 8) (ss_give (i := 5) (ss_give (i := 6) (ss_ret (se_new (sen_lst (sa_cons se_var (sa_cons se_var (sa_cons (se_call (sa_cons se_var (sa_cons se_var sa_nil))) (sa_cons se_var sa_nil)))))))))))))))⟩
theorem ok_law_low (T : Txt c mg A) : FnR P w c.K mg base (L2.CX P w) 6 A.law_low (spD c (D_law_low)) :=
  fn_ss (N := Nn_law_low) (ps := ["_law_web_here", "_law_row", "_law_stand"]) (s := dn_law_low) T.F_law_low sc_law_low (T.F_law_low.binds (ps := ["_law_web_here", "_law_row", "_law_stand"]) fun _ _ _ _ _ _ us hl => match us, hl with | [_, _, _], _ => rfl) fun cdv A_ outer sh H E' hr => ⟨(tRet (tCB (rMin c.K) (tCons (tLc (iList c.K (tOp (rIx c.K) (tOp (rIx c.K) (tVar 0) (tC (V.int 0))) (tVar 2))) (gName 3) tYes (tOp (rIx c.K) (tVar 1) (tVar 3)) [3]) tNil))),
    (pss_one (ps_ret (pe_callB (cr_min rfl) (by rfl) T.n_min (by decide +kernel) (pa_cons (pe_lc (own := [("_law_step", 3)]) (g := gName 3) (wi := (iList c.K (tOp (rIx c.K) (tOp (rIx c.K) (tVar 0) (tC (V.int 0))) (tVar 2)))) (tt := tYes) (te := (tOp (rIx c.K) (tVar 1) (tVar 3))) rfl sc_law_low.nd (pi_list (pe_ix ix_seq (pe_ix ix_seq (pv 0) pe_int (fun _ _ => rfl)) (pv 2) (fun _ _ => rfl))) (blkOk_by (N := Nn_law_low) (sc := defScope s_law_low) (by decide +kernel)) (fun _ _ _ _ _ => pg_name (i := 3) sc_law_low.nd rfl (by first | exact Or.inl rfl | exact Or.inr rfl)) (fun _ _ _ _ _ => pts_nil) (fun _ _ _ _ _ => (pe_ix ix_seq (pv 1) (pv 3) (fun _ _ => rfl)))) pa_nil)))),
    (ss_ret (se_cb sn_minL (sa_cons (se_new (sen_comp (si_list (se_op2 s2_ix (se_op2 s2_ix se_var se_int) se_var)) st_true (se_op2 s2_ix se_var se_var))) sa_nil)))⟩
theorem ok_law_high (T : Txt c mg A) : FnR P w c.K mg base (L2.CX P w) 6 A.law_high (spD c (D_law_high)) :=
  fn_ss (N := Nn_law_high) (ps := ["_law_web_here", "_law_row", "_law_stand"]) (s := dn_law_high) T.F_law_high sc_law_high (T.F_law_high.binds (ps := ["_law_web_here", "_law_row", "_law_stand"]) fun _ _ _ _ _ _ us hl => match us, hl with | [_, _, _], _ => rfl) fun cdv A_ outer sh H E' hr => ⟨(tRet (tCB (rMax c.K) (tCons (tLc (iList c.K (tOp (rIx c.K) (tOp (rIx c.K) (tVar 0) (tC (V.int 1))) (tVar 2))) (gName 3) tYes (tOp (rIx c.K) (tVar 1) (tVar 3)) [3]) tNil))),
    (pss_one (ps_ret (pe_callB (cr_max rfl) (by rfl) T.n_max (by decide +kernel) (pa_cons (pe_lc (own := [("_law_step", 3)]) (g := gName 3) (wi := (iList c.K (tOp (rIx c.K) (tOp (rIx c.K) (tVar 0) (tC (V.int 1))) (tVar 2)))) (tt := tYes) (te := (tOp (rIx c.K) (tVar 1) (tVar 3))) rfl sc_law_high.nd (pi_list (pe_ix ix_seq (pe_ix ix_seq (pv 0) pe_int (fun _ _ => rfl)) (pv 2) (fun _ _ => rfl))) (blkOk_by (N := Nn_law_high) (sc := defScope s_law_high) (by decide +kernel)) (fun _ _ _ _ _ => pg_name (i := 3) sc_law_high.nd rfl (by first | exact Or.inl rfl | exact Or.inr rfl)) (fun _ _ _ _ _ => pts_nil) (fun _ _ _ _ _ => (pe_ix ix_seq (pv 1) (pv 3) (fun _ _ => rfl)))) pa_nil)))),
    (ss_ret (se_cb sn_maxL (sa_cons (se_new (sen_comp (si_list (se_op2 s2_ix (se_op2 s2_ix se_var se_int) se_var)) st_true (se_op2 s2_ix se_var se_var))) sa_nil)))⟩
theorem ok_law_made (T : Txt c mg A) : FnR P w c.K mg base (L2.CX P w) 8 A.law_made (spD c (D_law_built_k09 A.ca)) :=
  fn_ss (N := Nn_law_made) (ps := ["_law_web_here"]) (s := dn_law_built_k09 A.ca) T.F_law_made sc_law_made (T.F_law_made.binds (ps := ["_law_web_here"]) fun _ _ _ _ _ _ us hl => match us, hl with | [_], _ => rfl) fun cdv A_ outer sh H E' hr => ⟨(tRet (StX.tMakeR A.ca.Web (spI c A.ca.Web (D_Web_init_k09 A.ca)) E' (tCons (tLc (iList c.K (tOp (rIx c.K) (tVar 0) (tC (V.int 0)))) (gName 1) tYes (tCB (rListF c.K) (tCons (tVar 1) tNil)) [1]) (tCons (tLc (iList c.K (tOp (rIx c.K) (tVar 0) (tC (V.int 1)))) (gName 1) tYes (tCB (rListF c.K) (tCons (tVar 1) tNil)) [1]) (tCons (tCB (rListF c.K) (tCons (tOp (rIx c.K) (tVar 0) (tC (V.int 2))) tNil)) (tCons (tCB (rListF c.K) (tCons (tOp (rIx c.K) (tVar 0) (tC (V.int 3))) tNil)) tNil)))))),
    (pss_one (ps_ret (StX.pe_makeR T.mk_Web (ok_Web_init T) (hr.mono (by decide)) (by rfl) T.m_Web (fun pins σ H s e s' I h => passE (takes_of rfl rfl rfl rfl) σ pins H s e s' I h) (pa_cons (pe_lc (own := [("_law_lot_here", 1)]) (g := gName 1) (wi := (iList c.K (tOp (rIx c.K) (tVar 0) (tC (V.int 0))))) (tt := tYes) (te := (tCB (rListF c.K) (tCons (tVar 1) tNil))) rfl sc_law_made.nd (pi_list (pe_ix ix_seq (pv 0) pe_int (fun _ _ => rfl))) (blkOk_by (N := Nn_law_made) (sc := defScope s_law_made) (by decide +kernel)) (fun _ _ _ _ _ => pg_name (i := 1) sc_law_made.nd rfl (by first | exact Or.inl rfl | exact Or.inr rfl)) (fun _ _ _ _ _ => pts_nil) (fun _ _ _ _ _ => (pe_callTy call_list_of (by rfl) T.n_list (by decide +kernel) (pa_cons (pv 1) pa_nil)))) (pa_cons (pe_lc (own := [("_law_lot_here", 1)]) (g := gName 1) (wi := (iList c.K (tOp (rIx c.K) (tVar 0) (tC (V.int 1))))) (tt := tYes) (te := (tCB (rListF c.K) (tCons (tVar 1) tNil))) rfl sc_law_made.nd (pi_list (pe_ix ix_seq (pv 0) pe_int (fun _ _ => rfl))) (blkOk_by (N := Nn_law_made) (sc := defScope s_law_made) (by decide +kernel)) (fun _ _ _ _ _ => pg_name (i := 1) sc_law_made.nd rfl (by first | exact Or.inl rfl | exact Or.inr rfl)) (fun _ _ _ _ _ => pts_nil) (fun _ _ _ _ _ => (pe_callTy call_list_of (by rfl) T.n_list (by decide +kernel) (pa_cons (pv 1) pa_nil)))) (pa_cons (pe_callTy call_list_of (by rfl) T.n_list (by decide +kernel) (pa_cons (pe_ix ix_seq (pv 0) pe_int (fun _ _ => rfl)) pa_nil)) (pa_cons (pe_callTy call_list_of (by rfl) T.n_list (by decide +kernel) (pa_cons (pe_ix ix_seq (pv 0) pe_int (fun _ _ => rfl)) pa_nil)) pa_nil))))))),
    (ss_ret (se_make (sa_cons (se_new (sen_comp (si_list (se_op2 s2_ix se_var se_int)) st_true (se_new (sen_list (sa_cons se_var sa_nil))))) (sa_cons (se_new (sen_comp (si_list (se_op2 s2_ix se_var se_int)) st_true (se_new (sen_list (sa_cons se_var sa_nil))))) (sa_cons (se_new (sen_list (sa_cons (se_op2 s2_ix se_var se_int) sa_nil))) (sa_cons (se_new (sen_list (sa_cons (se_op2 s2_ix se_var se_int) sa_nil))) sa_nil))))))⟩
theorem ok_law_bank_cost (T : Txt c mg A) : FnR P w c.K mg base (L2.CX P w) 7 A.law_bank_cost (spD c (D_law_bank_cost)) :=
  fn_ss (N := Nn_law_bank_cost) (ps := ["_law_web_here", "_law_rows", "_law_row", "_law_b", "_law_stand", "_law_most"]) (s := dn_law_bank_cost) T.F_law_bank_cost sc_law_bank_cost (T.F_law_bank_cost.binds (ps := ["_law_web_here", "_law_rows", "_law_row", "_law_b", "_law_stand", "_law_most"]) fun _ _ _ _ _ _ us hl => match us, hl with | [_, _, _, _, _, _], _ => rfl) fun cdv A_ outer sh H E' hr => ⟨(tSeq (tAsg (tCallS (spD c D_law_low) (fun _ => E') (tCons (tVar 0) (tCons (tVar 2) (tCons (tVar 4) tNil)))) (gName 6))
    (tSeq (tAsg (tVar 5) (gName 7))
    (tSeq (tFor (iRng1 (tCons (tOp (rI0 fun i j => V.int (i + j)) (tVar 3) (tC (V.int 2))) tNil)) (gName 8) (tSeq (tAsg (tOp (rI0 fun i j => V.int (i - j)) (tOp (rI0 fun i j => V.int (i - j)) (tVar 3) (tVar 8)) (tC (V.int 1))) (gName 9))
    (tSeq (tIfS (tTest (tOp rEq (tOp (rIx c.K) (tOp (rIx c.K) (tVar 0) (tC (V.int 2))) (tVar 4)) (tC (V.int 2)))) (tAsg (tOp (rI0 fun i j => V.int (i - j)) (tVar 3) (tVar 8)) (gName 9)) tNext)
    (tSeq (tAsg (tC (V.int 0)) (gName 10))
    (tSeq (tIfS (tAnd (tTest (tOp (rI0 fun i j => V.bl (decide (j ≤ i))) (tVar 9) (tC (V.int 0)))) (tTest (tOp rEq (tVar 9) (tVar 3)))) (tAsg (tCallS (spD c D_law_high) (fun _ => E') (tCons (tVar 0) (tCons (tVar 2) (tCons (tVar 4) tNil)))) (gName 10)) (tIfS (tTest (tOp (rI0 fun i j => V.bl (decide (j ≤ i))) (tVar 9) (tC (V.int 0)))) (tAsg (tCallS (spD c D_law_high) (fun _ => E') (tCons (tVar 0) (tCons (tOp (rIx c.K) (tVar 1) (tVar 9)) (tCons (tVar 4) tNil)))) (gName 10)) tNext))
    (tSeq (tAsg (tCB rMax2F (tCons (tOp (rI0 fun i j => V.int (i + j)) (tVar 8) (tVar 6)) (tCons (tVar 10) tNil))) (gName 11))
    (tSeq (tIfS (tAnd (tTest (tOp rEq (tOp (rIx c.K) (tOp (rIx c.K) (tVar 0) (tC (V.int 2))) (tVar 4)) (tC (V.int 2)))) (tTest (tOp rEq (tVar 8) (tC (V.int 0))))) (tAsg (tVar 10) (gName 11)) tNext)
    (tAsg (tCB rMin2F (tCons (tVar 7) (tCons (tVar 11) tNil))) (gName 7)))))))))
    (tRet (tVar 7))))),
    (pss_cons (ps_asg (pe_callRS (ok_law_low T) (hr.mono (by decide)) (by rfl) T.m_law_low T.F_law_low.kp (passE (takes_of rfl rfl rfl rfl)) (pa_cons (pv 0) (pa_cons (pv 2) (pa_cons (pv 4) pa_nil)))) (pg_name (i := 6) sc_law_bank_cost.nd rfl (by first | exact Or.inl rfl | exact Or.inr rfl)))
    (pss_cons (ps_asg (pv 5) (pg_name (i := 7) sc_law_bank_cost.nd rfl (by first | exact Or.inl rfl | exact Or.inr rfl)))
    (pss_cons (ps_for (passes_of rfl) rfl (pi_range1 (by rfl) T.n_range (pa_cons (pe_op op_add (pv 3) pe_int) pa_nil)) (pg_name (i := 8) sc_law_bank_cost.nd rfl (by first | exact Or.inl rfl | exact Or.inr rfl)) (pss_cons (ps_asg (pe_op op_sub (pe_op op_sub (pv 3) (pv 8)) pe_int) (pg_name (i := 9) sc_law_bank_cost.nd rfl (by first | exact Or.inl rfl | exact Or.inr rfl)))
    (pss_cons (ps_if (pt_cmpR op_eq (pe_ix ix_seq (pe_ix ix_seq (pv 0) pe_int (fun _ _ => rfl)) (pv 4) (fun _ _ => rfl)) pe_int (nomark _)) (pss_one (ps_asg (pe_op op_sub (pv 3) (pv 8)) (pg_name (i := 9) sc_law_bank_cost.nd rfl (by first | exact Or.inl rfl | exact Or.inr rfl)))) pss_nil)
    (pss_cons (ps_asg pe_int (pg_name (i := 10) sc_law_bank_cost.nd rfl (by first | exact Or.inl rfl | exact Or.inr rfl)))
    (pss_cons (ps_if (PW.pt (pw_and (pt_cmpR op_ge (pv 9) pe_int (nomark _)) (pw_and1 (pt_cmpR op_eq (pv 9) (pv 3) (nomark _))))) (pss_one (ps_asg (pe_callRS (ok_law_high T) (hr.mono (by decide)) (by rfl) T.m_law_high T.F_law_high.kp (passE (takes_of rfl rfl rfl rfl)) (pa_cons (pv 0) (pa_cons (pv 2) (pa_cons (pv 4) pa_nil)))) (pg_name (i := 10) sc_law_bank_cost.nd rfl (by first | exact Or.inl rfl | exact Or.inr rfl)))) (pss_one (ps_if (pt_cmpR op_ge (pv 9) pe_int (nomark _)) (pss_one (ps_asg (pe_callRS (ok_law_high T) (hr.mono (by decide)) (by rfl) T.m_law_high T.F_law_high.kp (passE (takes_of rfl rfl rfl rfl)) (pa_cons (pv 0) (pa_cons (pe_ix ix_seq (pv 1) (pv 9) (fun _ _ => rfl)) (pa_cons (pv 4) pa_nil)))) (pg_name (i := 10) sc_law_bank_cost.nd rfl (by first | exact Or.inl rfl | exact Or.inr rfl)))) pss_nil)))
    (pss_cons (ps_asg (pe_callB (call_max2 rfl) (by rfl) T.n_max (by decide +kernel) (pa_cons (pe_op op_add (pv 8) (pv 6)) (pa_cons (pv 10) pa_nil))) (pg_name (i := 11) sc_law_bank_cost.nd rfl (by first | exact Or.inl rfl | exact Or.inr rfl)))
    (pss_cons (ps_if (PW.pt (pw_and (pt_cmpR op_eq (pe_ix ix_seq (pe_ix ix_seq (pv 0) pe_int (fun _ _ => rfl)) (pv 4) (fun _ _ => rfl)) pe_int (nomark _)) (pw_and1 (pt_cmpR op_eq (pv 8) pe_int (nomark _))))) (pss_one (ps_asg (pv 10) (pg_name (i := 11) sc_law_bank_cost.nd rfl (by first | exact Or.inl rfl | exact Or.inr rfl)))) pss_nil)
    (pss_one (ps_asg (pe_callB (call_min2 rfl) (by rfl) T.n_min (by decide +kernel) (pa_cons (pv 7) (pa_cons (pv 11) pa_nil))) (pg_name (i := 7) sc_law_bank_cost.nd rfl (by first | exact Or.inl rfl | exact Or.inr rfl)))))))))))
    (pss_one (ps_ret (pv 7)))))),
    (ss_seq (ss_asg (se_call (sa_cons se_var (sa_cons se_var (sa_cons se_var sa_nil)))) sg_name)
    (ss_seq (ss_asg se_var sg_name)
    (ss_seq (ss_for (si_rng1 (sa_cons (se_op2 s2_add se_var se_int) sa_nil)) sg_name (ss_seq (ss_asg (se_op2 s2_sub (se_op2 s2_sub se_var se_var) se_int) sg_name)
    (ss_seq (ss_if (st_test (se_op2 s2_eq (se_op2 s2_ix (se_op2 s2_ix se_var se_int) se_var) se_int)) (ss_asg (se_op2 s2_sub se_var se_var) sg_name) ss_next)
    (ss_seq (ss_asg se_int sg_name)
    (ss_seq (ss_if (st_and (st_test (se_op2 s2_ge se_var se_int)) (st_test (se_op2 s2_eq se_var se_var))) (ss_asg (se_call (sa_cons se_var (sa_cons se_var (sa_cons se_var sa_nil)))) sg_name) (ss_if (st_test (se_op2 s2_ge se_var se_int)) (ss_asg (se_call (sa_cons se_var (sa_cons (se_op2 s2_ix se_var se_var) (sa_cons se_var sa_nil)))) sg_name) ss_next))
    (ss_seq (ss_asg (se_cb sn_max2 (sa_cons (se_op2 s2_add se_var se_var) (sa_cons se_var sa_nil))) sg_name)
    (ss_seq (ss_if (st_and (st_test (se_op2 s2_eq (se_op2 s2_ix (se_op2 s2_ix se_var se_int) se_var) se_int)) (st_test (se_op2 s2_eq se_var se_int))) (ss_asg se_var sg_name) ss_next)
    (ss_asg (se_cb sn_min2 (sa_cons se_var (sa_cons se_var sa_nil))) sg_name))))))))
    (ss_ret se_var))))⟩
theorem ok_law_bank_rows (T : Txt c mg A) : FnR P w c.K mg base (L2.CX P w) 8 A.law_bank_rows (spD c (D_law_bank_rows)) :=
  fn_ss (N := Nn_law_bank_rows) (ps := ["_law_web_here", "_law_most_b"]) (s := dn_law_bank_rows) T.F_law_bank_rows sc_law_bank_rows (T.F_law_bank_rows.binds (ps := ["_law_web_here", "_law_most_b"]) fun _ _ _ _ _ _ us hl => match us, hl with | [_, _], _ => rfl) fun cdv A_ outer sh H E' hr => ⟨(tSeq (tAsg (tOp (rI CPow fun i j => V.int (i ^ j.toNat)) (tC (V.int 10)) (tC (V.int 6))) (gName 2))
    (tSeq (tAsg (tLst tNil) (gName 3))
    (tSeq (tFor (iList c.K (tOp (rIx c.K) (tVar 0) (tC (V.int 3)))) (gName 4) (tIfS (tAnd (tTest (tOp rNotNF (tVar 4) (tC V.non))) (tTest (tOp rEq (tOp (rIx c.K) (tVar 4) (tC (V.int 0))) (tC (V.str "chips"))))) (tDrop (tBM c.K "list" rAppend (tVar 3) (tCons (tOp (rIx c.K) (tVar 4) (tC (V.int 1))) tNil))) (tDrop (tBM c.K "list" rAppend (tVar 3) (tCons (tVar 2) tNil)))))
    (tSeq (tAsg (tLst tNil) (gName 5))
    (tSeq (tFor (iRng1 (tCons (tOp (rI0 fun i j => V.int (i + j)) (tVar 1) (tC (V.int 1))) tNil)) (gName 6) (tSeq (tAsg (tCB (rListF c.K) (tCons (tVar 3) tNil)) (gName 7))
    (tSeq (tFor (iRng1 (tCons (tOp (rI CMul fun i j => V.int (i * j)) (tCB (rLenS c.K) (tCons (tVar 7) tNil)) (tOp (rI0 fun i j => V.int (i + j)) (tOp (rI CMul fun i j => V.int (i * j)) (tCB (rLenS c.K) (tCons (tVar 7) tNil)) (tOp (rI0 fun i j => V.int (i + j)) (tVar 6) (tC (V.int 2)))) (tC (V.int 8)))) tNil)) (gName 8) (tSeq (tAsg (tCB (rListF c.K) (tCons (tVar 3) tNil)) (gName 9))
    (tSeq (tFor (iRng1 (tCons (tCB (rLenS c.K) (tCons (tVar 7) tNil)) tNil)) (gName 10) (tIfS (tTest (tOp (rI0 fun i j => V.bl (decide (j < i))) (tCB (rLenS c.K) (tCons (tOp (rIx c.K) (tOp (rIx c.K) (tVar 0) (tC (V.int 0))) (tVar 10)) tNil)) (tC (V.int 0)))) (tAsg (tCB rMin2F (tCons (tOp (rIx c.K) (tVar 3) (tVar 10)) (tCons (tCallS (spD c D_law_bank_cost) (fun _ => E') (tCons (tVar 0) (tCons (tVar 5) (tCons (tVar 7) (tCons (tVar 6) (tCons (tVar 10) (tCons (tVar 2) tNil))))))) tNil))) (gSub (tVar 9) (tVar 10) rSetL)) tNext))
    (tSeq (tIfS (tTest (tOp (rEqD c.K) (tVar 9) (tVar 7))) tBreak tNext)
    (tAsg (tVar 9) (gName 7))))))
    (tDrop (tBM c.K "list" rAppend (tVar 5) (tCons (tVar 7) tNil))))))
    (tRet (tVar 5))))))),
    (pss_cons (ps_asg (pe_op op_pow pe_int pe_int) (pg_name (i := 2) sc_law_bank_rows.nd rfl (by first | exact Or.inl rfl | exact Or.inr rfl)))
    (pss_cons (ps_asg (pe_lst pa_nil) (pg_name (i := 3) sc_law_bank_rows.nd rfl (by first | exact Or.inl rfl | exact Or.inr rfl)))
    (pss_cons (ps_for (passes_of rfl) rfl (pi_list (pe_ix ix_seq (pv 0) pe_int (fun _ _ => rfl))) (pg_name (i := 4) sc_law_bank_rows.nd rfl (by first | exact Or.inl rfl | exact Or.inr rfl)) (pss_one (ps_if (PW.pt (pw_and (pt_cmpR op_notN (pv 4) pe_non (nomark _)) (pw_and1 (pt_cmpR op_eq (pe_ix ix_seq (pv 4) pe_int (fun _ _ => rfl)) pe_str (nomark _))))) (pss_one (ps_expr (pe_bm PySem.F.plainAttrs_list PySem.F.slot_list_append PySem.F.type_list_append mt_append (pv 3) (pa_cons (pe_ix ix_seq (pv 4) pe_int (fun _ _ => rfl)) pa_nil)))) (pss_one (ps_expr (pe_bm PySem.F.plainAttrs_list PySem.F.slot_list_append PySem.F.type_list_append mt_append (pv 3) (pa_cons (pv 2) pa_nil)))))))
    (pss_cons (ps_asg (pe_lst pa_nil) (pg_name (i := 5) sc_law_bank_rows.nd rfl (by first | exact Or.inl rfl | exact Or.inr rfl)))
    (pss_cons (ps_for (passes_of rfl) rfl (pi_range1 (by rfl) T.n_range (pa_cons (pe_op op_add (pv 1) pe_int) pa_nil)) (pg_name (i := 6) sc_law_bank_rows.nd rfl (by first | exact Or.inl rfl | exact Or.inr rfl)) (pss_cons (ps_asg (pe_callTy call_list_of (by rfl) T.n_list (by decide +kernel) (pa_cons (pv 3) pa_nil)) (pg_name (i := 7) sc_law_bank_rows.nd rfl (by first | exact Or.inl rfl | exact Or.inr rfl)))
    (pss_cons (ps_for (passes_of rfl) rfl (pi_range1 (by rfl) T.n_range (pa_cons (pe_op op_mul (pe_callB call_len_seq (by rfl) T.n_len (by decide +kernel) (pa_cons (pv 7) pa_nil)) (pe_op op_add (pe_op op_mul (pe_callB call_len_seq (by rfl) T.n_len (by decide +kernel) (pa_cons (pv 7) pa_nil)) (pe_op op_add (pv 6) pe_int)) pe_int)) pa_nil)) (pg_name (i := 8) sc_law_bank_rows.nd rfl (by first | exact Or.inl rfl | exact Or.inr rfl)) (pss_cons (ps_asg (pe_callTy call_list_of (by rfl) T.n_list (by decide +kernel) (pa_cons (pv 3) pa_nil)) (pg_name (i := 9) sc_law_bank_rows.nd rfl (by first | exact Or.inl rfl | exact Or.inr rfl)))
    (pss_cons (ps_for (passes_of rfl) rfl (pi_range1 (by rfl) T.n_range (pa_cons (pe_callB call_len_seq (by rfl) T.n_len (by decide +kernel) (pa_cons (pv 7) pa_nil)) pa_nil)) (pg_name (i := 10) sc_law_bank_rows.nd rfl (by first | exact Or.inl rfl | exact Or.inr rfl)) (pss_one (ps_if (pt_cmpR op_gt (pe_callB call_len_seq (by rfl) T.n_len (by decide +kernel) (pa_cons (pe_ix ix_seq (pe_ix ix_seq (pv 0) pe_int (fun _ _ => rfl)) (pv 10) (fun _ _ => rfl)) pa_nil)) pe_int (nomark _)) (pss_one (ps_asg (pe_callB (call_min2 rfl) (by rfl) T.n_min (by decide +kernel) (pa_cons (pe_ix ix_seq (pv 3) (pv 10) (fun _ _ => rfl)) (pa_cons (pe_callRS (ok_law_bank_cost T) (hr.mono (by decide)) (by rfl) T.m_law_bank_cost T.F_law_bank_cost.kp (passE (takes_of rfl rfl rfl rfl)) (pa_cons (pv 0) (pa_cons (pv 5) (pa_cons (pv 7) (pa_cons (pv 6) (pa_cons (pv 10) (pa_cons (pv 2) pa_nil))))))) pa_nil))) (pg_sub (pv 9) (pv 10) set_list))) pss_nil)))
    (pss_cons (ps_if (pt_cmpR (op_eqD (hr.units)) (pv 9) (pv 7) (nomark _)) (pss_one ps_break) pss_nil)
    (pss_one (ps_asg (pv 9) (pg_name (i := 7) sc_law_bank_rows.nd rfl (by first | exact Or.inl rfl | exact Or.inr rfl))))))))
    (pss_one (ps_expr (pe_bm PySem.F.plainAttrs_list PySem.F.slot_list_append PySem.F.type_list_append mt_append (pv 5) (pa_cons (pv 7) pa_nil)))))))
    (pss_one (ps_ret (pv 5)))))))),
    (ss_seq (ss_asg (se_op2 s2_pow se_int se_int) sg_name)
    (ss_seq (ss_own (sen_lst sa_nil))
    (ss_seq (ss_for (si_list (se_op2 s2_ix se_var se_int)) sg_name (ss_if (st_and (st_test (se_op2 s2_notN se_var se_non)) (st_test (se_op2 s2_eq (se_op2 s2_ix se_var se_int) se_str))) (ss_append (se_op2 s2_ix se_var se_int)) (ss_append se_var)))
    (ss_seq (ss_own (sen_lst sa_nil))
    (ss_seq (ss_for (si_rng1 (sa_cons (se_op2 s2_add se_var se_int) sa_nil)) sg_name (ss_seq (ss_give (i := 3) (ss_asg (se_new (sen_list (sa_cons se_var sa_nil))) sg_name))
    (ss_seq (ss_for (si_rng1 (sa_cons (se_op2 s2_mul (se_cb sn_len (sa_cons se_var sa_nil)) (se_op2 s2_add (se_op2 s2_mul (se_cb sn_len (sa_cons se_var sa_nil)) (se_op2 s2_add se_var se_int)) se_int)) sa_nil)) sg_name (ss_seq (ss_own (sen_list (sa_cons se_var sa_nil)))
    (ss_seq (ss_for (si_rng1 (sa_cons (se_cb sn_len (sa_cons se_var sa_nil)) sa_nil)) sg_name (ss_if (st_test (se_op2 s2_gt (se_cb sn_len (sa_cons (se_op2 s2_ix (se_op2 s2_ix se_var se_int) se_var) sa_nil)) se_int)) (ss_put (se_lend (i := 5) (se_cb sn_min2 (sa_cons (se_op2 s2_ix se_var se_var) (sa_cons (se_call (sa_cons se_var (sa_cons se_var (sa_cons se_var (sa_cons se_var (sa_cons se_var (sa_cons se_var sa_nil))))))) sa_nil)))) (se_lend (i := 5) se_var)) ss_next))
    (ss_seq (ss_if (st_lend (i := 9) (st_test (se_op2 s2_eqD se_var se_var))) ss_break ss_next)
    (ss_give (i := 9) (ss_asg se_var sg_name))))))
    (ss_append se_var))))
    (ss_give (i := 5) (ss_ret se_var)))))))⟩
theorem ok_law_bare (T : Txt c mg A) : FnR P w c.K mg base (L2.CX P w) 6 A.law_bare (spD c (D_law_bare)) :=
  fn_ss (N := Nn_law_bare) (ps := ["_law_web_here"]) (s := dn_law_bare) T.F_law_bare sc_law_bare (T.F_law_bare.binds (ps := ["_law_web_here"]) fun _ _ _ _ _ _ us hl => match us, hl with | [_], _ => rfl) fun cdv A_ outer sh H E' hr => ⟨(tSeq (tAsg (tLst tNil) (gName 1))
    (tSeq (tFor (iList c.K (tOp (rIx c.K) (tVar 0) (tC (V.int 3)))) (gName 2) (tIfS (tAnd (tTest (tOp rNotNF (tVar 2) (tC V.non))) (tTest (tOp rEq (tOp (rIx c.K) (tVar 2) (tC (V.int 0))) (tC (V.str "less"))))) (tDrop (tBM c.K "list" rAppend (tVar 1) (tCons (tC V.non) tNil))) (tDrop (tBM c.K "list" rAppend (tVar 1) (tCons (tVar 2) tNil)))))
    (tRet (tLst (tCons (tOp (rIx c.K) (tVar 0) (tC (V.int 0))) (tCons (tOp (rIx c.K) (tVar 0) (tC (V.int 1))) (tCons (tOp (rIx c.K) (tVar 0) (tC (V.int 2))) (tCons (tVar 1) tNil)))))))),
    (pss_cons (ps_asg (pe_lst pa_nil) (pg_name (i := 1) sc_law_bare.nd rfl (by first | exact Or.inl rfl | exact Or.inr rfl)))
    (pss_cons (ps_for (passes_of rfl) rfl (pi_list (pe_ix ix_seq (pv 0) pe_int (fun _ _ => rfl))) (pg_name (i := 2) sc_law_bare.nd rfl (by first | exact Or.inl rfl | exact Or.inr rfl)) (pss_one (ps_if (PW.pt (pw_and (pt_cmpR op_notN (pv 2) pe_non (nomark _)) (pw_and1 (pt_cmpR op_eq (pe_ix ix_seq (pv 2) pe_int (fun _ _ => rfl)) pe_str (nomark _))))) (pss_one (ps_expr (pe_bm PySem.F.plainAttrs_list PySem.F.slot_list_append PySem.F.type_list_append mt_append (pv 1) (pa_cons pe_non pa_nil)))) (pss_one (ps_expr (pe_bm PySem.F.plainAttrs_list PySem.F.slot_list_append PySem.F.type_list_append mt_append (pv 1) (pa_cons (pv 2) pa_nil)))))))
    (pss_one (ps_ret (pe_lst (pa_cons (pe_ix ix_seq (pv 0) pe_int (fun _ _ => rfl)) (pa_cons (pe_ix ix_seq (pv 0) pe_int (fun _ _ => rfl)) (pa_cons (pe_ix ix_seq (pv 0) pe_int (fun _ _ => rfl)) (pa_cons (pv 1) pa_nil))))))))),
    (ss_seq (ss_own (sen_lst sa_nil))
    (ss_seq (ss_for (si_list (se_op2 s2_ix se_var se_int)) sg_name (ss_if (st_and (st_test (se_op2 s2_notN se_var se_non)) (st_test (se_op2 s2_eq (se_op2 s2_ix se_var se_int) se_str))) (ss_append se_non) (ss_append se_var)))
    (ss_give (i := 1) (ss_ret (se_new (sen_lst (sa_cons (se_op2 s2_ix se_var se_int) (sa_cons (se_op2 s2_ix se_var se_int) (sa_cons (se_op2 s2_ix se_var se_int) (sa_cons se_var sa_nil))))))))))⟩
theorem ok_law_kept (T : Txt c mg A) : FnR P w c.K mg base (L2.CX P w) 6 A.law_kept (spD c (D_law_kept_k63)) :=
  fn_ss (N := Nn_law_kept) (ps := ["_law_web_here"]) (s := dn_law_kept_k63) T.F_law_kept sc_law_kept (T.F_law_kept.binds (ps := ["_law_web_here"]) fun _ _ _ _ _ _ us hl => match us, hl with | [_], _ => rfl) fun cdv A_ outer sh H E' hr => ⟨(tSeq (tAsg (tLc (iRng1 (tCons (tCB (rLenS c.K) (tCons (tOp (rIx c.K) (tVar 0) (tC (V.int 3))) tNil)) tNil)) (gName 2) (tTest (tOp rIsNF (tOp (rIx c.K) (tOp (rIx c.K) (tVar 0) (tC (V.int 3))) (tVar 2)) (tC V.non))) (tVar 2) [2]) (gName 1))
    (tSeq (tFor (iRng1 (tCons (tCB (rLenS c.K) (tCons (tOp (rIx c.K) (tVar 0) (tC (V.int 3))) tNil)) tNil)) (gName 3) (tSeq (tAsg (tLst tNil) (gName 4))
    (tSeq (tFor (iList c.K (tCB (rListF c.K) (tCons (tVar 1) tNil))) (gName 2) (tSeq (tAsg (tLc (iList c.K (tOp (rIx c.K) (tOp (rIx c.K) (tVar 0) (tC (V.int 0))) (tVar 2))) (gName 6) (tTest (tOp (rIn c.K true) (tVar 6) (tVar 1))) (tVar 6) [6]) (gName 5))
    (tSeq (tAsg (tLc (iList c.K (tOp (rIx c.K) (tOp (rIx c.K) (tVar 0) (tC (V.int 1))) (tVar 2))) (gName 6) (tTest (tOp (rIn c.K false) (tVar 6) (tVar 1))) (tVar 6) [6]) (gName 7))
    (tIfS (tAnd (tTest (tOp rEq (tCB (rLenS c.K) (tCons (tVar 5) tNil)) (tC (V.int 0)))) (tOr (tTest (tOp rEq (tOp (rIx c.K) (tOp (rIx c.K) (tVar 0) (tC (V.int 2))) (tVar 2)) (tC (V.int 1)))) (tOr (tTest (tOp rEq (tCB (rLenS c.K) (tCons (tOp (rIx c.K) (tOp (rIx c.K) (tVar 0) (tC (V.int 0))) (tVar 2)) tNil)) (tC (V.int 0)))) (tTest (tOp (rI0 fun i j => V.bl (decide (j < i))) (tCB (rLenS c.K) (tCons (tVar 7) tNil)) (tC (V.int 0))))))) (tDrop (tBM c.K "list" rAppend (tVar 4) (tCons (tVar 2) tNil))) tNext))))
    (tAsg (tVar 4) (gName 1)))))
    (tRet (tVar 1)))),
    (pss_cons (ps_asg (pe_lc (own := [("_law_stand", 2)]) (g := gName 2) (wi := (iRng1 (tCons (tCB (rLenS c.K) (tCons (tOp (rIx c.K) (tVar 0) (tC (V.int 3))) tNil)) tNil))) (tt := (tTest (tOp rIsNF (tOp (rIx c.K) (tOp (rIx c.K) (tVar 0) (tC (V.int 3))) (tVar 2)) (tC V.non)))) (te := (tVar 2)) rfl sc_law_kept.nd (pi_range1 (by rfl) T.n_range (pa_cons (pe_callB call_len_seq (by rfl) T.n_len (by decide +kernel) (pa_cons (pe_ix ix_seq (pv 0) pe_int (fun _ _ => rfl)) pa_nil)) pa_nil)) (blkOk_by (N := Nn_law_kept) (sc := defScope s_law_kept) (by decide +kernel)) (fun _ _ _ _ _ => pg_name (i := 2) sc_law_kept.nd rfl (by first | exact Or.inl rfl | exact Or.inr rfl)) (fun _ _ _ _ _ => (pts_one (pt_cmpR op_isN (pe_ix ix_seq (pe_ix ix_seq (pv 0) pe_int (fun _ _ => rfl)) (pv 2) (fun _ _ => rfl)) pe_non (nomark _)))) (fun _ _ _ _ _ => (pv 2))) (pg_name (i := 1) sc_law_kept.nd rfl (by first | exact Or.inl rfl | exact Or.inr rfl)))
    (pss_cons (ps_for (passes_of rfl) rfl (pi_range1 (by rfl) T.n_range (pa_cons (pe_callB call_len_seq (by rfl) T.n_len (by decide +kernel) (pa_cons (pe_ix ix_seq (pv 0) pe_int (fun _ _ => rfl)) pa_nil)) pa_nil)) (pg_name (i := 3) sc_law_kept.nd rfl (by first | exact Or.inl rfl | exact Or.inr rfl)) (pss_cons (ps_asg (pe_lst pa_nil) (pg_name (i := 4) sc_law_kept.nd rfl (by first | exact Or.inl rfl | exact Or.inr rfl)))
    (pss_cons (ps_for (passes_of rfl) rfl (pi_list (pe_callTy call_list_of (by rfl) T.n_list (by decide +kernel) (pa_cons (pv 1) pa_nil))) (pg_name (i := 2) sc_law_kept.nd rfl (by first | exact Or.inl rfl | exact Or.inr rfl)) (pss_cons (ps_setLc (i := 5) (own := [("_law_step", 6)]) (g := gName 6) (wi := (iList c.K (tOp (rIx c.K) (tOp (rIx c.K) (tVar 0) (tC (V.int 0))) (tVar 2)))) (tt := (tTest (tOp (rIn c.K true) (tVar 6) (tVar 1)))) (te := (tVar 6)) rfl sc_law_kept.nd rfl rfl (sw_true rfl rfl rfl (by decide +kernel)) (pi_list (pe_ix ix_seq (pe_ix ix_seq (pv 0) pe_int (fun _ _ => rfl)) (pv 2) (fun _ _ => rfl))) (blkOk_by (N := Nn_law_kept) (sc := defScope s_law_kept) (by decide +kernel)) (fun _ _ _ _ _ => pg_name (i := 6) sc_law_kept.nd rfl (by first | exact Or.inl rfl | exact Or.inr rfl)) (fun _ _ _ _ _ => (pts_one (pt_cmpR op_notIn_seq (pv 6) (pv 1) rfl))) (fun _ _ _ _ _ => (pv 6)))
    (pss_cons (ps_setLc (i := 7) (own := [("_law_step", 6)]) (g := gName 6) (wi := (iList c.K (tOp (rIx c.K) (tOp (rIx c.K) (tVar 0) (tC (V.int 1))) (tVar 2)))) (tt := (tTest (tOp (rIn c.K false) (tVar 6) (tVar 1)))) (te := (tVar 6)) rfl sc_law_kept.nd rfl rfl (sw_true rfl rfl rfl (by decide +kernel)) (pi_list (pe_ix ix_seq (pe_ix ix_seq (pv 0) pe_int (fun _ _ => rfl)) (pv 2) (fun _ _ => rfl))) (blkOk_by (N := Nn_law_kept) (sc := defScope s_law_kept) (by decide +kernel)) (fun _ _ _ _ _ => pg_name (i := 6) sc_law_kept.nd rfl (by first | exact Or.inl rfl | exact Or.inr rfl)) (fun _ _ _ _ _ => (pts_one (pt_cmpR op_in_seq (pv 6) (pv 1) rfl))) (fun _ _ _ _ _ => (pv 6)))
    (pss_one (ps_if (PW.pt (pw_and (pt_cmpR op_eq (pe_callB call_len_seq (by rfl) T.n_len (by decide +kernel) (pa_cons (pv 5) pa_nil)) pe_int (nomark _)) (pw_and1 (PW.pt (pw_or (pt_cmpR op_eq (pe_ix ix_seq (pe_ix ix_seq (pv 0) pe_int (fun _ _ => rfl)) (pv 2) (fun _ _ => rfl)) pe_int (nomark _)) (pw_or (pt_cmpR op_eq (pe_callB call_len_seq (by rfl) T.n_len (by decide +kernel) (pa_cons (pe_ix ix_seq (pe_ix ix_seq (pv 0) pe_int (fun _ _ => rfl)) (pv 2) (fun _ _ => rfl)) pa_nil)) pe_int (nomark _)) (pw_or1 (pt_cmpR op_gt (pe_callB call_len_seq (by rfl) T.n_len (by decide +kernel) (pa_cons (pv 7) pa_nil)) pe_int (nomark _))))))))) (pss_one (ps_expr (pe_bm PySem.F.plainAttrs_list PySem.F.slot_list_append PySem.F.type_list_append mt_append (pv 4) (pa_cons (pv 2) pa_nil)))) pss_nil)))))
    (pss_one (ps_asg (pv 4) (pg_name (i := 1) sc_law_kept.nd rfl (by first | exact Or.inl rfl | exact Or.inr rfl)))))))
    (pss_one (ps_ret (pv 1))))),
    (ss_seq (ss_asg (se_new (sen_comp (si_rng1 (sa_cons (se_cb sn_len (sa_cons (se_op2 s2_ix se_var se_int) sa_nil)) sa_nil)) (st_test (se_op2 s2_isN (se_op2 s2_ix (se_op2 s2_ix se_var se_int) se_var) se_non)) se_var)) sg_name)
    (ss_seq (ss_for (si_rng1 (sa_cons (se_cb sn_len (sa_cons (se_op2 s2_ix se_var se_int) sa_nil)) sa_nil)) sg_name (ss_seq (ss_own (sen_lst sa_nil))
    (ss_seq (ss_for (si_list (se_new (sen_list (sa_cons se_var sa_nil)))) sg_name (ss_seq (ss_asg (se_new (sen_comp (si_list (se_op2 s2_ix (se_op2 s2_ix se_var se_int) se_var)) (st_test (se_op2 s2_in se_var se_var)) se_var)) sg_name)
    (ss_seq (ss_asg (se_new (sen_comp (si_list (se_op2 s2_ix (se_op2 s2_ix se_var se_int) se_var)) (st_test (se_op2 s2_in se_var se_var)) se_var)) sg_name)
    (ss_if (st_and (st_test (se_op2 s2_eq (se_cb sn_len (sa_cons se_var sa_nil)) se_int)) (st_or (st_test (se_op2 s2_eq (se_op2 s2_ix (se_op2 s2_ix se_var se_int) se_var) se_int)) (st_or (st_test (se_op2 s2_eq (se_cb sn_len (sa_cons (se_op2 s2_ix (se_op2 s2_ix se_var se_int) se_var) sa_nil)) se_int)) (st_test (se_op2 s2_gt (se_cb sn_len (sa_cons se_var sa_nil)) se_int))))) (ss_append se_var) ss_next))))
    (ss_give (i := 4) (ss_asg se_var sg_name)))))
    (ss_ret se_var)))⟩
theorem rest_law (T : Txt c mg A) (f : Addr) (cdv : Value) (A_ : Around) (outer : List Env) (sh : Shared) (H : Hp) (E' : XK) (hr : Room 8 (A_.deeper (PyProof.Rows.envOfC "law" (defScope s_law) sh.heap.objs.size f cdv))) :
    ∃ t, PSs (cxOf (L2.CX P w) P w c.K mg base Nn_law "law" (defScope s_law) f cdv A_ outer sh H E') ((defBody s_law).drop 1) t ∧ SS c (fun _ => E') t (dn_law_k63 A.ca) :=
  ⟨(tSeq (tAsg (tCallS (spD c D_law_web) (fun _ => E') (tCons (tVar 1) (tCons (tC (V.int 6)) (tCons (tOp rEq (tCallS (spD c D_law_draw) (fun _ => E') (tCons (tVar 1) (tCons (tC (V.int 2)) tNil))) (tC (V.int 0))) tNil)))) (gName 2))
    (tSeq (tAsg (tCB (rLenS c.K) (tCons (tOp (rIx c.K) (tVar 2) (tC (V.int 0))) tNil)) (gName 3))
    (tSeq (tAsg (tCallS (spD c D_law_bare) (fun _ => E') (tCons (tVar 2) tNil)) (gName 4))
    (tSeq (tAsg (tCallS (spD c D_law_kept_k63) (fun _ => E') (tCons (tVar 4) tNil)) (gName 5))
    (tSeq (tAsg (tCallS (spD c (D_kept_off A.ca)) (fun _ => E') (tCons (tCallS (spD c (D_law_built_k09 A.ca)) (fun _ => E') (tCons (tVar 4) tNil)) tNil)) (gName 6))
    (tSeq (tIfS (tOr (tNot (fun σ H Q => (tCB (rIsi c.K) (tCons (tVar 6) (tCons (tC (V.ty "tuple")) tNil))) σ H fun x H' => ∃ k, TruV c.K x H' k ∧ Q k H')) (tTest (tOp (rNeD c.K) (tCB (rListF c.K) (tCons (tVar 6) tNil)) (tVar 5)))) (tRet (tC (V.bl false))) tNext)
    (tSeq (tAsg (tCallS (spD c D_law_draw) (fun _ => E') (tCons (tVar 1) (tCons (tC (V.int 5)) tNil))) (gName 7))
    (tSeq (tAsg (tCB (rMax c.K) (tCons (tOp rCat (tLst (tCons (tC (V.int 0)) tNil)) (tLc (iList c.K (tOp (rIx c.K) (tVar 2) (tC (V.int 3)))) (gName 9) (tTest (tOp rNotNF (tVar 9) (tC V.non))) (tOp (rIx c.K) (tVar 9) (tC (V.int 1))) [9])) tNil)) (gName 8))
    (tSeq (tAsg (tCallS (spD c (D_bank_rows A.ca)) (fun _ => E') (tCons (tCallS (spD c (D_law_built_k09 A.ca)) (fun _ => E') (tCons (tVar 2) tNil)) (tCons (tVar 7) tNil))) (gName 10))
    (tSeq (tAsg (tCallS (spD c (D_bank_rows A.ca)) (fun _ => E') (tCons (tCallS (spD c (D_law_built_k09 A.ca)) (fun _ => E') (tCons (tVar 4) tNil)) (tCons (tVar 7) tNil))) (gName 11))
    (tSeq (tIfS (tOr (tTest (tOp (rNeD c.K) (tVar 10) (tVar 11))) (tTest (tOp rNe (tCB (rLenS c.K) (tCons (tVar 10) tNil)) (tOp (rI0 fun i j => V.int (i + j)) (tVar 7) (tC (V.int 1)))))) (tRet (tC (V.bl false))) tNext)
    (tSeq (tAsg (tCallS (spD c D_law_bank_rows) (fun _ => E') (tCons (tVar 2) (tCons (tVar 7) tNil))) (gName 12))
    (tSeq (tFor (iRng1 (tCons (tOp (rI0 fun i j => V.int (i + j)) (tVar 7) (tC (V.int 1))) tNil)) (gName 13) (tFor (iRng1 (tCons (tVar 3) tNil)) (gName 14) (tSeq (tAsg (tOp (rIx c.K) (tOp (rIx c.K) (tVar 10) (tVar 13)) (tVar 14)) (gName 15))
    (tSeq (tIfS (tTest (tOp rNe (tOp rIsNF (tVar 15) (tC V.non)) (tOp (rIn c.K false) (tVar 14) (tVar 5)))) (tRet (tC (V.bl false))) tNext)
    (tIfS (tTest (tOp rNotNF (tVar 15) (tC V.non))) (tSeq (tIfS (tOr (tNot (fun σ H Q => (tCallS (spD c D_is_integer) (fun _ => E') (tCons (tVar 15) tNil)) σ H fun x H' => ∃ k, TruV c.K x H' k ∧ Q k H')) (tOr (tTest (tOp (rI0 fun i j => V.bl (decide (i < j))) (tVar 15) (tC (V.int 0)))) (tTest (tOp (rI0 fun i j => V.bl (decide (j < i))) (tVar 15) (tOp (rI0 fun i j => V.int (i + j)) (tVar 8) (tOp (rI CMul fun i j => V.int (i * j)) (tVar 3) (tOp (rI0 fun i j => V.int (i + j)) (tVar 13) (tC (V.int 1))))))))) (tRet (tC (V.bl false))) tNext)
    (tIfS (tTest (tOp rNe (tVar 15) (tOp (rIx c.K) (tOp (rIx c.K) (tVar 12) (tVar 13)) (tVar 14)))) (tRet (tC (V.bl false))) tNext)) (tIfS (tTest (tOp (rI0 fun i j => V.bl (decide (i < j))) (tOp (rIx c.K) (tOp (rIx c.K) (tVar 12) (tVar 13)) (tVar 14)) (tOp (rI CPow fun i j => V.int (i ^ j.toNat)) (tC (V.int 10)) (tC (V.int 6))))) (tRet (tC (V.bl false))) tNext))))))
    (tSeq (tFor (iTup c.K (tCallS (spD c (D_kept_off A.ca)) (fun _ => E') (tCons (tCallS (spD c (D_law_built_k09 A.ca)) (fun _ => E') (tCons (tVar 2) tNil)) tNil))) (gName 14) (tIfS (tTest (tOp (rIn c.K true) (tVar 14) (tVar 5))) (tRet (tC (V.bl false))) tNext))
    (tRet (tC (V.bl true))))))))))))))))),
    (pss_cons (ps_asg (pe_callRS (ok_law_web T) (hr.mono (by decide)) (by rfl) T.m_law_web T.F_law_web.kp (passE (takes_of rfl rfl rfl rfl)) (pa_cons (pv 1) (pa_cons pe_int (pa_cons (pe_cmpR op_eq (pe_callRS (ok_law_draw T) (hr.mono (by decide)) (by rfl) T.m_law_draw T.F_law_draw.kp (passE (takes_of rfl rfl rfl rfl)) (pa_cons (pv 1) (pa_cons pe_int pa_nil))) pe_int (nomark _)) pa_nil)))) (pg_name (i := 2) sc_law.nd rfl (by first | exact Or.inl rfl | exact Or.inr rfl)))
    (pss_cons (ps_asg (pe_callB call_len_seq (by rfl) T.n_len (by decide +kernel) (pa_cons (pe_ix ix_seq (pv 2) pe_int (fun _ _ => rfl)) pa_nil)) (pg_name (i := 3) sc_law.nd rfl (by first | exact Or.inl rfl | exact Or.inr rfl)))
    (pss_cons (ps_asg (pe_callRS (ok_law_bare T) (hr.mono (by decide)) (by rfl) T.m_law_bare T.F_law_bare.kp (passE (takes_of rfl rfl rfl rfl)) (pa_cons (pv 2) pa_nil)) (pg_name (i := 4) sc_law.nd rfl (by first | exact Or.inl rfl | exact Or.inr rfl)))
    (pss_cons (ps_asg (pe_callRS (ok_law_kept T) (hr.mono (by decide)) (by rfl) T.m_law_kept T.F_law_kept.kp (passE (takes_of rfl rfl rfl rfl)) (pa_cons (pv 4) pa_nil)) (pg_name (i := 5) sc_law.nd rfl (by first | exact Or.inl rfl | exact Or.inr rfl)))
    (pss_cons (ps_asg (pe_callRS (ok_kept_off T) (hr.mono (by decide)) (by rfl) T.m_kept_off T.F_kept_off.kp (passE (takes_of rfl rfl rfl rfl)) (pa_cons (pe_callRS (ok_law_made T) (hr.mono (by decide)) (by rfl) T.m_law_made T.F_law_made.kp (passE (takes_of rfl rfl rfl rfl)) (pa_cons (pv 4) pa_nil)) pa_nil)) (pg_name (i := 6) sc_law.nd rfl (by first | exact Or.inl rfl | exact Or.inr rfl)))
    (pss_cons (ps_if (PW.pt (pw_or (pt_not (pt_truth (pe_callB call_isi (by rfl) T.n_isinstance (by decide +kernel) (pa_cons (pv 6) (pa_cons (pe_bltn (v := V.ty "tuple") (by rfl) T.n_tuple (by decide +kernel) rfl) pa_nil))) (by intro _; rfl))) (pw_or1 (pt_cmpR (op_neD (hr.units)) (pe_callTy call_list_of (by rfl) T.n_list (by decide +kernel) (pa_cons (pv 6) pa_nil)) (pv 5) (nomark _))))) (pss_one (ps_ret pe_bl)) pss_nil)
    (pss_cons (ps_asg (pe_callRS (ok_law_draw T) (hr.mono (by decide)) (by rfl) T.m_law_draw T.F_law_draw.kp (passE (takes_of rfl rfl rfl rfl)) (pa_cons (pv 1) (pa_cons pe_int pa_nil))) (pg_name (i := 7) sc_law.nd rfl (by first | exact Or.inl rfl | exact Or.inr rfl)))
    (pss_cons (ps_asg (pe_callB (cr_max rfl) (by rfl) T.n_max (by decide +kernel) (pa_cons (pe_op op_cat (pe_lst (pa_cons pe_int pa_nil)) (pe_lc (own := [("_law_due_here", 9)]) (g := gName 9) (wi := (iList c.K (tOp (rIx c.K) (tVar 2) (tC (V.int 3))))) (tt := (tTest (tOp rNotNF (tVar 9) (tC V.non)))) (te := (tOp (rIx c.K) (tVar 9) (tC (V.int 1)))) rfl sc_law.nd (pi_list (pe_ix ix_seq (pv 2) pe_int (fun _ _ => rfl))) (blkOk_by (N := Nn_law) (sc := defScope s_law) (by decide +kernel)) (fun _ _ _ _ _ => pg_name (i := 9) sc_law.nd rfl (by first | exact Or.inl rfl | exact Or.inr rfl)) (fun _ _ _ _ _ => (pts_one (pt_cmpR op_notN (pv 9) pe_non (nomark _)))) (fun _ _ _ _ _ => (pe_ix ix_seq (pv 9) pe_int (fun _ _ => rfl))))) pa_nil)) (pg_name (i := 8) sc_law.nd rfl (by first | exact Or.inl rfl | exact Or.inr rfl)))
    (pss_cons (ps_asg (pe_callRS (ok_bank_rows T) (hr.mono (by decide)) (by rfl) T.m_bank_rows T.F_bank_rows.kp (passE (takes_of rfl rfl rfl rfl)) (pa_cons (pe_callRS (ok_law_made T) (hr.mono (by decide)) (by rfl) T.m_law_made T.F_law_made.kp (passE (takes_of rfl rfl rfl rfl)) (pa_cons (pv 2) pa_nil)) (pa_cons (pv 7) pa_nil))) (pg_name (i := 10) sc_law.nd rfl (by first | exact Or.inl rfl | exact Or.inr rfl)))
    (pss_cons (ps_asg (pe_callRS (ok_bank_rows T) (hr.mono (by decide)) (by rfl) T.m_bank_rows T.F_bank_rows.kp (passE (takes_of rfl rfl rfl rfl)) (pa_cons (pe_callRS (ok_law_made T) (hr.mono (by decide)) (by rfl) T.m_law_made T.F_law_made.kp (passE (takes_of rfl rfl rfl rfl)) (pa_cons (pv 4) pa_nil)) (pa_cons (pv 7) pa_nil))) (pg_name (i := 11) sc_law.nd rfl (by first | exact Or.inl rfl | exact Or.inr rfl)))
    (pss_cons (ps_if (PW.pt (pw_or (pt_cmpR (op_neD (hr.units)) (pv 10) (pv 11) (nomark _)) (pw_or1 (pt_cmpR op_ne (pe_callB call_len_seq (by rfl) T.n_len (by decide +kernel) (pa_cons (pv 10) pa_nil)) (pe_op op_add (pv 7) pe_int) (nomark _))))) (pss_one (ps_ret pe_bl)) pss_nil)
    (pss_cons (ps_asg (pe_callRS (ok_law_bank_rows T) (hr.mono (by decide)) (by rfl) T.m_law_bank_rows T.F_law_bank_rows.kp (passE (takes_of rfl rfl rfl rfl)) (pa_cons (pv 2) (pa_cons (pv 7) pa_nil))) (pg_name (i := 12) sc_law.nd rfl (by first | exact Or.inl rfl | exact Or.inr rfl)))
    (pss_cons (ps_for (passes_of rfl) rfl (pi_range1 (by rfl) T.n_range (pa_cons (pe_op op_add (pv 7) pe_int) pa_nil)) (pg_name (i := 13) sc_law.nd rfl (by first | exact Or.inl rfl | exact Or.inr rfl)) (pss_one (ps_for (passes_of rfl) rfl (pi_range1 (by rfl) T.n_range (pa_cons (pv 3) pa_nil)) (pg_name (i := 14) sc_law.nd rfl (by first | exact Or.inl rfl | exact Or.inr rfl)) (pss_cons (ps_asg (pe_ix ix_seq (pe_ix ix_seq (pv 10) (pv 13) (fun _ _ => rfl)) (pv 14) (fun _ _ => rfl)) (pg_name (i := 15) sc_law.nd rfl (by first | exact Or.inl rfl | exact Or.inr rfl)))
    (pss_cons (ps_if (pt_cmpR op_ne (pe_cmpR op_isN (pv 15) pe_non (nomark _)) (pe_cmpR op_in_seq (pv 14) (pv 5) rfl) (nomark _)) (pss_one (ps_ret pe_bl)) pss_nil)
    (pss_one (ps_if (pt_cmpR op_notN (pv 15) pe_non (nomark _)) (pss_cons (ps_if (PW.pt (pw_or (pt_not (pt_truth (pe_callRS (ok_law_whole T) (hr.mono (by decide)) (by rfl) T.m_law_whole T.F_law_whole.kp (passE (takes_of rfl rfl rfl rfl)) (pa_cons (pv 15) pa_nil)) (by intro _; rfl))) (pw_or (pt_cmpR op_lt (pv 15) pe_int (nomark _)) (pw_or1 (pt_cmpR op_gt (pv 15) (pe_op op_add (pv 8) (pe_op op_mul (pv 3) (pe_op op_add (pv 13) pe_int))) (nomark _)))))) (pss_one (ps_ret pe_bl)) pss_nil)
    (pss_one (ps_if (pt_cmpR op_ne (pv 15) (pe_ix ix_seq (pe_ix ix_seq (pv 12) (pv 13) (fun _ _ => rfl)) (pv 14) (fun _ _ => rfl)) (nomark _)) (pss_one (ps_ret pe_bl)) pss_nil))) (pss_one (ps_if (pt_cmpR op_lt (pe_ix ix_seq (pe_ix ix_seq (pv 12) (pv 13) (fun _ _ => rfl)) (pv 14) (fun _ _ => rfl)) (pe_op op_pow pe_int pe_int) (nomark _)) (pss_one (ps_ret pe_bl)) pss_nil)))))))))
    (pss_cons (ps_for (passes_of rfl) rfl (pi_tup (pe_callRS (ok_kept_off T) (hr.mono (by decide)) (by rfl) T.m_kept_off T.F_kept_off.kp (passE (takes_of rfl rfl rfl rfl)) (pa_cons (pe_callRS (ok_law_made T) (hr.mono (by decide)) (by rfl) T.m_law_made T.F_law_made.kp (passE (takes_of rfl rfl rfl rfl)) (pa_cons (pv 2) pa_nil)) pa_nil))) (pg_name (i := 14) sc_law.nd rfl (by first | exact Or.inl rfl | exact Or.inr rfl)) (pss_one (ps_if (pt_cmpR op_notIn_seq (pv 14) (pv 5) rfl) (pss_one (ps_ret pe_bl)) pss_nil)))
    (pss_one (ps_ret pe_bl)))))))))))))))),
    (ss_seq (ss_asg (se_call (sa_cons se_var (sa_cons se_int (sa_cons (se_op2 s2_eq (se_call (sa_cons se_var (sa_cons se_int sa_nil))) se_int) sa_nil)))) sg_name)
    (ss_seq (ss_asg (se_cb sn_len (sa_cons (se_op2 s2_ix se_var se_int) sa_nil)) sg_name)
    (ss_seq (ss_asg (se_call (sa_cons se_var sa_nil)) sg_name)
    (ss_seq (ss_asg (se_call (sa_cons se_var sa_nil)) sg_name)
    (ss_seq (ss_asg (se_call (sa_cons (se_call (sa_cons se_var sa_nil)) sa_nil)) sg_name)
    (ss_seq (ss_if (st_or (st_not (st_tru (se_cb sn_is1 (sa_cons se_var (sa_cons (se_c fun _ _ => At.ty Ty.tup) sa_nil))))) (st_test (se_op2 s2_neD (se_new (sen_list (sa_cons se_var sa_nil))) se_var))) (ss_ret se_bl) ss_next)
    (ss_seq (ss_asg (se_call (sa_cons se_var (sa_cons se_int sa_nil))) sg_name)
    (ss_seq (ss_asg (se_cb sn_maxL (sa_cons (se_op2 s2_cat (se_new (sen_lst (sa_cons se_int sa_nil))) (se_new (sen_comp (si_list (se_op2 s2_ix se_var se_int)) (st_test (se_op2 s2_notN se_var se_non)) (se_op2 s2_ix se_var se_int)))) sa_nil)) sg_name)
    (ss_seq (ss_asg (se_call (sa_cons (se_call (sa_cons se_var sa_nil)) (sa_cons se_var sa_nil))) sg_name)
    (ss_seq (ss_asg (se_call (sa_cons (se_call (sa_cons se_var sa_nil)) (sa_cons se_var sa_nil))) sg_name)
    (ss_seq (ss_if (st_or (st_test (se_op2 s2_neD se_var se_var)) (st_test (se_op2 s2_ne (se_cb sn_len (sa_cons se_var sa_nil)) (se_op2 s2_add se_var se_int)))) (ss_ret se_bl) ss_next)
    (ss_seq (ss_asg (se_call (sa_cons se_var (sa_cons se_var sa_nil))) sg_name)
    (ss_seq (ss_for (si_rng1 (sa_cons (se_op2 s2_add se_var se_int) sa_nil)) sg_name (ss_for (si_rng1 (sa_cons se_var sa_nil)) sg_name (ss_seq (ss_asg (se_op2 s2_ix (se_op2 s2_ix se_var se_var) se_var) sg_name)
    (ss_seq (ss_if (st_test (se_op2 s2_ne (se_op2 s2_isN se_var se_non) (se_op2 s2_in se_var se_var))) (ss_ret se_bl) ss_next)
    (ss_if (st_test (se_op2 s2_notN se_var se_non)) (ss_seq (ss_if (st_or (st_not (st_tru (se_call (sa_cons se_var sa_nil)))) (st_or (st_test (se_op2 s2_lt se_var se_int)) (st_test (se_op2 s2_gt se_var (se_op2 s2_add se_var (se_op2 s2_mul se_var (se_op2 s2_add se_var se_int))))))) (ss_ret se_bl) ss_next)
    (ss_if (st_test (se_op2 s2_ne se_var (se_op2 s2_ix (se_op2 s2_ix se_var se_var) se_var))) (ss_ret se_bl) ss_next)) (ss_if (st_test (se_op2 s2_lt (se_op2 s2_ix (se_op2 s2_ix se_var se_var) se_var) (se_op2 s2_pow se_int se_int))) (ss_ret se_bl) ss_next))))))
    (ss_seq (ss_for (si_tup (se_call (sa_cons (se_call (sa_cons se_var sa_nil)) sa_nil))) sg_name (ss_if (st_test (se_op2 s2_in se_var se_var)) (ss_ret se_bl) ss_next))
    (ss_ret se_bl)))))))))))))))⟩
end
end K63
namespace PL
open PySem L2 Den
noncomputable section
variable {c : Cfg} {P : Program} {w : World} {mg : Str → Option Value} {base : Heap}
abbrev qA (c : Cfg) : TS := (tIfS (tTest (tOp (rI0 fun i j => V.bl (decide (j < i))) (tVar 3) (tC (V.int 0)))) (tSeq (tDrop (tBM c.K "list" rAppend (tVar 1) (tCons (tOp (rI (fun _ j => 0 < j) fun i j => V.int (i % j)) (tCB rIntF (tCons (tVar 3) tNil)) (tC (V.int 30))) tNil)))
    (tAsg (tOp (rI CDiv fun i j => V.int (i / j)) (tVar 3) (tC (V.int 30))) (gName 3))) tNext)
abbrev qB (c : Cfg) : TS := (tSeq (tAsg (tOp (rI (fun _ j => 0 < j) fun i j => V.int (i % j)) (tCB rIntF (tCons (tOp (rI0 fun i j => V.int (i + j)) (tOp (rI0 fun i j => V.int (i + j)) (tOp (rI0 fun i j => V.int (i + j)) (tOp (rI CMul fun i j => V.int (i * j)) (tVar 6) (tVar 6)) (tOp (rI CMul fun i j => V.int (i * j)) (tVar 5) (tC (V.int 31337)))) (tOp (rI CMul fun i j => V.int (i * j)) (tVar 2) (tC (V.int 5)))) (tC (V.int 3))) tNil)) (tC (V.int 998244353))) (gName 6))
    (tDrop (tBM c.K "list" rAppend (tVar 1) (tCons (tVar 6) tNil))))
abbrev qTail (c : Cfg) : TS := (tIfS (tTest (tOp (rI0 fun i j => V.bl (decide (j ≤ i))) (tVar 3) (tOp (rI CPow fun i j => V.int (i ^ j.toNat)) (tC (V.int 10)) (tC (V.int 18))))) (tFor (iRng1 (tCons (tC (V.int 48)) tNil)) (gName 5) (qA c)) (tSeq (tAsg (tOp (rI (fun _ j => 0 < j) fun i j => V.int (i % j)) (tCB rIntF (tCons (tOp (rI0 fun i j => V.int (i + j)) (tOp (rI0 fun i j => V.int (i + j)) (tOp (rI CMul fun i j => V.int (i * j)) (tVar 3) (tC (V.int 7919))) (tOp (rI CMul fun i j => V.int (i * j)) (tVar 2) (tC (V.int 104729)))) (tVar 4)) tNil)) (tC (V.int 998244353))) (gName 6))
    (tFor (iRng1 (tCons (tC (V.int 5)) tNil)) (gName 5) (qB c))))
abbrev qPot (c : Cfg) : TS := (tSeq (tAsg (tLst tNil) (gName 1))
    (tSeq (tFor (iRng1 (tCons (tCB rMin2F (tCons (tCB (rLenS c.K) (tCons (tVar 0) tNil)) (tCons (tC (V.int 63)) tNil))) tNil)) (gName 2) (tSeq (tAsg (tCB rIntF (tCons (tOp (rIx c.K) (tVar 0) (tVar 2)) tNil)) (gName 3))
    (tSeq (tAsg (tC (V.int 11)) (gName 4))
    (tSeq (tIfS (tTest (tOp (rI0 fun i j => V.bl (decide (i < j))) (tVar 3) (tC (V.int 0)))) (tSeq (tAsg (tOp (rI0 fun i j => V.int (i - j)) (tC (V.int 0)) (tVar 3)) (gName 3))
    (tAsg (tC (V.int 503)) (gName 4))) tNext)
    (qTail c)))))
    (tSeq (tDrop (tBM0 c.K "list" rReverse (tVar 1)))
    (tRet (tVar 1)))))
/-- one turn of the pot's list at p -/
abbrev SP (a p : Addr) (i m sh : Int) (o5 o6 : Option V) : L2.St := [some (.ref a), some (.ref p), some (.int i), some (.int m), some (.int sh), o5, o6]
theorem tyList {K : PySem.W.Frag} {H : Hp} {p : Addr} {xs : List V} (h : H p = some (.lst xs)) : tyV K "list" (.ref p) H := .inl ⟨rfl, _, SqL.of h⟩
theorem small (n : Nat) (h : n < 16000000) : n < sizeLine := by
  show n < 2 ^ 24
  omega
theorem tail_ok (c : Cfg) (a p : Addr) (i m sh : Int) (hi0 : 0 ≤ i) (hi : i < 63) (o5 o6 : Option V) (H : Hp) (pot : List Int) (hl : pot.length < 10000) (hp : H p = some (.lst (pot.map V.int))) (De : Ends)
    (k : ∀ (pot' : List Int) (m' : Int) (o5' o6' : Option V) (H' : Hp), (∀ b, b ≠ p → H' b = H b) → H' p = some (.lst (pot'.map V.int)) → pot'.length ≤ pot.length + 48 → De.nx (SP a p i m' sh o5' o6') H') :
    qTail c De (SP a p i m sh o5 o6) H := by
  refine ⟨_, rfl, _, _, rfl, rfl, ⟨by decide, by decide, by decide⟩, _, _, rfl, rfl, _, rfl, ?_⟩
  refine ite2 (fun _ => ?_) (fun _ => ?_)
  · refine ⟨_, rfl, by decide, by decide, ?_⟩
    refine for_range (fun j σ H' => ∃ (pot' : List Int) (m' : Int) (o5' : Option V), σ = SP a p i m' sh o5' o6 ∧ (∀ b, b ≠ p → H' b = H b) ∧ H' p = some (.lst (pot'.map V.int)) ∧ pot'.length ≤ pot.length + j) ⟨pot, m, o5, rfl, fun _ _ => rfl, hp, Nat.le_refl _⟩ ?_ ?_
    · rintro j σ H' hj ⟨pot', m', o5', rfl, h1, h2, h3⟩
      refine ⟨_, rfl, _, _, rfl, rfl, _, rfl, ?_⟩
      refine ite2 (fun _ => ?_) (fun _ => ?_)
      · refine ⟨_, rfl, tyList h2, _, rfl, .inl ⟨_, rfl, _, _, rfl, rfl, (show (0 : Int) < 30 by decide), p, _, _, rfl, rfl, h2, small _ (by rw [List.length_map]; have : j < 48 := hj; omega), ?_⟩⟩
        refine ⟨_, rfl, _, _, rfl, rfl, ⟨by decide, by decide⟩, ?_⟩
        exact ⟨pot' ++ [m' % 30], m' / 30, _, rfl, fun b hb => (upd_ne hb).trans (h1 b hb), by rw [upd_same, List.map_append]; rfl, by rw [List.length_append]; show pot'.length + 1 ≤ _; omega⟩
      · exact ⟨pot', m', _, rfl, h1, h2, by omega⟩
    · rintro σ H' ⟨pot', m', o5', rfl, h1, h2, h3⟩
      exact k pot' m' o5' o6 H' h1 h2 h3
  · refine ⟨_, rfl, _, _, rfl, rfl, .inr ⟨by decide, by decide⟩, _, rfl, _, _, rfl, rfl, .inr ⟨by decide, by decide⟩, _, _, rfl, rfl, _, rfl, _, _, rfl, rfl, .inl ⟨_, rfl, _, _, rfl, rfl, (show (0 : Int) < 998244353 by decide), ?_⟩⟩
    refine ⟨_, rfl, by decide, by decide, ?_⟩
    refine for_range (fun j σ H' => ∃ (pot' : List Int) (x : Int) (o5' : Option V), σ = SP a p i m sh o5' (some (.int x)) ∧ 0 ≤ x ∧ x < 998244353 ∧ (∀ b, b ≠ p → H' b = H b) ∧ H' p = some (.lst (pot'.map V.int)) ∧ pot'.length ≤ pot.length + j) ⟨pot, _, o5, rfl, Int.emod_nonneg _ (by decide), Int.emod_lt_of_pos _ (by decide), fun _ _ => rfl, hp, Nat.le_refl _⟩ ?_ ?_
    · rintro j σ H' hj ⟨pot', x, o5', rfl, x0, x1, h1, h2, h3⟩
      refine ⟨_, rfl, _, rfl, _, _, rfl, rfl, .inl ⟨by omega, by omega⟩, _, rfl, _, _, rfl, rfl, .inr ⟨by decide, by decide⟩, _, _, rfl, rfl, _, rfl, _, _, rfl, rfl, .inr ⟨by decide, by decide⟩, _, _, rfl, rfl, _, _, rfl, rfl, .inl ⟨_, rfl, _, _, rfl, rfl, (show (0 : Int) < 998244353 by decide), ?_⟩⟩
      refine ⟨_, rfl, tyList h2, _, rfl, p, _, _, rfl, rfl, h2, small _ (by rw [List.length_map]; have : j < 5 := hj; omega), ?_⟩
      exact ⟨pot' ++ [_], _, _, rfl, Int.emod_nonneg _ (by decide), Int.emod_lt_of_pos _ (by decide), fun b hb => (upd_ne hb).trans (h1 b hb), by rw [upd_same, List.map_append]; rfl, by rw [List.length_append]; show pot'.length + 1 ≤ _; omega⟩
    · rintro σ H' ⟨pot', x, o5', rfl, x0, x1, h1, h2, h3⟩
      exact k pot' m o5' _ H' h1 h2 (by have : (5 : Int).toNat = 5 := rfl; omega)

/-- what the pot's maker promises: a fresh list of ints -/
def spPot (K : PySem.W.Frag) : Sp := fun vs H Q _ => ∃ (a : Addr) (ns : List Int), vs = [.ref a] ∧ SqL K H a (ns.map V.int) ∧ ns.length ≤ 63 ∧ ∀ (p : Addr) (pot : List Int) (H' : Hp), H' p = some (.lst (pot.map V.int)) → Q (.ref p) H'
theorem pot_run {a : Addr} {ns : List Int} {H : Hp} {Q : VK} (hS : SqL c.K H a (ns.map V.int)) (hl : ns.length ≤ 63) (k : ∀ (p : Addr) (pot : List Int) (H' : Hp), H' p = some (.lst (pot.map V.int)) → Q (.ref p) H') :
    qPot c { nx := fun _ H' => Q .non H', rt := Q } [some (.ref a), none, none, none, none, none, none] H := by
  refine ⟨Nat.zero_le _, fun p hp => ?_⟩
  have s0 : Same H (upd H p (.lst [])) := fun b o e => by
    rw [upd_ne (ne_of_none e hp)]
    exact e
  have hlen : (ns.map V.int).length = ns.length := List.length_map _
  refine ⟨_, rfl, a, ns.map V.int, rfl, .inl (s0.seq hS), _, _, rfl, _, rfl, ?_, ?_, ?_⟩
  · split <;> omega
  · split <;> omega
  refine for_range (fun j σ H' => ∃ (pot : List Int) (o2 o3 o4 o5 o6 : Option V), σ = [some (.ref a), some (.ref p), o2, o3, o4, o5, o6] ∧ Same H H' ∧ H' p = some (.lst (pot.map V.int)) ∧ pot.length ≤ 48 * j) ⟨[], _, _, _, _, _, rfl, s0, upd_same, Nat.le_refl _⟩ ?_ ?_
  · rintro j σ H' hj ⟨pot, o2, o3, o4, o5, o6, rfl, s1, h1, h2⟩
    have hj1 : j < ns.length := by
      rw [hlen] at hj
      split at hj <;> omega
    have hx : atI (ns.map V.int) (0 + (j : Int)) = some (V.int (ns[j]'hj1)) := by
      rw [Int.zero_add]
      refine atI_nat ?_
      rw [List.getElem?_map, List.getElem?_eq_getElem hj1]
      rfl
    have key : ∀ (m sh : Int) (De : Ends), De.nx = (fun σ H' => ∃ (pot : List Int) (o2 o3 o4 o5 o6 : Option V), σ = [some (.ref a), some (.ref p), o2, o3, o4, o5, o6] ∧ Same H H' ∧ H' p = some (.lst (pot.map V.int)) ∧ pot.length ≤ 48 * (j + 1)) → qTail c De (SP a p (0 + (j : Int)) m sh o5 o6) H' := fun m sh De eD => by
      refine tail_ok c a p (0 + (j : Int)) m sh (by omega) (by omega) o5 o6 H' pot (by omega) h1 _ fun pot' m' o5' o6' H2 g1 g2 g3 => ?_
      rw [eD]
      exact ⟨pot', _, _, _, _, _, rfl, fun b o e => by
        rw [g1 b (ne_of_none e hp)]
        exact s1 b o e, g2, by omega⟩
    refine ⟨_, rfl, _, rfl, .inl ⟨a, _, _, _, rfl, rfl, s1.seq hS, hx, .inl ⟨_, rfl, ?_⟩⟩⟩
    refine ⟨_, rfl, _, _, rfl, rfl, _, rfl, ?_⟩
    refine ite2 (fun _ => ?_) (fun _ => ?_)
    · refine ⟨_, rfl, _, _, rfl, rfl, ?_⟩
      exact key _ _ _ rfl
    · exact key _ _ _ rfl
  · rintro σ H' ⟨pot, o2, o3, o4, o5, o6, rfl, s1, h1, h2⟩
    refine ⟨_, rfl, tyList h1, p, _, rfl, rfl, h1, _, rfl, ?_⟩
    exact k p pot.reverse _ (by rw [upd_same, List.map_reverse])

end
end PL
namespace FX
open PySem L2 Den
variable {K : PySem.W.Frag}
end FX
namespace PL
open PySem L2 Den
def Lot (n : Int) (ss : List Int) : Prop := ss ≠ [] ∧ ss.length < 60 ∧ ∀ x ∈ ss, 0 ≤ x ∧ x < n
theorem scL_ints (ss : List Int) : scL (ss.map D.int) = some (ss.map V.int) := by
  induction ss with
  | nil => rfl
  | cons s ss ih => simp [scL, sc, ih]
theorem lot_ev (n : Int) (hn : 0 < n) (p : List Int) : ∃ ss q, D_law_lot [.pot, .int n] p = .ok (dI ss) q ∧ Lot n ss := by
  obtain ⟨v, q1, e1, hv0, hv1⟩ := draw_ev n hn p
  obtain ⟨t, q2, e2, ht0, ht1⟩ := draw_ev 3 (by decide) q1
  have key := loop_run (tg := gset 3) (body := sseq (sasg (mcall D_law_draw (acons (mvar 0) (acons (mvar 1) anil))) (gset 4)) (sif (mtest (minc true (mvar 4) 2)) (sappend 2 (mvar 4)) sskip))
    (fun (k : Nat) (l : Den.Loc) (q : List Int) => ∃ ss o3 o4, l = [some (.dat .pot), some (.dat (.int n)), some (.cell (ss.map .int)), o3, o4] ∧ ss ≠ [] ∧ ss.length ≤ 1 + k ∧ ∀ x ∈ ss, 0 ≤ x ∧ x < n)
    (ds := rngD 0 t.toNat) (k := 0) (l := [some (.dat .pot), some (.dat (.int n)), some (.cell [.int v]), none, none]) (p := q2) ⟨[v], none, none, rfl, by simp, by simp, by simp [hv0, hv1]⟩ (fun i d l q hd hI => by
      obtain ⟨ss, o3, o4, rfl, h1, h2, h3⟩ := hI
      have hi := (rngD_get hd).1
      obtain ⟨x, q', e, hx0, hx1⟩ := draw_ev n hn q
      refine ⟨_, lset_lt 3 _ _ (by simp), ?_⟩
      have hlen : ss.length < 1000 := by omega
      by_cases hin : inV (V.int x) (ss.map V.int) = true
      · refine ⟨[some (.dat .pot), some (.dat (.int n)), some (.cell (ss.map .int)), some (.dat d), some (.dat (.int x))], q', .inl ?_, ss, _, _, rfl, h1, by omega, h3⟩
        simp [mvar, e, minc, sc, scL_ints, hin]
      · refine ⟨[some (.dat .pot), some (.dat (.int n)), some (.cell ((ss ++ [x]).map .int)), some (.dat d), some (.dat (.int x))], q', .inl ?_, ss ++ [x], _, _, rfl, by simp, by rw [List.length_append]; simp; omega, fun y hy => ?_⟩
        · have hin' : inV (V.int x) (ss.map V.int) = false := by simpa using hin
          simp [mvar, e, minc, sc, scL_ints, hin', sappend, hlen, sbind]
        · rcases List.mem_append.mp hy with h | h
          · exact h3 y h
          · have : y = x := by simpa using h
            rw [this]; exact ⟨hx0, hx1⟩)
  obtain ⟨l', q3, e3, ss, o3, o4, rfl, h1, h2, h3⟩ := key
  rw [rngD_len] at h2
  refine ⟨ss, q3, ?_, h1, by omega, h3⟩
  have hr : rng1 [D.int t] = some (rngD 0 t.toNat) := rng1_int (by omega)
  simp [D_law_lot, denF, dn_law_lot, locOf, mvar, e1, e2, hr, e3, sgive, dI]
def DueOk (d : Due) : Prop := ∀ b x, d = some (b, x) → 0 ≤ x ∧ x ≤ 4
theorem due_ev (p : List Int) : ∃ d q, D_law_due [.pot] p = .ok (dDue d) q ∧ DueOk d := by
  obtain ⟨v, q1, e1, hv0, hv1⟩ := draw_ev 6 (by decide) p
  by_cases h2 : v ≤ 2
  · exact ⟨some (true, 0), q1, by simp [D_law_due, denF, dn_law_due, locOf, mvar, e1, h2, dDue], fun b x h => by cases h; decide⟩
  · by_cases h3 : v = 3
    · obtain ⟨x, q2, e2, hx0, hx1⟩ := draw_ev 4 (by decide) q1
      exact ⟨some (true, 1 + x), q2, by simp [D_law_due, denF, dn_law_due, locOf, mvar, e1, h3, e2, dDue], fun b y h => by cases h; omega⟩
    · by_cases h4 : v = 4
      · obtain ⟨x, q2, e2, hx0, hx1⟩ := draw_ev 3 (by decide) q1
        exact ⟨some (false, 1 + x), q2, by simp [D_law_due, denF, dn_law_due, locOf, mvar, e1, h4, e2, dDue], fun b y h => by cases h; omega⟩
      · exact ⟨none, q1, by simp [D_law_due, denF, dn_law_due, locOf, mvar, e1, h2, h3, h4, dDue], fun b y h => by cases h⟩
theorem marks_ev (n : Int) (h0 : 0 ≤ n) (h1 : n ≤ 60) (p : List Int) : ∃ ms q, D_law_marks [.pot, .int n] p = .ok (dI ms) q ∧ (ms.length : Int) = n ∧ ∀ m ∈ ms, m = 1 ∨ m = 2 := by
  obtain ⟨v, q1, e1, hv0, hv1⟩ := draw_ev 4 (by decide) p
  have hr : rng1 [D.int n] = some (rngD 0 n.toNat) := rng1_int (by omega)
  by_cases h2 : v ≤ 1
  · have hc : mcomp (mbind (acons (mvar 1) anil) fun x => mlift (rng1 x)) 3 mtrue (op2 fAdd (mret (D.int 1)) (mvar 2)) [some (.dat .pot), some (.dat (.int n)), some (.dat (.int v)), none] q1 = .ok ((List.replicate n.toNat (1 + v)).map .int) q1 := by
      refine (mcomp_ev (ds := rngD 0 n.toNat) (p' := q1) ?_ (by rw [rngD_len]; omega)).trans ?_
      · simp only [mbind_ev, acons_ev, mvar, List.getElem?_cons_succ, List.getElem?_cons_zero, bind_ok, anil_ev, hr, mlift_some]
      · refine (comp_map (by simp) (fun _ => .int (1 + v)) fun d hd => by simp [mvar]).trans ?_
        congr 1
        rw [List.map_replicate]
        refine List.eq_replicate_iff.mpr ⟨by rw [List.length_map, rngD_len], fun b hb => ?_⟩
        obtain ⟨_, _, rfl⟩ := List.mem_map.mp hb
        rfl
    refine ⟨List.replicate n.toNat (1 + v), q1, ?_, by rw [List.length_replicate]; omega, fun m hm => by have := (List.mem_replicate.mp hm).2; omega⟩
    simp [D_law_marks, denF, dn_law_marks, locOf, mvar, e1, h2, hc, dI]
  · have hc : ∃ ys q2, mcomp (mbind (acons (mvar 1) anil) fun x => mlift (rng1 x)) 3 mtrue (op2 fAdd (mret (D.int 1)) (mcall D_law_draw (acons (mvar 0) (acons (mret (D.int 2)) anil)))) [some (.dat .pot), some (.dat (.int n)), some (.dat (.int v)), none] q1 = .ok ys q2 ∧ ys.length = n.toNat ∧ ∀ y ∈ ys, ∃ m : Int, y = .int m ∧ (m = 1 ∨ m = 2) := by
      obtain ⟨ys, q2, e, hl, hy⟩ := comp_ex (i := 3) (e := op2 fAdd (mret (D.int 1)) (mcall D_law_draw (acons (mvar 0) (acons (mret (D.int 2)) anil)))) (l := [some (.dat .pot), some (.dat (.int n)), some (.dat (.int v)), none]) (by simp) (fun _ y => ∃ m : Int, y = .int m ∧ (m = 1 ∨ m = 2)) (ds := rngD 0 n.toNat) (p := q1) fun d hd p => by
        obtain ⟨x, q', e, hx0, hx1⟩ := draw_ev 2 (by decide) p
        exact ⟨.int (1 + x), q', by simp [mvar, e], 1 + x, rfl, by omega⟩
      refine ⟨ys, q2, (mcomp_ev (ds := rngD 0 n.toNat) (p' := q1) ?_ (by rw [rngD_len]; omega)).trans e, by rw [hl, rngD_len], fun y h => ?_⟩
      · simp only [mbind_ev, acons_ev, mvar, List.getElem?_cons_succ, List.getElem?_cons_zero, bind_ok, anil_ev, hr, mlift_some]
      · obtain ⟨_, _, q⟩ := hy y h
        exact q
    obtain ⟨ys, q2, e, hl, hy⟩ := hc
    have hms : ∃ ms : List Int, ys = ms.map .int ∧ ∀ m ∈ ms, m = 1 ∨ m = 2 := by
      clear e hl
      induction ys with
      | nil => exact ⟨[], rfl, fun _ h => nomatch h⟩
      | cons y ys ih =>
        obtain ⟨m, rfl, hm⟩ := hy y List.mem_cons_self
        obtain ⟨ms, rfl, h⟩ := ih fun y h => hy y (List.mem_cons_of_mem _ h)
        exact ⟨m :: ms, rfl, fun k hk => by
          rcases List.mem_cons.mp hk with rfl | hk
          · exact hm
          · exact h k hk⟩
    obtain ⟨ms, rfl, hm⟩ := hms
    rw [List.length_map] at hl
    refine ⟨ms, q2, ?_, by omega, hm⟩
    simp [D_law_marks, denF, dn_law_marks, locOf, mvar, e1, h2, e, dI]
end PL
namespace PL
open PySem L2 Den
def LotOk (n : Int) (ss : List Int) : Prop := ss.length < 60 ∧ ∀ x ∈ ss, 0 ≤ x ∧ x < n
def pathB : MS := sseq (sasg (op2 fSub (mvar 2) (mret (D.int 1))) (gset 3))
    (sseq (sif (mtest (op2 fEq (mvar 2) (mret (D.int 2)))) (sasg (mret (D.int 0)) (gset 3)) sskip)
    (sseq (sasg (op2 fAdd (mvar 2) (mret (D.int 1))) (gset 4))
    (sseq (sif (mtest (op2 fEq (mvar 2) (op2 fSub (mvar 0) (mret (D.int 1))))) (sasg (mret (D.int 1)) (gset 4)) sskip)
    (sappend 1 (mfreeze (mshort (acons (mvar 3) (acons (mvar 4) anil))))))))
theorem path_ev (n : Int) (h0 : 2 ≤ n) (h1 : n ≤ 60) (p : List Int) : ∃ lls : List (List Int), D_law_path [.int n] p = .ok (.lst (lls.map dI)) p ∧ (lls.length : Int) = n ∧ ∀ ss ∈ lls, LotOk n ss := by
  have key := loop_run (tg := gset 2) (body := pathB)
    (fun (k : Nat) (l : Den.Loc) (q : List Int) => q = p ∧ ∃ (lls : List (List Int)) (o2 o3 o4 : Option L), l = [some (.dat (.int n)), some (.cell (lls.map dI)), o2, o3, o4] ∧ lls.length = 2 + k ∧ ∀ ss ∈ lls, LotOk n ss)
    (ds := rngD 2 (n - 2).toNat) (k := 0) (l := [some (.dat (.int n)), some (.cell [.lst [], .lst []]), none, none, none]) (p := p) ⟨rfl, [[], []], none, none, none, rfl, rfl, by simp [LotOk]⟩ (fun i d l q hd hI => by
      obtain ⟨rfl, lls, o2, o3, o4, rfl, h2, h3⟩ := hI
      obtain ⟨hi, rfl⟩ := rngD_get hd
      have hin : i < (n - 2).toNat := hi
      have hlen : lls.length < 1000 := by omega
      have gen : ∀ a b : Int, 0 ≤ a → a < n → 0 ≤ b → b < n → ∀ ss ∈ lls ++ [[a, b]], LotOk n ss := fun a b a0 a1 b0 b1 ss hs => by
        rcases List.mem_append.mp hs with h | h
        · exact h3 ss h
        · have : ss = [a, b] := by simpa using h
          subst this
          exact ⟨by simp, by simp; omega⟩
      refine ⟨_, lset_lt 2 _ _ (by simp), ?_⟩
      have hv : ∃ v : Int, v = 2 + (i : Int) ∧ 2 ≤ v ∧ v < n := ⟨2 + (i : Int), rfl, by omega, by omega⟩
      obtain ⟨v, ev, v0, v1⟩ := hv
      rw [← ev]
      have fin : ∀ a b : Int, (if v = 2 then (0 : Int) else v - 1) = a → (if v = n - 1 then (1 : Int) else v + 1) = b → pathB (List.set [some (L.dat (D.int n)), some (L.cell (List.map dI lls)), o2, o3, o4] 2 (some (.dat (.int v)))) q = .nx [some (.dat (.int n)), some (.cell ((lls ++ [[a, b]]).map dI)), some (.dat (.int v)), some (.dat (.int a)), some (.dat (.int b))] q := fun a b ea eb => by
        unfold pathB
        by_cases c1 : v = 2
        · by_cases c2 : v = n - 1
          · rw [if_pos c1] at ea; rw [if_pos c2] at eb
            simp [mvar, sappend, hlen, sbind, dI, eq_true c1, eq_true c2, ← ea, ← eb]
          · rw [if_pos c1] at ea; rw [if_neg c2] at eb
            simp [mvar, sappend, hlen, sbind, dI, eq_true c1, eq_false c2, ← ea, ← eb]
        · by_cases c2 : v = n - 1
          · rw [if_neg c1] at ea; rw [if_pos c2] at eb
            simp [mvar, sappend, hlen, sbind, dI, eq_false c1, eq_true c2, ← ea, ← eb]
          · rw [if_neg c1] at ea; rw [if_neg c2] at eb
            simp [mvar, sappend, hlen, sbind, dI, eq_false c1, eq_false c2, ← ea, ← eb]
      refine ⟨_, q, .inl (fin _ _ rfl rfl), rfl, _, _, _, _, rfl, by rw [List.length_append]; simp; omega, gen _ _ ?_ ?_ ?_ ?_⟩
      all_goals (split <;> omega))
  obtain ⟨l', q, e, rfl, lls, o2, o3, o4, rfl, h2, h3⟩ := key
  rw [rngD_len] at h2
  refine ⟨lls, ?_, by omega, h3⟩
  have hr : rng2 [D.int 2, D.int n] = some (rngD 2 (n - 2).toNat) := rng2_int (by decide) (by omega)
  unfold pathB at e
  simp [D_law_path, denF, dn_law_path, locOf, mvar, hr, e, sgive]
end PL
namespace PL
open PySem L2 Den
def pE1 : MS := (sasg (vand (op2 fEq (mvar 7) (mret (D.int 0))) (op2 fNe (mvar 4) (mret (D.int 4)))) (gset 10))
def pE2 : MS := (sif (mand (mtest (op2 fEq (mvar 7) (mret (D.int 1)))) (mtest (op2 fNe (mvar 4) (mret (D.int 3))))) (sasg (mret (D.bl true)) (gset 10)) sskip)
def pE3 : MS := (sif (mand (mtest (op2 fGe (mvar 7) (mret (D.int 2)))) (mtest (op2 fEq (mcall D_law_draw (acons (mvar 0) (acons (mret (D.int 8)) anil))) (mret (D.int 7))))) (sasg (mret (D.bl true)) (gset 10)) sskip)
def pLots : MS := (sif (mtru (mvar 10)) (sseq (sappend 5 (mfreeze (mshort anil)))
    (sappend 8 (mfreeze (mshort anil)))) (sseq (sasg (mcall D_law_lot (acons (mvar 0) (acons (mvar 3) anil))) (gset 9))
    (sseq (sappend 5 (mvar 9))
    (sif (mor (mtru (mvar 2)) (mtest (op2 fEq (mcall D_law_draw (acons (mvar 0) (acons (mret (D.int 2)) anil))) (mret (D.int 0))))) (sappend 8 (mfreeze (mlistN (acons (mvar 9) anil)))) (sappend 8 (mcall D_law_lot (acons (mvar 0) (acons (mvar 3) anil))))))))
def pD0 : MS := (sasg (mret D.non) (gset 11))
def pD1 : MS := (sif (mor (mtest (op2 fEq (mvar 7) (mret (D.int 0)))) (mand (mtru (mvar 10)) (mtest (op2 fGe (mvar 7) (mret (D.int 2)))))) (sasg (mcall D_law_due (acons (mvar 0) anil)) (gset 11)) (sif (mand (mnot (mtru (mvar 10))) (mtest (op2 fEq (mcall D_law_draw (acons (mvar 0) (acons (mret (D.int 8)) anil))) (mret (D.int 7))))) (sasg (mcall D_law_due (acons (mvar 0) anil)) (gset 11)) sskip))
def pD2 : MS := (sappend 6 (mvar 11))
def pTurn : MS := sseq pE1 (sseq pE2 (sseq pE3 (sseq pLots (sseq pD0 (sseq pD1 pD2)))))
def pWeb : MS := (sseq (sasg (opn fMin2 (acons (mvar 1) (acons (op2 fIx (mfreeze (mshort (acons (mret (D.int 4)) (acons (mret (D.int 3)) (acons (mret (D.int 5)) (acons (mret (D.int 4)) (acons (mret (D.int 6)) (acons (mret (D.int 2)) (acons (mret (D.int 5)) (acons (mret (D.int 3)) (acons (mret (D.int 7)) (acons (mret (D.int 1)) anil)))))))))))) (mcall D_law_draw (acons (mvar 0) (acons (mret (D.int 10)) anil)))) anil))) (gset 3))
    (sseq (sasg (mcall D_law_draw (acons (mvar 0) (acons (mret (D.int 5)) anil))) (gset 4))
    (sseq (sown (mshort anil) 5)
    (sseq (sown (mshort anil) 6)
    (sseq (sif (mand (mtest (op2 fEq (mvar 4) (mret (D.int 0)))) (mtest (op2 fGe (mvar 3) (mret (D.int 2))))) (sseq (sasg (mcall D_law_path (acons (mvar 3) anil)) (gset 5))
    (sseq (sasg (op2 fCat (mfreeze (mshort (acons (mtupd (acons (mret (D.str "chips")) (acons (mret (D.int 0)) anil))) anil))) (mfreeze (mcomp (mbind (acons (op2 fSub (mvar 3) (mret (D.int 1))) anil) fun x => mlift (rng1 x)) 7 mtrue (mret D.non)))) (gset 6))
    (sgive 5 (sown (mcomp (mbind (mvar 5) fun x => mlift (lstOf x)) 9 mtrue (mfreeze (mlistN (acons (mvar 9) anil)))) 8)))) (sseq (sown (mshort anil) 8)
    (sfor (mbind (acons (mvar 3) anil) fun x => mlift (rng1 x)) (gset 7) pTurn)))
    (sgive 8 (sgive 5 (sgive 6 (sret (mfreeze (mshort (acons (mvar 5) (acons (mvar 8) (acons (mcall D_law_marks (acons (mvar 0) (acons (mvar 3) anil))) (acons (mvar 6) anil)))))))))))))))
theorem pWeb_is : dn_law_web = pWeb := rfl
abbrev Stt (m n s : Int) (e : Bool) (fs ss : List (List Int)) (ds : List Due) (o7 o9 o10 o11 : Option L) : Den.Loc := [some (.dat .pot), some (.dat (.int m)), some (.dat (.bl e)), some (.dat (.int n)), some (.dat (.int s)), some (.cell (fs.map dI)), some (.cell (ds.map dDue)), o7, some (.cell (ss.map dI)), o9, o10, o11]
theorem end_ev (m n s i : Int) (hi : 0 ≤ i) (e : Bool) (fs ss : List (List Int)) (ds : List Due) (o9 o10 o11 : Option L) (q : List Int) (R : MS) : ∃ b q', sseq pE1 (sseq pE2 (sseq pE3 R)) (Stt m n s e fs ss ds (some (.dat (.int i))) o9 o10 o11) q = R (Stt m n s e fs ss ds (some (.dat (.int i))) o9 (some (.dat (.bl b))) o11) q' := by
  by_cases h0 : i = 0
  · subst h0
    refine ⟨!decide (s = 4), q, ?_⟩
    simp [pE1, pE2, pE3, mvar]
  · by_cases h1 : i = 1
    · subst h1
      by_cases h3 : s = 3
      · exact ⟨false, q, by simp [pE1, pE2, pE3, mvar, h3]⟩
      · exact ⟨true, q, by simp [pE1, pE2, pE3, mvar, h3]⟩
    · have h2 : 2 ≤ i := by omega
      obtain ⟨v, q1, e1, hv0, hv1⟩ := draw_ev 8 (by decide) q
      by_cases h7 : v = 7
      · exact ⟨true, q1, by simp [pE1, pE2, pE3, mvar, h0, h1, h2, e1, h7]⟩
      · exact ⟨false, q1, by simp [pE1, pE2, pE3, mvar, h0, h1, h2, e1, h7]⟩
theorem Lot.ok {n : Int} {ss : List Int} (h : Lot n ss) : LotOk n ss := h.2
theorem lots_ev (m n s : Int) (hn : 0 < n) (e b : Bool) (fs ss : List (List Int)) (ds : List Due) (o7 o9 o11 : Option L) (hf : fs.length < 1000) (hs : ss.length < 1000) (q : List Int) : ∃ fl sl o9' q', pLots (Stt m n s e fs ss ds o7 o9 (some (.dat (.bl b))) o11) q = .nx (Stt m n s e (fs ++ [fl]) (ss ++ [sl]) ds o7 o9' (some (.dat (.bl b))) o11) q' ∧ LotOk n fl ∧ LotOk n sl ∧ fl.isEmpty = sl.isEmpty := by
  have hE : LotOk n [] := ⟨by decide, fun _ h => nomatch h⟩
  cases b with
  | true => exact ⟨[], [], o9, q, by simp [pLots, mvar, sappend, hf, hs, sbind, dI], hE, hE, rfl⟩
  | false =>
    obtain ⟨lo, q1, e1, L1⟩ := lot_ev n hn q
    have em : lo.isEmpty = false := by cases lo with
      | nil => exact absurd rfl L1.1
      | cons => rfl
    cases e with
    | true => exact ⟨lo, lo, some (.dat (dI lo)), q1, by simp [pLots, mvar, sappend, hf, hs, sbind, e1]; simp [dI], L1.ok, L1.ok, rfl⟩
    | false =>
      obtain ⟨v, q2, e2, hv0, hv1⟩ := draw_ev 2 (by decide) q1
      by_cases h0 : v = 0
      · exact ⟨lo, lo, some (.dat (dI lo)), q2, by simp [pLots, mvar, sappend, hf, hs, sbind, e1, e2, h0]; simp [dI], L1.ok, L1.ok, rfl⟩
      · obtain ⟨lo2, q3, e3, L2⟩ := lot_ev n hn q2
        have em2 : lo2.isEmpty = false := by cases lo2 with
          | nil => exact absurd rfl L2.1
          | cons => rfl
        exact ⟨lo, lo2, some (.dat (dI lo)), q3, by simp [pLots, mvar, sappend, hf, hs, sbind, e1, e2, h0, e3], L1.ok, L2.ok, by rw [em, em2]⟩
theorem dues_ev (m n s i : Int) (e b : Bool) (fs ss : List (List Int)) (ds : List Due) (o9 o11 : Option L) (hd : ds.length < 1000) (q : List Int) : ∃ d o11' q', sseq pD0 (sseq pD1 pD2) (Stt m n s e fs ss ds (some (.dat (.int i))) o9 (some (.dat (.bl b))) o11) q = .nx (Stt m n s e fs ss (ds ++ [d]) (some (.dat (.int i))) o9 (some (.dat (.bl b))) o11') q' ∧ DueOk d := by
  have hN : DueOk none := fun b x h => nomatch h
  have dN : dDue none = .non := rfl
  by_cases h0 : i = 0
  · obtain ⟨d, q1, e1, D1⟩ := due_ev q
    exact ⟨d, some (.dat (dDue d)), q1, by simp [pD0, pD1, pD2, mvar, sappend, hd, sbind, e1, h0], D1⟩
  · cases b with
    | true =>
      by_cases h2 : 2 ≤ i
      · obtain ⟨d, q1, e1, D1⟩ := due_ev q
        exact ⟨d, some (.dat (dDue d)), q1, by simp [pD0, pD1, pD2, mvar, sappend, hd, sbind, e1, h0, h2], D1⟩
      · exact ⟨none, some (.dat .non), q, by simp [pD0, pD1, pD2, mvar, sappend, hd, sbind, h0, h2, dN], hN⟩
    | false =>
      obtain ⟨v, q1, e1, hv0, hv1⟩ := draw_ev 8 (by decide) q
      by_cases h7 : v = 7
      · obtain ⟨d, q2, e2, D1⟩ := due_ev q1
        exact ⟨d, some (.dat (dDue d)), q2, by simp [pD0, pD1, pD2, mvar, sappend, hd, sbind, e1, h0, h7, e2], D1⟩
      · exact ⟨none, some (.dat .non), q1, by simp [pD0, pD1, pD2, mvar, sappend, hd, sbind, e1, h0, h7, dN], hN⟩
end PL
namespace PL
open PySem L2 Den
structure Grown (n : Int) (k : Nat) (fs ss : List (List Int)) (ds : List Due) : Prop where
  lf : fs.length = k
  ls : ss.length = k
  ld : ds.length = k
  of : ∀ x ∈ fs, LotOk n x
  os : ∀ x ∈ ss, LotOk n x
  od : ∀ d ∈ ds, DueOk d
  bo : fs.map List.isEmpty = ss.map List.isEmpty
theorem Grown.more {n : Int} {k : Nat} {fs ss : List (List Int)} {ds : List Due} (G : Grown n k fs ss ds) {fl sl : List Int} {d : Due} (h1 : LotOk n fl) (h2 : LotOk n sl) (h3 : fl.isEmpty = sl.isEmpty) (h4 : DueOk d) : Grown n (k + 1) (fs ++ [fl]) (ss ++ [sl]) (ds ++ [d]) := by
  have ap : ∀ {α : Type} {P : α → Prop} {xs : List α} {a : α}, (∀ x ∈ xs, P x) → P a → ∀ x ∈ xs ++ [a], P x := fun h ha x hx => by
    rcases List.mem_append.mp hx with h' | h'
    · exact h x h'
    · rcases List.mem_singleton.mp h' with rfl
      exact ha
  exact ⟨by simp [G.lf], by simp [G.ls], by simp [G.ld], ap G.of h1, ap G.os h2, ap G.od h4, by simp [G.bo, h3]⟩
theorem Grown.valid {n : Int} {fs ss : List (List Int)} {ds : List Due} {ms : List Int} (h1 : 1 ≤ n) (h2 : n ≤ 60) (hm : (ms.length : Int) = n) (hms : ∀ m ∈ ms, m = 1 ∨ m = 2) (G : Grown n n.toNat fs ss ds) : Valid ⟨fs, ss, ms, ds⟩ := by
  have hn : n.toNat = ms.length := by omega
  refine ⟨by show 1 ≤ ms.length; omega, by show ms.length ≤ 60; omega, G.lf.trans hn, G.ls.trans hn, G.ld.trans hn, fun s hs => ?_, fun s hs => ?_, fun i a b ha hb => ?_, hms, fun d hd b x e => by have := G.od d hd b x e; omega⟩
  · show s.length < 60 ∧ ∀ x ∈ s, 0 ≤ x ∧ x < (ms.length : Int)
    rw [hm]; exact G.of s hs
  · show s.length < 60 ∧ ∀ x ∈ s, 0 ≤ x ∧ x < (ms.length : Int)
    rw [hm]; exact G.os s hs
  · have e := congrArg (fun x => x[i]?) G.bo
    simp only [List.getElem?_map] at e
    have ha' : fs[i]? = some a := ha
    have hb' : ss[i]? = some b := hb
    rw [ha', hb'] at e
    simpa using e
theorem turn_ev (m n s i : Int) (hi : 0 ≤ i) (hn : 0 < n) (e : Bool) (k : Nat) (hk : k < 1000) (fs ss : List (List Int)) (ds : List Due) (G : Grown n k fs ss ds) (o9 o10 o11 : Option L) (q : List Int) : ∃ fs' ss' ds' o9' o10' o11' q', pTurn (Stt m n s e fs ss ds (some (.dat (.int i))) o9 o10 o11) q = .nx (Stt m n s e fs' ss' ds' (some (.dat (.int i))) o9' o10' o11') q' ∧ Grown n (k + 1) fs' ss' ds' := by
  obtain ⟨b, q1, e1⟩ := end_ev m n s i hi e fs ss ds o9 o10 o11 q (sseq pLots (sseq pD0 (sseq pD1 pD2)))
  obtain ⟨fl, sl, o9', q2, e2, h1, h2, h3⟩ := lots_ev m n s hn e b fs ss ds (some (.dat (.int i))) o9 o11 (by rw [G.lf]; exact hk) (by rw [G.ls]; exact hk) q1
  obtain ⟨d, o11', q3, e3, h4⟩ := dues_ev m n s i e b (fs ++ [fl]) (ss ++ [sl]) ds o9' o11 (by rw [G.ld]; exact hk) q2
  exact ⟨_, _, _, _, _, _, q3, e1.trans ((sseq_nx _ _ _ _ _ _ e2).trans e3), G.more h1 h2 h3 h4⟩
theorem turns_ev (m n s : Int) (hn : 0 < n) (h60 : n ≤ 60) (e : Bool) (o7 o9 o10 o11 : Option L) (q : List Int) : ∃ fs ss ds o7' o9' o10' o11' q', loop (gset 7) pTurn (rngD 0 n.toNat) (Stt m n s e [] [] [] o7 o9 o10 o11) q = .nx (Stt m n s e fs ss ds o7' o9' o10' o11') q' ∧ Grown n n.toNat fs ss ds := by
  obtain ⟨l', q', e1, fs, ss, ds, o7', o9', o10', o11', rfl, G⟩ := loop_run (tg := gset 7) (body := pTurn)
    (fun (k : Nat) (l : Den.Loc) (q : List Int) => ∃ fs ss ds o7 o9 o10 o11, l = Stt m n s e fs ss ds o7 o9 o10 o11 ∧ Grown n k fs ss ds)
    (ds := rngD 0 n.toNat) (k := 0) (l := Stt m n s e [] [] [] o7 o9 o10 o11) (p := q) ⟨[], [], [], _, _, _, _, rfl, rfl, rfl, rfl, (fun _ h => nomatch h), (fun _ h => nomatch h), (fun _ h => nomatch h), rfl⟩ (fun i d l q hd hI => by
      obtain ⟨fs, ss, ds, o7, o9, o10, o11, rfl, G⟩ := hI
      obtain ⟨hi, rfl⟩ := rngD_get hd
      obtain ⟨fs', ss', ds', o9', o10', o11', q', e1, G'⟩ := turn_ev m n s (0 + (i : Int)) (by omega) hn e (0 + i) (by omega) fs ss ds G o9 o10 o11 q
      exact ⟨_, lset_lt 7 _ _ (by simp), _, q', .inl e1, fs', ss', ds', _, _, _, _, rfl, G'⟩)
  rw [rngD_len, Nat.zero_add] at G
  exact ⟨fs, ss, ds, o7', o9', o10', o11', q', e1, G⟩
theorem menu_ev (m : Int) (h1 : 1 ≤ m) (p : List Int) : ∃ n q, (∀ l : Den.Loc, l[0]? = some (some (.dat .pot)) → l[1]? = some (some (.dat (.int m))) → opn fMin2 (acons (mvar 1) (acons (op2 fIx (mfreeze (mshort (acons (mret (D.int 4)) (acons (mret (D.int 3)) (acons (mret (D.int 5)) (acons (mret (D.int 4)) (acons (mret (D.int 6)) (acons (mret (D.int 2)) (acons (mret (D.int 5)) (acons (mret (D.int 3)) (acons (mret (D.int 7)) (acons (mret (D.int 1)) anil)))))))))))) (mcall D_law_draw (acons (mvar 0) (acons (mret (D.int 10)) anil)))) anil)) l p = .ok (.int n) q) ∧ 1 ≤ n ∧ n ≤ m ∧ n ≤ 7 := by
  obtain ⟨v, q, e, h0, h9⟩ := draw_ev 10 (by decide) p
  have key : ∃ x : Int, 1 ≤ x ∧ x ≤ 7 ∧ atI [D.int 4, .int 3, .int 5, .int 4, .int 6, .int 2, .int 5, .int 3, .int 7, .int 1] v = some (.int x) := by
    have : ∀ j : Nat, j < 10 → ∃ x : Int, 1 ≤ x ∧ x ≤ 7 ∧ [D.int 4, .int 3, .int 5, .int 4, .int 6, .int 2, .int 5, .int 3, .int 7, .int 1][j]? = some (.int x) := fun j hj => by
      match j, hj with
      | 0, _ => exact ⟨4, by decide, by decide, rfl⟩
      | 1, _ => exact ⟨3, by decide, by decide, rfl⟩
      | 2, _ => exact ⟨5, by decide, by decide, rfl⟩
      | 3, _ => exact ⟨4, by decide, by decide, rfl⟩
      | 4, _ => exact ⟨6, by decide, by decide, rfl⟩
      | 5, _ => exact ⟨2, by decide, by decide, rfl⟩
      | 6, _ => exact ⟨5, by decide, by decide, rfl⟩
      | 7, _ => exact ⟨3, by decide, by decide, rfl⟩
      | 8, _ => exact ⟨7, by decide, by decide, rfl⟩
      | 9, _ => exact ⟨1, by decide, by decide, rfl⟩
      | j + 10, h => omega
    obtain ⟨x, hx1, hx2, hx3⟩ := this v.toNat (by omega)
    exact ⟨x, hx1, hx2, atI_nat' h0 hx3⟩
  obtain ⟨x, hx1, hx2, hx3⟩ := key
  refine ⟨if x < m then x else m, q, fun l hl0 hl1 => ?_, by split <;> omega, by split <;> omega, by split <;> omega⟩
  simp [mvar_ev hl0, mvar_ev hl1, e, hx3]
end PL
namespace PL
open PySem L2 Den
def pPath : MS := (sseq (sasg (mcall D_law_path (acons (mvar 3) anil)) (gset 5))
    (sseq (sasg (op2 fCat (mfreeze (mshort (acons (mtupd (acons (mret (D.str "chips")) (acons (mret (D.int 0)) anil))) anil))) (mfreeze (mcomp (mbind (acons (op2 fSub (mvar 3) (mret (D.int 1))) anil) fun x => mlift (rng1 x)) 7 mtrue (mret D.non)))) (gset 6))
    (sgive 5 (sown (mcomp (mbind (mvar 5) fun x => mlift (lstOf x)) 9 mtrue (mfreeze (mlistN (acons (mvar 9) anil)))) 8))))
def pLast : MS := (sgive 8 (sgive 5 (sgive 6 (sret (mfreeze (mshort (acons (mvar 5) (acons (mvar 8) (acons (mcall D_law_marks (acons (mvar 0) (acons (mvar 3) anil))) (acons (mvar 6) anil))))))))))
theorem last_cell (m n s : Int) (e : Bool) (fs ss : List (List Int)) (ds : List Due) (o7 o9 o10 o11 : Option L) (ms : List Int) (q q' : List Int) (hm : D_law_marks [.pot, .int n] q = .ok (dI ms) q') : pLast (Stt m n s e fs ss ds o7 o9 o10 o11) q = .rt (.lst (encW ⟨fs, ss, ms, ds⟩)) q' := by
  simp [pLast, sgive, mvar, hm, encW]
theorem path_run (m n s : Int) (h2 : 2 ≤ n) (h60 : n ≤ 60) (e : Bool) (o8 o9 o10 o11 : Option L) (o7 : Option L) (q : List Int) : ∃ fs o7' o9', pPath [some (.dat .pot), some (.dat (.int m)), some (.dat (.bl e)), some (.dat (.int n)), some (.dat (.int s)), some (.cell []), some (.cell []), o7, o8, o9, o10, o11] q
    = .nx [some (.dat .pot), some (.dat (.int m)), some (.dat (.bl e)), some (.dat (.int n)), some (.dat (.int s)), some (.dat (.lst (fs.map dI))), some (.dat (.lst ((some (true, 0) :: List.replicate (n - 1).toNat none : List Due).map dDue))), o7', some (.cell (fs.map dI)), o9', o10, o11] q ∧ Grown n n.toNat fs fs (some (true, 0) :: List.replicate (n - 1).toNat none : List Due) := by
  obtain ⟨fs, e1, hl, hok⟩ := path_ev n h2 h60 q
  have hr : rng1 [D.int (n - 1)] = some (rngD 0 (n - 1).toNat) := rng1_int (by omega)
  have c1 : ∀ o5 : Option L, mcomp (mbind (acons (op2 fSub (mvar 3) (mret (D.int 1))) anil) fun x => mlift (rng1 x)) 7 mtrue (mret D.non) [some (.dat .pot), some (.dat (.int m)), some (.dat (.bl e)), some (.dat (.int n)), some (.dat (.int s)), o5, some (.cell []), o7, o8, o9, o10, o11] q = .ok (List.replicate (n - 1).toNat D.non) q := fun o5 => by
    refine (mcomp_ev (ds := rngD 0 (n - 1).toNat) (p' := q) ?_ (by rw [rngD_len]; omega)).trans ?_
    · simp [mvar, hr]
    · refine (comp_map (by simp) (fun _ => D.non) fun d hd => by simp).trans ?_
      congr 1
      refine List.eq_replicate_iff.mpr ⟨by rw [List.length_map, rngD_len], fun b hb => ?_⟩
      obtain ⟨_, _, rfl⟩ := List.mem_map.mp hb
      rfl
  have c2 : ∀ o6 o7 : Option L, mcomp (mbind (mvar 5) fun x => mlift (lstOf x)) 9 mtrue (mfreeze (mlistN (acons (mvar 9) anil))) [some (.dat .pot), some (.dat (.int m)), some (.dat (.bl e)), some (.dat (.int n)), some (.dat (.int s)), some (.dat (.lst (fs.map dI))), o6, o7, o8, o9, o10, o11] q = .ok (fs.map dI) q := fun o6 o7 => by
    refine (mcomp_ev (ds := fs.map dI) (p' := q) ?_ (by rw [List.length_map]; omega)).trans ?_
    · simp [mvar]
    · refine (comp_mapL (by simp) dI dI fun x hx => by simp [mvar, dI])
  have hlen : 1 + (n.toNat - 1) ≤ 1000 := by omega
  refine ⟨fs, o7, o9, ?_, ?_⟩
  · simp [pPath, mvar, e1, c1, sgive, c2, fCat, hlen, dDue]
  · refine ⟨by omega, by omega, ?_, hok, hok, ?_, rfl⟩
    · simp; omega
    · intro d hd b x hx
      rcases List.mem_cons.mp hd with rfl | h
      · cases hx; decide
      · rw [(List.mem_replicate.mp h).2] at hx; cases hx
theorem denF_ev {n m : Nat} {s : MS} {ds : List D} {pot : List Int} (h : ds.length = n) : denF n m s ds pot = outR (s (locOf m ds) pot) := if_pos h
theorem sif_t {t : M Bool} {a b : MS} {l : Den.Loc} {p p' : List Int} (h : t l p = .ok true p') : sif t a b l p = a l p' := by rw [sif_ev, h]; rfl
theorem sif_f {t : M Bool} {a b : MS} {l : Den.Loc} {p p' : List Int} (h : t l p = .ok false p') : sif t a b l p = b l p' := by rw [sif_ev, h]; rfl
abbrev S0 (m : Int) (e : Bool) (o3 o4 o5 o6 o8 : Option L) : Den.Loc := [some (.dat .pot), some (.dat (.int m)), some (.dat (.bl e)), o3, o4, o5, o6, none, o8, none, none, none]
theorem web_ev4 (m : Int) (h1 : 1 ≤ m) (e : Bool) (p : List Int) : ∃ wb q, D_law_web [.pot, .int m, .bl e] p = .ok (.lst (encW wb)) q ∧ Valid wb ∧ (wb.marks.length : Int) ≤ m ∧ wb.marks.length ≤ 7 ∧ ∀ d ∈ wb.dues, DueOk d := by
  obtain ⟨n, q1, e1, n1, n2, n3⟩ := menu_ev m h1 p
  obtain ⟨s, q2, e2, s0, s5⟩ := draw_ev 5 (by decide) q1
  have L0 := e1 (S0 m e none none none none none) rfl rfl
  have hrn : rng1 [D.int n] = some (rngD 0 n.toNat) := rng1_int (by omega)
  have main : ∃ fs ss ds ms q l q', Grown n n.toNat fs ss ds ∧ (ms.length : Int) = n ∧ (∀ m ∈ ms, m = 1 ∨ m = 2) ∧ 
      (sif (mand (mtest (op2 fEq (mvar 4) (mret (D.int 0)))) (mtest (op2 fGe (mvar 3) (mret (D.int 2))))) pPath (sseq (sown (mshort anil) 8) (sfor (mbind (acons (mvar 3) anil) fun x => mlift (rng1 x)) (gset 7) pTurn))) (S0 m e (some (.dat (.int n))) (some (.dat (.int s))) (some (.cell [])) (some (.cell [])) none) q2 = .nx l q' ∧ pLast l q' = .rt (.lst (encW ⟨fs, ss, ms, ds⟩)) q := by
    by_cases hp : s = 0 ∧ 2 ≤ n
    · obtain ⟨hp1, hp2⟩ := hp
      obtain ⟨fs, o7', o9', e3, G⟩ := path_run m n s hp2 (by omega) e none none none none none q2
      obtain ⟨ms, q3, e4, m1, m2⟩ := marks_ev n (by omega) (by omega) q2
      have hc : mand (mtest (op2 fEq (mvar 4) (mret (D.int 0)))) (mtest (op2 fGe (mvar 3) (mret (D.int 2)))) (S0 m e (some (.dat (.int n))) (some (.dat (.int s))) (some (.cell [])) (some (.cell [])) none) q2 = .ok true q2 := by
        simp [mvar, hp1, hp2]
      refine ⟨fs, fs, _, ms, q3, _, q2, G, m1, m2, (sif_t hc).trans e3, ?_⟩
      · simp [pLast, sgive, mvar, e4, encW]
    · obtain ⟨fs, ss, ds, o7', o9', o10', o11', q3, e3, G⟩ := turns_ev m n s (by omega) (by omega) e none none none none q2
      obtain ⟨ms, q4, e4, m1, m2⟩ := marks_ev n (by omega) (by omega) q3
      refine ⟨fs, ss, ds, ms, q4, _, q3, G, m1, m2, ?_, last_cell m n s e fs ss ds o7' o9' o10' o11' ms q3 q4 e4⟩
      have hc : mand (mtest (op2 fEq (mvar 4) (mret (D.int 0)))) (mtest (op2 fGe (mvar 3) (mret (D.int 2)))) (S0 m e (some (.dat (.int n))) (some (.dat (.int s))) (some (.cell [])) (some (.cell [])) none) q2 = .ok false q2 := by
        by_cases h : s = 0
        · have : ¬ 2 ≤ n := fun h' => hp ⟨h, h'⟩
          simp [mvar, h, this]
        · simp [mvar, h]
      refine (sif_f hc).trans ?_
      refine (seq_nx (l' := Stt m n s e [] [] [] none none none none) (p' := q2) (by simp)).trans ?_
      rw [sfor_ev]
      simp only [mbind_ev, acons_ev, mvar, List.getElem?_cons_succ, List.getElem?_cons_zero, bind_ok, anil_ev, hrn, mlift_some, toO_ok]
      exact e3
  obtain ⟨fs, ss, ds, ms, q, l, q', G, m1, m2, e3, e4⟩ := main
  refine ⟨⟨fs, ss, ms, ds⟩, q, ?_, G.valid n1 (by omega) m1 m2, by show (ms.length : Int) ≤ m; omega, by show ms.length ≤ 7; omega, G.od⟩
  refine (denF_ev (n := 3) (m := 12) (s := dn_law_web) rfl).trans ?_
  refine (congrArg outR ?_).trans (outR_rt _ q)
  rw [pWeb_is]
  refine (seq_nx (l' := S0 m e (some (.dat (.int n))) none none none none) (p' := q1) ?_).trans ?_
  · rw [sasg_ev]
    rw [show locOf 12 [D.pot, D.int m, D.bl e] = S0 m e none none none none none from rfl]
    rw [L0]
    rfl
  refine (seq_nx (l' := S0 m e (some (.dat (.int n))) (some (.dat (.int s))) none none none) (p' := q2) ?_).trans ?_
  · simp [mvar, e2]
  refine (seq_nx (l' := S0 m e (some (.dat (.int n))) (some (.dat (.int s))) (some (.cell [])) none none) (p' := q2) ?_).trans ?_
  · simp
  refine (seq_nx (l' := S0 m e (some (.dat (.int n))) (some (.dat (.int s))) (some (.cell [])) (some (.cell [])) none) (p' := q2) ?_).trans ?_
  · simp
  exact (seq_nx e3).trans e4
end PL
namespace PL
open PySem L2 Den
/-- the built web -/
def insW (A : CA) (wb : Wb) : D := .ins A.Web wnames (wfields wb)
theorem fld_ins {C : Addr} {f : Str} {ns : List Str} {ds : List D} : fFld C f (.ins C ns ds) = (ns.zip ds).lookup f := if_pos rfl
theorem lk_ne {f g : Str} {d : D} {l : List (Str × D)} (h : (f == g) = false) : ((g, d) :: l).lookup f = l.lookup f := by
  simp [List.lookup, h]
theorem lk_eq {f : Str} {d : D} {l : List (Str × D)} : ((f, d) :: l).lookup f = some d := by
  simp [List.lookup]
@[simp] theorem f_size (A : CA) (wb : Wb) : fFld A.Web "_size" (insW A wb) = some (.int wb.marks.length) := by
  unfold insW
  rw [fld_ins]
  exact lk_eq
@[simp] theorem f_first (A : CA) (wb : Wb) : fFld A.Web "_first" (insW A wb) = some (.tup (wb.first.map dS)) := by
  unfold insW
  rw [fld_ins]
  refine (lk_ne (by decide +kernel)).trans ?_
  exact lk_eq
@[simp] theorem f_second (A : CA) (wb : Wb) : fFld A.Web "_second" (insW A wb) = some (.tup (wb.second.map dS)) := by
  unfold insW
  rw [fld_ins]
  refine (lk_ne (by decide +kernel)).trans ?_
  refine (lk_ne (by decide +kernel)).trans ?_
  exact lk_eq
@[simp] theorem f_marks (A : CA) (wb : Wb) : fFld A.Web "_marks" (insW A wb) = some (.tup (wb.marks.map .int)) := by
  unfold insW
  rw [fld_ins]
  refine (lk_ne (by decide +kernel)).trans ?_
  refine (lk_ne (by decide +kernel)).trans ?_
  refine (lk_ne (by decide +kernel)).trans ?_
  exact lk_eq
@[simp] theorem isC_ins (A : CA) (wb : Wb) : fIsC A.Web [insW A wb, .cls A.Web] = some (.bl true) := by simp [fIsC, insW]
@[simp] theorem isC_lst (A : CA) (ds : List D) : fIsC A.Web [.lst ds, .cls A.Web] = some (.bl false) := by simp [fIsC, tyN]
theorem check_web_ok (A : CA) (wb : Wb) (p : List Int) : D_check_web A [insW A wb] p = .ok .non p := by
  simp [D_check_web, denF, dn_check_web, locOf, mvar]
def rowAt (r : List Int) (x : Int) : Int := r[x.toNat]?.getD 0
theorem row_at {r : List Int} {x : Int} (h0 : 0 ≤ x) (h1 : x < (r.length : Int)) : atI (r.map D.int) x = some (.int (rowAt r x)) := by
  have hx : x.toNat < r.length := by omega
  refine atI_nat' h0 ?_
  rw [List.getElem?_map, List.getElem?_eq_getElem hx]
  simp [rowAt, List.getElem?_eq_getElem hx]
/-- stand i of the web -/
structure Here (wb : Wb) (i : Int) (f s : List Int) (mk : Int) : Prop where
  h0 : 0 ≤ i
  h1 : i < (wb.marks.length : Int)
  hf : wb.first[i.toNat]? = some f
  hs : wb.second[i.toNat]? = some s
  hm : wb.marks[i.toNat]? = some mk
theorem here_ex {wb : Wb} (V : Valid wb) {i : Int} (h0 : 0 ≤ i) (h1 : i < (wb.marks.length : Int)) : ∃ f s mk, Here wb i f s mk := by
  have l1 := V.l1
  have l2 := V.l2
  exact ⟨wb.first[i.toNat]'(by omega), wb.second[i.toNat]'(by omega), wb.marks[i.toNat]'(by omega), h0, h1, List.getElem?_eq_getElem _, List.getElem?_eq_getElem _, List.getElem?_eq_getElem _⟩
section
variable {wb : Wb} {i : Int} {f s : List Int} {mk : Int}
theorem Here.f1 (h : Here wb i f s mk) : atI (wb.first.map dS) i = some (dS f) := atI_nat' h.h0 (by rw [List.getElem?_map, h.hf]; rfl)
theorem Here.s1 (h : Here wb i f s mk) : atI (wb.second.map dS) i = some (dS s) := atI_nat' h.h0 (by rw [List.getElem?_map, h.hs]; rfl)
theorem Here.m1 (h : Here wb i f s mk) : atI (wb.marks.map D.int) i = some (.int mk) := atI_nat' h.h0 (by rw [List.getElem?_map, h.hm]; rfl)
theorem Here.f2 (h : Here wb i f s mk) : atI (wb.first.map dI) i = some (dI f) := atI_nat' h.h0 (by rw [List.getElem?_map, h.hf]; rfl)
theorem Here.s2 (h : Here wb i f s mk) : atI (wb.second.map dI) i = some (dI s) := atI_nat' h.h0 (by rw [List.getElem?_map, h.hs]; rfl)
theorem Here.fin (h : Here wb i f s mk) (V : Valid wb) : ∀ x ∈ f, 0 ≤ x ∧ x < (wb.marks.length : Int) := (V.s1 f (List.mem_of_getElem? h.hf)).2
theorem Here.sin (h : Here wb i f s mk) (V : Valid wb) : ∀ x ∈ s, 0 ≤ x ∧ x < (wb.marks.length : Int) := (V.s2 s (List.mem_of_getElem? h.hs)).2
theorem Here.em (h : Here wb i f s mk) (V : Valid wb) : f.isEmpty = s.isEmpty := V.both _ _ _ h.hf h.hs
end
def IsLow (r ss : List Int) (v : Int) : Prop := (∃ x ∈ ss, rowAt r x = v) ∧ ∀ x ∈ ss, v ≤ rowAt r x
def IsHigh (r ss : List Int) (v : Int) : Prop := (∃ x ∈ ss, rowAt r x = v) ∧ ∀ x ∈ ss, rowAt r x ≤ v
theorem IsLow.uniq {r ss : List Int} {v w : Int} (h : IsLow r ss v) (g : IsLow r ss w) : v = w := by
  obtain ⟨⟨x, hx, ex⟩, h2⟩ := h
  obtain ⟨⟨y, hy, ey⟩, g2⟩ := g
  have := h2 y hy
  have := g2 x hx
  omega
theorem IsHigh.uniq {r ss : List Int} {v w : Int} (h : IsHigh r ss v) (g : IsHigh r ss w) : v = w := by
  obtain ⟨⟨x, hx, ex⟩, h2⟩ := h
  obtain ⟨⟨y, hy, ey⟩, g2⟩ := g
  have := h2 y hy
  have := g2 x hx
  omega
theorem minL_low {r ss : List Int} (h : ss ≠ []) : ∃ v, fMinL [.lst (ss.map fun x => .int (rowAt r x))] = some (.int v) ∧ IsLow r ss v := by
  cases ss with
  | nil => exact absurd rfl h
  | cons a t =>
    have e : intsOf ((a :: t).map fun x => D.int (rowAt r x)) = some ((a :: t).map (rowAt r)) := by
      rw [← intsOf_map ((a :: t).map (rowAt r)), List.map_map]; rfl
    refine ⟨minL (rowAt r a) (t.map (rowAt r)), ?_, ?_, ?_⟩
    · show (intsOf ((a :: t).map fun x => D.int (rowAt r x))).bind leastOf = _
      rw [e]; rfl
    · have := minL_mem (t.map (rowAt r)) (rowAt r a)
      rw [← List.map_cons] at this
      exact List.mem_map.mp this
    · intro x hx
      have := minL_le (t.map (rowAt r)) (rowAt r a)
      rcases List.mem_cons.mp hx with rfl | hx
      · exact this.1
      · exact this.2 _ (List.mem_map_of_mem hx)
theorem maxL_high {r ss : List Int} (h : ss ≠ []) : ∃ v, fMaxL [.lst (ss.map fun x => .int (rowAt r x))] = some (.int v) ∧ IsHigh r ss v := by
  cases ss with
  | nil => exact absurd rfl h
  | cons a t =>
    have e : intsOf ((a :: t).map fun x => D.int (rowAt r x)) = some ((a :: t).map (rowAt r)) := by
      rw [← intsOf_map ((a :: t).map (rowAt r)), List.map_map]; rfl
    refine ⟨maxL (rowAt r a) (t.map (rowAt r)), ?_, ?_, ?_⟩
    · show (intsOf ((a :: t).map fun x => D.int (rowAt r x))).bind mostOf = _
      rw [e]; rfl
    · have := maxL_mem (t.map (rowAt r)) (rowAt r a)
      rw [← List.map_cons] at this
      exact List.mem_map.mp this
    · intro x hx
      have := le_maxL (t.map (rowAt r)) (rowAt r a)
      rcases List.mem_cons.mp hx with rfl | hx
      · exact this.1
      · exact this.2 _ (List.mem_map_of_mem hx)
theorem sortSet_ne {ss : List Int} (h : ss ≠ []) : sortSet ss ≠ [] := fun e => by
  cases ss with
  | nil => exact h rfl
  | cons a t =>
    have : a ∈ sortSet (a :: t) := mem_sortSet.mpr List.mem_cons_self
    rw [e] at this
    cases this
end PL
namespace PL
open PySem L2 Den
theorem len_insS (k : Int) : ∀ ns : List Int, (insS k ns).length ≤ ns.length + 1
  | [] => Nat.le_refl _
  | n :: ns => by
    have := len_insS k ns
    unfold insS
    split
    · simp
    · split
      · simp
      · simp; omega
theorem len_sortSet : ∀ ns : List Int, (sortSet ns).length ≤ ns.length
  | [] => Nat.le_refl _
  | n :: ns => by
    have := len_sortSet ns
    have := len_insS n (sortSet ns)
    simp only [sortSet, List.length_cons]
    omega
section
variable {wb : Wb} {i : Int} {f s : List Int} {mk : Int}
@[simp] theorem tupOf_dS' (ss : List Int) : tupOf (dS ss) = some ((sortSet ss).map .int) := rfl
def halfI (mk x y : Int) : Int := if mk = 1 then (x + (if y > x then y else x)) / 2 else ((if y < x then y else x) + y + 1) / 2
end
end PL
namespace PL
open PySem L2 Den
theorem all_ints (r : List Int) : ∀ d ∈ r.map D.int, ∃ i, d = .int i := fun d h => by
  obtain ⟨i, _, rfl⟩ := List.mem_map.mp h
  exact ⟨i, rfl⟩
theorem whole1 (i : Int) (p : List Int) : D_check_whole [.int i] p = .ok .non p := check_whole_ok _ (all_ints [i]) (by simp) p
section
variable (A : CA) (wb : Wb)
end
end PL
namespace PL
open PySem L2 Den
section
variable (A : CA) (wb : Wb)
variable {wb}
end
end PL
namespace PL
open PySem L2 Den
section
variable (A : CA) {wb : Wb}
end
end PL
namespace PL
open PySem L2 Den
/-- what serves, told by the least and the greatest part -/
def Gd (mk x y P a q : Int) : Prop := if q < a ∨ (a = q ∧ mk = 1) then x ≤ P - a else y ≤ P + q
instance (mk x y P a q : Int) : Decidable (Gd mk x y P a q) := by unfold Gd; exact inferInstance
section
variable {wb : Wb} {i : Int} {f s : List Int} {mk : Int}
end
end PL
namespace PL
open PySem L2 Den
section
variable {wb : Wb} {i : Int} {f s : List Int} {mk : Int}
abbrev SL (wb : Wb) (k i : Int) (r : List Int) (o4 o5 o6 o7 : Option L) : Den.Loc := [some (.dat (.lst (encW wb))), some (.dat (.int k)), some (.dat (dI r)), some (.dat (.int i)), o4, o5, o6, o7]
end
end PL
namespace PL
open PySem L2 Den
theorem pdL_ints (ns : List Int) : pdL (ns.map D.int) = some (ns.map .int) := by
  induction ns with
  | nil => rfl
  | cons n ns ih => simp [pdL, pd, ih]
section
variable (A : CA) {wb : Wb} {i : Int} {f s : List Int} {mk : Int}
end
end PL
namespace PL
open PySem L2 Den
abbrev dd (d : D) : Option L := some (.dat d)
def lowI (r ss : List Int) : Int := match ss.map (rowAt r) with
  | [] => 0
  | n :: ns => minL n ns
def highI (r ss : List Int) : Int := match ss.map (rowAt r) with
  | [] => 0
  | n :: ns => maxL n ns
theorem lowI_is {r ss : List Int} (h : ss ≠ []) : IsLow r ss (lowI r ss) := by
  unfold lowI
  cases ss with
  | nil => exact absurd rfl h
  | cons n ns =>
    obtain ⟨h1, h2⟩ := minL_le (ns.map (rowAt r)) (rowAt r n)
    have hm := minL_mem (ns.map (rowAt r)) (rowAt r n)
    refine ⟨?_, fun x hx => ?_⟩
    · rcases List.mem_cons.mp hm with e | e
      · exact ⟨n, List.mem_cons_self, e.symm⟩
      · obtain ⟨x, hx, e⟩ := List.mem_map.mp e
        exact ⟨x, List.mem_cons_of_mem _ hx, e⟩
    · rcases List.mem_cons.mp hx with rfl | hx
      · exact h1
      · exact h2 _ (List.mem_map_of_mem hx)
theorem highI_is {r ss : List Int} (h : ss ≠ []) : IsHigh r ss (highI r ss) := by
  unfold highI
  cases ss with
  | nil => exact absurd rfl h
  | cons n ns =>
    obtain ⟨h1, h2⟩ := le_maxL (ns.map (rowAt r)) (rowAt r n)
    have hm := maxL_mem (ns.map (rowAt r)) (rowAt r n)
    refine ⟨?_, fun x hx => ?_⟩
    · rcases List.mem_cons.mp hm with e | e
      · exact ⟨n, List.mem_cons_self, e.symm⟩
      · obtain ⟨x, hx, e⟩ := List.mem_map.mp e
        exact ⟨x, List.mem_cons_of_mem _ hx, e⟩
    · rcases List.mem_cons.mp hx with rfl | hx
      · exact h1
      · exact h2 _ (List.mem_map_of_mem hx)
/-- the least of a list -/
def IsLeast (S : List Int) (v : Int) : Prop := v ∈ S ∧ ∀ z ∈ S, v ≤ z
theorem IsLeast.uniq {S T : List Int} {v w : Int} (h : IsLeast S v) (g : IsLeast T w) (e : ∀ z, z ∈ S ↔ z ∈ T) : v = w := by
  have := h.2 w ((e w).mpr g.1)
  have := g.2 v ((e v).mp h.1)
  omega
section
variable {wb : Wb} {i : Int} {f s : List Int} {mk : Int} (A : CA)
theorem Here.ne (V : Valid wb) (h : Here wb i f s mk) (hne : f ≠ []) : s ≠ [] := fun e => by
  have := h.em V
  rw [e] at this
  cases f with
  | nil => exact hne rfl
  | cons => cases this
end
end PL
namespace PL
open PySem L2 Den
/-- all parts of the row are in 0 .. m -/
def Parts (r : List Int) (m : Int) : Prop := ∀ v ∈ r, 0 ≤ v ∧ v ≤ m
instance (r : List Int) (m : Int) : Decidable (Parts r m) := by unfold Parts; exact inferInstance
section
variable (A : CA) (wb : Wb)
/-- a right row and a right state -/
def RowState (wb : Wb) (k : Int) (r : List Int) (i P : Int) : Prop := 0 ≤ k ∧ (r.length : Int) = wb.marks.length ∧ Parts r (k + 1) ∧ (0 ≤ i ∧ i ≤ (wb.marks.length : Int) - 1) ∧ 0 ≤ P ∧ P ≤ k
instance (k : Int) (r : List Int) (i P : Int) : Decidable (RowState wb k r i P) := by unfold RowState; exact inferInstance
end
end PL
namespace PL
open PySem L2 Den
theorem rowAt_lt {wb : Wb} {i : Int} {f s : List Int} {mk : Int} (V : Valid wb) (h : Here wb i f s mk) {r : List Int} (hl : r.length = wb.marks.length) {z : Int} (hz : z ∈ f) : atI (r.map D.int) z = some (.int (rowAt r z)) := by
  have := h.fin V z hz
  exact row_at this.1 (by omega)
theorem rowAt_lt2 {wb : Wb} {i : Int} {f s : List Int} {mk : Int} (V : Valid wb) (h : Here wb i f s mk) {r : List Int} (hl : r.length = wb.marks.length) {z : Int} (hz : z ∈ s) : atI (r.map D.int) z = some (.int (rowAt r z)) := by
  have := h.sin V z hz
  exact row_at this.1 (by omega)
section
variable {wb : Wb} {i : Int} {f s : List Int} {mk : Int} (A : CA)
end
section
variable (A : CA)
end
section
variable {wb : Wb} {i : Int} {f s : List Int} {mk : Int}
theorem enc0 (wb : Wb) : atI (encW wb) 0 = some (.lst (wb.first.map dI)) := by simp [encW]
theorem enc1 (wb : Wb) : atI (encW wb) 1 = some (.lst (wb.second.map dI)) := by simp [encW]
theorem enc2 (wb : Wb) : atI (encW wb) 2 = some (dI wb.marks) := by simp [encW]
theorem enc3 (wb : Wb) : atI (encW wb) 3 = some (.lst (wb.dues.map dDue)) := by simp [encW]
theorem law_low_ev (V : Valid wb) (h : Here wb i f s mk) (hne : f ≠ []) {r : List Int} (hl : r.length = wb.marks.length) (p : List Int) : D_law_low [.lst (encW wb), dI r, .int i] p = .ok (.int (lowI r f)) p := by
  have hf60 := (V.s1 f (List.mem_of_getElem? h.hf)).1
  obtain ⟨v, e, hv⟩ := minL_low (r := r) hne
  have c1 : c_law_low_1 [dd (.lst (encW wb)), dd (dI r), dd (.int i), none] p = .ok (f.map fun z => .int (rowAt r z)) p := by
    unfold c_law_low_1
    rw [mcomp_ev (ds := f.map D.int) (p' := p) (by simp [mvar, enc0, h.f2]) (by rw [List.length_map]; omega)]
    exact comp_mapL (by simp) D.int (fun z => .int (rowAt r z)) fun z hz => by simp [mvar, rowAt_lt V h hl hz]
  unfold D_law_low
  rw [denF_ev (by rfl)]
  simp [dn_law_low, locOf, c1, e, hv.uniq (lowI_is hne)]
theorem law_high_ev (V : Valid wb) (h : Here wb i f s mk) (hne : s ≠ []) {r : List Int} (hl : r.length = wb.marks.length) (p : List Int) : D_law_high [.lst (encW wb), dI r, .int i] p = .ok (.int (highI r s)) p := by
  have hf60 := (V.s2 s (List.mem_of_getElem? h.hs)).1
  obtain ⟨v, e, hv⟩ := maxL_high (r := r) hne
  have c1 : c_law_high_1 [dd (.lst (encW wb)), dd (dI r), dd (.int i), none] p = .ok (s.map fun z => .int (rowAt r z)) p := by
    unfold c_law_high_1
    rw [mcomp_ev (ds := s.map D.int) (p' := p) (by simp [mvar, enc1, h.s2]) (by rw [List.length_map]; omega)]
    exact comp_mapL (by simp) D.int (fun z => .int (rowAt r z)) fun z hz => by simp [mvar, rowAt_lt2 V h hl hz]
  unfold D_law_high
  rw [denF_ev (by rfl)]
  simp [dn_law_high, locOf, c1, e, hv.uniq (highI_is hne)]
end
end PL
namespace PL
open PySem L2 Den
def dueI (d : Due) (k : Int) : Int := match d with
  | none => k + 1
  | some (true, x) => min x (k + 1)
  | some (false, x) => max 0 (k + 1 - x)
theorem fMax2_mx (a b : Int) : fMax2 [.int a, .int b] = some (.int (max a b)) := by
  show some (D.int (if b > a then b else a)) = _
  congr 2; omega
theorem fMin2_mn (a b : Int) : fMin2 [.int a, .int b] = some (.int (min a b)) := by
  show some (D.int (if b < a then b else a)) = _
  congr 2; omega
section
variable (A : CA) {wb : Wb}
@[simp] theorem f_dues : fFld A.Web "_dues" (insW A wb) = some (.tup (wb.dues.map dDue)) := by
  unfold insW
  rw [fld_ins]
  refine (lk_ne (by decide +kernel)).trans ?_
  refine (lk_ne (by decide +kernel)).trans ?_
  refine (lk_ne (by decide +kernel)).trans ?_
  refine (lk_ne (by decide +kernel)).trans ?_
  exact lk_eq
/-- the price of a stand -/
def prI (wb : Wb) (k : Int) (r : List Int) (i : Nat) : Int := if (wb.first[i]?.getD []).isEmpty then k + 1 else halfI (wb.marks[i]?.getD 0) (lowI r (wb.first[i]?.getD [])) (highI r (wb.second[i]?.getD []))
/-- the next row -/
def nxI (wb : Wb) (k : Int) (r : List Int) : List Int := (List.range wb.marks.length).map fun i => min (dueI (wb.dues[i]?.getD none) k) (prI wb k r i)
theorem comp2_map {α : Type} {i j : Nat} {e : M D} {l : Den.Loc} (hi : i < l.length) (hj : j < l.length) (g : α → D) (f : Nat → D) {p : List Int} {xs : List α} (h : ∀ (m : Nat) (x : α), xs[m]? = some x → e ((l.set i (some (.dat (.int (m : Int))))).set j (some (.dat (g x)))) p = .ok (f m) p) :
    comp2 i j mtrue e (enumD 0 (xs.map g)) l p = .ok ((List.range xs.length).map f) p := by
  rw [comp2_enum hi hj g (fun m _ => some (f m)) fun m x hx => ?_]
  · congr 1
    rw [List.filterMap_eq_map']
    refine List.ext_getElem? fun m => ?_
    simp only [List.getElem?_map, List.getElem?_zipIdx]
    by_cases hm : m < xs.length
    · simp [hm]
    · simp [hm]
  · have := h m x hx
    unfold turn
    simp only [Nat.zero_add, mbind_ev, mtrue_ev, bind_ok, if_true, this, mret_ev]
theorem sortSet_nil {ss : List Int} : (sortSet ss).isEmpty = ss.isEmpty := by
  cases ss with
  | nil => rfl
  | cons a t =>
    have : sortSet (a :: t) ≠ [] := sortSet_ne (fun z => nomatch z)
    cases e : sortSet (a :: t) with
    | nil => exact absurd e this
    | cons => rfl
/-- the law's web, built by the later text -/
theorem built9_ev (V : Valid wb) (p : List Int) : D_law_built_k09 A [.lst (encW wb)] p = .ok (insW A wb) p := by
  have n2 := V.n2
  have l1 := V.l1
  have l2 := V.l2
  have c1 : c_law_built_k09_2 [dd (.lst (encW wb)), none] p = .ok (wb.first.map dI) p := by
    unfold c_law_built_k09_2
    rw [mcomp_ev (ds := wb.first.map dI) (p' := p) (by simp [mvar, enc0]) (by rw [List.length_map]; omega)]
    exact comp_mapL (by simp) dI dI fun ss hs => by simp [mvar, dI]
  have c2 : c_law_built_k09_1 [dd (.lst (encW wb)), none] p = .ok (wb.second.map dI) p := by
    unfold c_law_built_k09_1
    rw [mcomp_ev (ds := wb.second.map dI) (p' := p) (by simp [mvar, enc1]) (by rw [List.length_map]; omega)]
    exact comp_mapL (by simp) dI dI fun ss hs => by simp [mvar, dI]
  have hz : encG ⟨(false, wb.first.map fun s => (false, s)), (false, wb.second.map fun s => (false, s)), (false, wb.marks), (false, wb.dues.map fun d => (true, d))⟩ = encW wb := by
    have hd : (wb.dues.map fun d => (true, d)).map sqDue = wb.dues.map dDue := by
      rw [List.map_map]
      refine List.map_congr_left fun d _ => ?_
      rcases d with _ | ⟨_ | _, x⟩ <;> rfl
    have hs : ∀ l : List (List Int), (l.map fun s => (false, s)).map sqI = l.map dI := fun l => by
      rw [List.map_map]
      rfl
    simp only [encG, hd, hs]
    rfl
  have hw : Wg.wb ⟨(false, wb.first.map fun s => (false, s)), (false, wb.second.map fun s => (false, s)), (false, wb.marks), (false, wb.dues.map fun d => (true, d))⟩ = wb := by
    simp [Wg.wb, List.map_map, Function.comp_def]
  have hI := Web_init_ev (g := ⟨(false, wb.first.map fun s => (false, s)), (false, wb.second.map fun s => (false, s)), (false, wb.marks), (false, wb.dues.map fun d => (true, d))⟩) (by rw [hw]; exact V.g) A p
  rw [hz, hw] at hI
  have e4 : [D.lst (wb.first.map dI), .lst (wb.second.map dI), .lst (wb.marks.map .int), .lst (wb.dues.map dDue)] = encW wb := rfl
  simp [D_law_built_k09, denF, dn_law_built_k09, locOf, mmake, c1, c2, mvar, enc2, enc3, e4, hI]
  rfl
end
end PL
namespace PL
open PySem L2 Den
section
variable (A : CA) {wb : Wb}
end
end PL
namespace PL
open PySem L2 Den
section
variable (A : CA) {wb : Wb} {i : Int} {f s : List Int} {mk : Int}
abbrev ST (A : CA) (wb : Wb) (k i c : Int) (r : List Int) (o6 o7 o8 o9 o10 o11 o12 : Option L) : Den.Loc := [dd (.lst (encW wb)), dd (insW A wb), dd (.int k), dd (dI r), dd (.int i), dd (.int c), o6, o7, o8, o9, o10, o11, o12]
end
end PL
namespace PL
open PySem L2 Den
section
variable {wb : Wb} {i : Int} {f s : List Int} {mk : Int} (A : CA)
/-- what outcome asks of its numbers -/
def OutOk (wb : Wb) (i P a b : Int) : Prop := (0 ≤ i ∧ i ≤ (wb.marks.length : Int) - 1) ∧ 0 ≤ P ∧ (0 ≤ a ∧ a ≤ P) ∧ 0 ≤ b
instance (i P a b : Int) : Decidable (OutOk wb i P a b) := by unfold OutOk; exact inferInstance
end
end PL
namespace PL
open PySem L2 Den
theorem loop_gather {α : Type} {i : Nat} {body : MS} (F : Option L → List D → Den.Loc) {p : List Int} (hF : ∀ o ds d, gset i d (F o ds) = some (F (some (.dat d)) ds)) (g : α → D) (out : α → List D) : ∀ {xs : List α} {acc : List D} {o : Option L}, (∀ x ∈ xs, ∀ acc, acc.length < 900 → body (F (some (.dat (g x))) acc) p = .nx (F (some (.dat (g x))) (acc ++ out x)) p) → (∀ x, (out x).length ≤ 1) → acc.length + xs.length ≤ 900 →
    ∃ o', loop (gset i) body (xs.map g) (F o acc) p = .nx (F o' (acc ++ (xs.map out).flatten)) p
  | [], acc, o, _, _, _ => ⟨o, by rw [List.map_nil, List.map_nil, List.flatten_nil, List.append_nil]; rfl⟩
  | x :: xs, acc, o, h, hl, hn => by
    have hx := h x List.mem_cons_self acc (by simp at hn; omega)
    obtain ⟨o', e⟩ := loop_gather F hF g out (xs := xs) (acc := acc ++ out x) (o := some (.dat (g x))) (fun y hy => h y (List.mem_cons_of_mem _ hy)) hl (by have := hl x; simp at hn ⊢; omega)
    refine ⟨o', ?_⟩
    show loop (gset i) body (g x :: xs.map g) (F o acc) p = _
    unfold loop
    rw [hF]
    simp only [hx]
    rw [e, List.map_cons, List.flatten_cons, List.append_assoc]
section
variable (A : CA) {wb : Wb} {i : Int} {f s : List Int} {mk : Int}
end
end PL
namespace PL
open PySem L2 Den
section
variable (A : CA) {wb : Wb} {i : Int} {f s : List Int} {mk : Int}
end
end PL
namespace PL
open PySem L2 Den
section
variable {wb : Wb} {i : Int} {f s : List Int} {mk : Int} (A : CA)
end
end PL
namespace PL
open PySem L2 Den
section
variable {wb : Wb} {i : Int} {f s : List Int} {mk : Int} (A : CA)
end
end PL
namespace PL
open PySem L2 Den
section
variable (A : CA) {wb : Wb}
end
end PL
namespace PL
open PySem L2 Den
def RowLe (r r' : List Int) : Prop := ∀ i : Nat, r[i]?.getD 0 ≤ r'[i]?.getD 0
theorem RowLe.at {r r' : List Int} (h : RowLe r r') (x : Int) : rowAt r x ≤ rowAt r' x := h x.toNat
end PL
namespace PL
open PySem L2 Den
theorem rngN {n : Nat} (h : n ≤ 1000) : rng1 [D.int (n : Int)] = some (rngD 0 n) := by
  have := rng1_int (n := (n : Int)) (by omega)
  rwa [Int.toNat_natCast] at this
section
variable (A : CA) {wb : Wb}
end
end PL
namespace PL
open PySem L2 Den
abbrev lI (r : List Int) : D := .lst (r.map .int)
abbrev tI (r : List Int) : D := .tup (r.map .int)
theorem eqvAll_dec : ∀ r s : List Int, PyData.eqvAll (r.map .int) (s.map .int) = decide (r = s)
  | [], [] => by simp [PyData.eqvAll]
  | [], _ :: _ => by simp [PyData.eqvAll]
  | _ :: _, [] => by simp [PyData.eqvAll]
  | n :: r, m :: s => by
    have h := eqvAll_dec r s
    simp only [List.map_cons, PyData.eqvAll, PyData.eqv, h]
    by_cases e : n = m <;> by_cases e2 : r = s <;> simp [e, e2]
theorem eqv_lI (r s : List Int) (neg : Bool) : fEqD neg (lI r) (lI s) = some (.bl (if neg then !decide (r = s) else decide (r = s))) := by
  have e : ∀ r : List Int, pd (lI r) = some (.list (r.map .int)) := fun r => by simp [pd, pdL_ints]
  unfold fEqD
  rw [e, e]
  dsimp only
  rw [if_pos (by simp only [PyData.depth, depth_ints]; omega)]
  simp [PyData.eqv, eqvAll_dec]
theorem eqv_tI (r s : List Int) (neg : Bool) : fEqD neg (tI r) (tI s) = some (.bl (if neg then !decide (r = s) else decide (r = s))) := by
  have e : ∀ r : List Int, pd (tI r) = some (.tuple (r.map .int)) := fun r => by simp [pd, pdL_ints]
  unfold fEqD
  rw [e, e]
  dsimp only
  rw [if_pos (by simp only [PyData.depth, depth_ints]; omega)]
  simp [PyData.eqv, eqvAll_dec]
@[simp] theorem eq_lI (r s : List Int) : fEqD false (lI r) (lI s) = some (.bl (decide (r = s))) := by rw [eqv_lI]; rfl
@[simp] theorem ne_lI (r s : List Int) : fEqD true (lI r) (lI s) = some (.bl (!decide (r = s))) := by rw [eqv_lI]; rfl
@[simp] theorem eq_tI (r s : List Int) : fEqD false (tI r) (tI s) = some (.bl (decide (r = s))) := by rw [eqv_tI]; rfl
@[simp] theorem ne_tI (r s : List Int) : fEqD true (tI r) (tI s) = some (.bl (!decide (r = s))) := by rw [eqv_tI]; rfl
theorem sappend_ev {i : Nat} {a : M D} {l : Den.Loc} {p : List Int} {ds : List D} (h : l[i]? = some (some (.cell ds))) (hl : ds.length < 1000) : sappend i a l p = (a l p).toO l fun x p' => .nx (l.set i (some (.cell (ds ++ [x])))) p' := by
  unfold sappend
  rw [h]
  dsimp only
  rw [if_pos hl, sbind_ev]
end PL
namespace PL
open PySem L2 Den
def insV (A : CA) (ns : List Int) : D := .ins A.Verdict ["_faults"] [tI ns]
section
variable (A : CA)
@[simp] theorem f_faults (ns : List Int) : fFld A.Verdict "_faults" (insV A ns) = some (tI ns) := by
  unfold insV
  rw [fld_ins]
  exact lk_eq
@[simp] theorem it_faults (ns : List Int) : itOwn A.Verdict "_faults" (insV A ns) = some (ns.map .int) := by
  have e : ([(("_faults" : Str), tI ns)] : List (Str × D)).lookup ("_faults" : Str) = some (tI ns) := lk_eq
  show (if A.Verdict = A.Verdict then (([(("_faults" : Str), tI ns)] : List (Str × D)).lookup ("_faults" : Str)).bind tupOf else none) = _
  rw [if_pos rfl, e]
  rfl
@[simp] theorem isV (ns : List Int) : fIsC A.Verdict [insV A ns, .cls A.Verdict] = some (.bl true) := by
  show (if A.Verdict = A.Verdict then (if A.Verdict = A.Verdict then some (D.bl true) else none) else none) = _
  rw [if_pos rfl, if_pos rfl]
end
end PL
namespace PL
open PySem L2 Den
theorem RowLe.refl (r : List Int) : RowLe r r := fun _ => Int.le_refl _
theorem RowLe.trans {r s t : List Int} (a : RowLe r s) (b : RowLe s t) : RowLe r t := fun i => Int.le_trans (a i) (b i)
theorem mem_getD {r : List Int} {P : Int → Prop} (h : ∀ i : Nat, i < r.length → P (r[i]?.getD 0)) : ∀ x ∈ r, P x := fun x hx => by
  obtain ⟨i, hi⟩ := List.getElem?_of_mem hx
  have hl := (List.getElem?_eq_some_iff.mp hi).1
  have := h i hl
  rw [hi] at this
  exact this
theorem getD_mem {r : List Int} {P : Int → Prop} (h : ∀ x ∈ r, P x) {i : Nat} (hi : i < r.length) : P (r[i]?.getD 0) := by
  rw [List.getElem?_eq_getElem hi]
  exact h _ (List.getElem_mem hi)
/-- the stands at which a row is above its next row -/
def overI (wb : Wb) (k : Int) (r : List Int) : List Int := ((List.range r.length).filter fun i => decide ((nxI wb k r)[i]?.getD 0 < r[i]?.getD 0)).map fun i : Nat => (i : Int)
theorem asc_range (n : Nat) (b : Nat → Bool) : (((List.range n).filter b).map fun i : Nat => (i : Int)).Pairwise (· < ·) := by
  refine List.Pairwise.map _ (R := (· < ·)) (fun a b h => by omega) ?_
  exact List.Pairwise.filter _ List.pairwise_lt_range
end PL
namespace PL
open PySem L2 Den
section
variable (A : CA) {wb : Wb}
def GoodRow (wb : Wb) (k : Int) (r : List Int) : Prop := ((r.length : Int) = wb.marks.length ∧ Parts r (k + 1)) ∧ overI wb k r = []
instance (wb : Wb) (k : Int) (r : List Int) : Decidable (GoodRow wb k r) := by unfold GoodRow; exact inferInstance
end
end PL
namespace PL
open PySem L2 Den
structure Falls (wb : Wb) (k : Int) (r : List Int) : Prop where
  len : r.length = wb.marks.length
  parts : Parts r (k + 1)
  le : RowLe (nxI wb k r) r
section
variable (wb : Wb) (k : Int) (r : List Int)
end
section
variable {wb : Wb} {k : Int} {r : List Int}
theorem cnt_le {n : Nat} {b c : Nat → Bool} (h : ∀ i < n, b i = true → c i = true) : ((List.range n).filter b).length ≤ ((List.range n).filter c).length ∧ (∀ i < n, c i = true → b i = false → ((List.range n).filter b).length < ((List.range n).filter c).length) := by
  induction n with
  | zero => exact ⟨Nat.le_refl _, fun i hi => absurd hi (Nat.not_lt_zero i)⟩
  | succ n ih =>
    obtain ⟨i1, i2⟩ := ih fun i hi => h i (by omega)
    have hn := h n (by omega)
    rw [List.range_succ, List.filter_append, List.filter_append, List.length_append, List.length_append]
    have e : ∀ b : Nat → Bool, ([n].filter b).length = if b n = true then 1 else 0 := fun b => by cases hb : b n <;> simp [hb]
    rw [e, e]
    constructor
    · split
      · rename_i z; rw [if_pos (hn z)]; omega
      · split <;> omega
    · intro i hi hc hb
      by_cases z : i = n
      · subst z
        rw [if_neg (by rw [hb]; exact Bool.false_ne_true), if_pos hc]
        omega
      · have := i2 i (by omega) hc hb
        split
        · rename_i z; rw [if_pos (hn z)]; omega
        · split <;> omega
end
end PL
namespace PL
open PySem L2 Den
section
variable (A : CA) {wb : Wb}
end
end PL
namespace PL
open PySem L2 Den
theorem ixN_nat {n j : Nat} (h : j < n) : ixN n (j : Int) = some j := by
  unfold ixN
  simp [h]
theorem sput_ev {i : Nat} {k a : M D} {l : Den.Loc} {p p1 p2 : List Int} {ds : List D} {x : D} {j : Nat} (hc : l[i]? = some (some (.cell ds))) (ha : a l p = .ok x p1) (hk : k l p1 = .ok (.int (j : Int)) p2) (hj : j < ds.length) : sput i k a l p = .nx (l.set i (some (.cell (ds.set j x)))) p2 := by
  have e : Den.cellOf i l = some ds := by unfold Den.cellOf; rw [hc]
  unfold sput
  rw [sbind_ev, ha]
  simp only [toO_ok, e]
  rw [sbind_ev, hk]
  simp only [toO_ok, putk, e, ixN_nat hj, Option.map_some]
section
variable (A : CA) {wb : Wb}
end
end PL
namespace PL
open PySem L2 Den
end PL
namespace PL
open PySem L2 Den
theorem enumD_at {ds : List D} : ∀ {n i : Nat} {d : D}, (enumD n ds)[i]? = some d → ∃ x, ds[i]? = some x ∧ d = .tup [.int ((n + i : Nat) : Int), x] := by
  induction ds with
  | nil => intro n i d h; simp [enumD] at h
  | cons a ds ih =>
    intro n i d h
    cases i with
    | zero =>
      have : D.tup [.int (n : Int), a] = d := by simpa [enumD] using h
      exact ⟨a, rfl, by rw [← this]; rfl⟩
    | succ i =>
      have : (enumD (n + 1) ds)[i]? = some d := by simpa [enumD] using h
      obtain ⟨x, h1, h2⟩ := ih this
      exact ⟨x, by simpa using h1, by rw [h2, show n + 1 + i = n + (i + 1) by omega]⟩
theorem gset2_lt {i j : Nat} {a b : D} {l : Den.Loc} (hi : i < l.length) (hj : j < l.length) : gset2 i j (.tup [a, b]) l = some ((l.set i (some (.dat a))).set j (some (.dat b))) := by
  show (gset i a l).bind (gset j b) = _
  rw [lset_lt i a l hi, Option.bind_some, lset_lt j b _ (by simpa using hj)]
section
variable (A : CA) {wb : Wb}
end
end PL
namespace PL
open PySem L2 Den
/-- the stands below n for which b holds -/
def setI (n : Nat) (b : Nat → Bool) : List Int := ((List.range n).filter b).map fun i : Nat => (i : Int)
theorem setI_mem {n : Nat} {b : Nat → Bool} {x : Int} : x ∈ setI n b ↔ ∃ i : Nat, i < n ∧ b i = true ∧ x = (i : Int) := by
  unfold setI
  rw [List.mem_map]
  constructor
  · rintro ⟨i, hi, rfl⟩
    have := List.mem_filter.mp hi
    exact ⟨i, List.mem_range.mp this.1, this.2, rfl⟩
  · rintro ⟨i, hi, hb, rfl⟩
    exact ⟨i, List.mem_filter.mpr ⟨List.mem_range.mpr hi, hb⟩, rfl⟩
theorem setI_nat {n : Nat} {b : Nat → Bool} {i : Nat} : (i : Int) ∈ setI n b ↔ i < n ∧ b i = true := by
  rw [setI_mem]
  constructor
  · rintro ⟨j, hj, hb, e⟩
    have : i = j := by omega
    subst this
    exact ⟨hj, hb⟩
  · rintro ⟨h1, h2⟩; exact ⟨i, h1, h2, rfl⟩
theorem setI_len (n : Nat) (b : Nat → Bool) : (setI n b).length ≤ n := by
  have := List.length_filter_le b (List.range n)
  simpa [setI] using this
theorem setI_congr {n : Nat} {b c : Nat → Bool} (h : ∀ i < n, b i = c i) : setI n b = setI n c := by
  unfold setI
  congr 1
  exact List.filter_congr fun i hi => h i (List.mem_range.mp hi)
theorem setI_filter (n : Nat) (b c : Nat → Bool) (q : Int → Bool) (h : ∀ i < n, b i = true → q (i : Int) = c i) : (setI n b).filter q = setI n fun i => b i && c i := by
  unfold setI
  rw [List.filter_map, List.filter_filter]
  congr 1
  refine List.filter_congr fun i hi => ?_
  cases hb : b i with
  | false => simp
  | true => simp [Function.comp, h i (List.mem_range.mp hi) hb]
theorem inV_ints (x : Int) : ∀ ns : List Int, inV (V.int x) (ns.map V.int) = decide (x ∈ ns)
  | [] => rfl
  | n :: ns => by
    have ih := inV_ints x ns
    have e : inV (V.int x) ((n :: ns).map V.int) = (eqV (V.int n) (V.int x) || inV (V.int x) (ns.map V.int)) := rfl
    rw [e, ih]
    by_cases h : n = x
    · subst h; simp [eqV]
    · have h' : ¬ x = n := fun z => h z.symm
      simp [eqV, h, h']

theorem in_lI (x : Int) (ns : List Int) : fInB false (.int x) (lI ns) = some (.bl (decide (x ∈ ns))) := by
  show (match sc (.int x), (seqOf (lI ns)).bind scL with
    | some v, some vs => some (D.bl (if false then !inV v vs else inV v vs))
    | _, _ => none) = _
  have e : (seqOf (lI ns)).bind scL = some (ns.map V.int) := scL_ints ns
  rw [e]
  show some (D.bl (inV (V.int x) (ns.map V.int))) = _
  rw [inV_ints]
theorem nin_lI (x : Int) (ns : List Int) : fInB true (.int x) (lI ns) = some (.bl (!decide (x ∈ ns))) := by
  show (match sc (.int x), (seqOf (lI ns)).bind scL with
    | some v, some vs => some (D.bl (if true then !inV v vs else inV v vs))
    | _, _ => none) = _
  have e : (seqOf (lI ns)).bind scL = some (ns.map V.int) := scL_ints ns
  rw [e]
  show some (D.bl (!inV (V.int x) (ns.map V.int))) = _
  rw [inV_ints]
section
variable {wb : Wb}
theorem due_law (V : Valid wb) (k : Int) {i : Nat} (hi : i < wb.marks.length) (p : List Int) : atI (wb.dues.map dDue) (i : Int) = some (dDue (wb.dues[i]?.getD none)) := by
  have hd' : i < wb.dues.length := by rw [V.l3]; exact hi
  rw [show wb.dues[i]?.getD none = wb.dues[i] by rw [List.getElem?_eq_getElem hd']; rfl]
  exact atI_nat (by rw [List.getElem?_map, List.getElem?_eq_getElem hd']; rfl)
end
end PL
namespace PL
open PySem L2 Den
abbrev OI := Option Int
def dO : OI → D
  | none => .non
  | some i => .int i
def tO (r : List OI) : D := .tup (r.map dO)
def lO (r : List OI) : D := .lst (r.map dO)
@[simp] theorem isNon_dO (x : OI) : isNon (dO x) = x.isNone := by cases x <;> rfl
/-- the least of those that are there -/
def leastO (xs : List OI) : OI := match xs.filterMap id with
  | [] => none
  | n :: ns => some (minL n ns)
/-- the greatest, none if one is none -/
def greatestO (xs : List OI) : OI := if none ∈ xs then none else match xs.filterMap id with
  | [] => none
  | n :: ns => some (maxL n ns)
theorem filter_some (xs : List OI) : (xs.filter fun x => !x.isNone).map dO = (xs.filterMap id).map .int := by
  induction xs with
  | nil => rfl
  | cons x xs ih =>
    cases x with
    | none => simpa using ih
    | some i => simpa [dO] using ih
theorem fMinD_ints (ns : List Int) (d : D) : fMinD [.lst (ns.map .int)] [d] = match ns with
    | [] => some d
    | n :: ns => some (.int (minL n ns)) := by
  show (intsOf (ns.map D.int)).bind _ = _
  rw [intsOf_map]
  cases ns <;> rfl
theorem least_of_ev (xs : List OI) (hl : xs.length ≤ 1000) (p : List Int) : D_least_of [lO xs] p = .ok (dO (leastO xs)) p := by
  have c1 : c_least_of_1 [dd (lO xs), none] p = .ok ((xs.filterMap id).map .int) p := by
    unfold c_least_of_1
    rw [mcomp_ev (ds := xs.map dO) (p' := p) (by simp [mvar, lO]) (by rw [List.length_map]; omega)]
    rw [comp_filterL (by simp) dO (fun x => !x.isNone) (fun x _ => by simp [mvar]) (fun x _ => by simp [mvar]), filter_some]
  unfold D_least_of
  rw [denF_ev (by rfl)]
  show outR (dn_least_of [dd (lO xs), none] p) = _
  unfold dn_least_of leastO
  simp only [sret_ev, mckw_ev, acons_ev, mfreeze_ev, c1, bind_ok, anil_ev, mret_ev, fMinD_ints]
  cases xs.filterMap id <;> rfl
def vO : OI → V
  | none => .non
  | some i => .int i
theorem scL_oi : ∀ xs : List OI, scL (xs.map dO) = some (xs.map vO)
  | [] => rfl
  | x :: xs => by
    have h := scL_oi xs
    cases x <;> simp [scL, dO, vO, sc, h]
theorem in_none (xs : List OI) : fInB false .non (lO xs) = some (.bl (decide (none ∈ xs))) := by
  show (match sc D.non, (seqOf (lO xs)).bind scL with
    | some v, some vs => some (D.bl (if false then !inV v vs else inV v vs))
    | _, _ => none) = _
  have e : (seqOf (lO xs)).bind scL = some (xs.map vO) := scL_oi xs
  rw [e]
  show some (D.bl (inV V.non (xs.map vO))) = _
  congr 2
  unfold inV
  induction xs with
  | nil => rfl
  | cons x xs ih =>
    have ih := ih (scL_oi xs)
    cases x with
    | none =>
      have e0 : eqV V.non V.non = true := by first | rfl | decide +kernel
      simp [vO, e0]
    | some i =>
      have e0 : eqV (V.int i) V.non = false := by first | rfl | decide +kernel
      simp only [List.map_cons, vO, List.any_cons, e0, Bool.false_or, List.mem_cons, reduceCtorEq, false_or]
      exact ih
theorem greatest_of_ev (xs : List OI) (hne : xs ≠ []) (hl : xs.length ≤ 1000) (p : List Int) : D_greatest_of [lO xs] p = .ok (dO (greatestO xs)) p := by
  unfold D_greatest_of
  rw [denF_ev (by rfl)]
  show outR (dn_greatest_of [dd (lO xs)] p) = _
  unfold dn_greatest_of greatestO
  by_cases h : none ∈ xs
  · rw [if_pos h]
    simp [mvar, in_none, h, dO]
  · rw [if_neg h]
    have e : xs.map dO = (xs.filterMap id).map .int := by
      clear hl hne
      induction xs with
      | nil => rfl
      | cons x xs ih =>
        cases x with
        | none => exact absurd List.mem_cons_self h
        | some i => simpa [dO] using ih fun z => h (List.mem_cons_of_mem _ z)
    have e2 : fMaxL [lO xs] = some (dO (match xs.filterMap id with
      | [] => none
      | n :: ns => some (maxL n ns))) := by
      show (intsOf (xs.map dO)).bind mostOf = _
      rw [e, intsOf_map]
      cases h2 : xs.filterMap id with
      | nil =>
        rw [h2] at e
        cases xs with
        | nil => exact absurd rfl hne
        | cons x xs => cases e
      | cons n ns => rfl
    simp [mvar, in_none, h, e2]
theorem atI_last {ds : List D} {d : D} (h : ds.getLast? = some d) : atI ds (-1) = some d := by
  have hne : ds ≠ [] := by
    intro e
    subst e
    cases h
  have hl : 0 < ds.length := List.length_pos_iff.mpr hne
  have e : ixN ds.length (-1) = some (ds.length - 1) := by
    unfold ixN
    rw [if_neg (by decide), if_pos (by omega)]
    congr 1
    omega
  unfold atI
  rw [e, Option.bind_some, ← List.getLast?_eq_getElem?, h]
def rowO (r : List OI) (x : Int) : OI := r[x.toNat]?.getD none
/-- the price of a stand: low the least first number, hs the highs of all numbers of chips, the newest one last -/
def extO (more : Int) (low : OI) (hs : List OI) : List OI := match low with
  | none => []
  | some lo => (hs.take (hs.length - 1)).reverse.zipIdx.filterMap fun z => z.1.map fun h => some (max (lo + (z.2 : Int) + more) h)
def priceO (mk : Int) (low : OI) (hs : List OI) : OI :=
  leastO ((if mk = 1 then [] else [hs.getLast?.getD none]) ++ extO (if mk = 1 then 0 else 1) low hs)
theorem bank_price_ev (A : CA) (mk : Int) (low : OI) (hs : List OI) (hne : hs ≠ []) (hl : hs.length ≤ 400) (p : List Int) : D_bank_price_of A [.int mk, dO low, lO hs] p = .ok (dO (priceO mk low hs)) p := by
  obtain ⟨x, hx⟩ : ∃ x, hs.getLast? = some x := by
    cases e : hs.getLast? with
    | none => exact absurd (List.getLast?_eq_none_iff.mp e) hne
    | some x => exact ⟨x, rfl⟩
  have hx2 : atI (hs.map dO) (-1) = some (dO x) := atI_last (by rw [List.getLast?_map, hx]; rfl)
  obtain ⟨more, hm⟩ : ∃ m : Int, m = if mk = 1 then 0 else 1 := ⟨_, rfl⟩
  obtain ⟨found, hf⟩ : ∃ f : List OI, f = if mk = 1 then [] else [x] := ⟨_, rfl⟩
  have hfl : found.length ≤ 1 := by rw [hf]; split <;> simp
  have T1 : b_bank_price_of_1 [dd (.int mk), dd (dO low), dd (lO hs), none, none, none, none] p = .nx [dd (.int mk), dd (dO low), dd (lO hs), dd (.int more), none, none, none] p := by
    by_cases c : mk = 1
    · simp [b_bank_price_of_1, mvar, c, hm]
    · simp [b_bank_price_of_1, mvar, c, hm]
  have T2 : b_bank_price_of_2 [dd (.int mk), dd (dO low), dd (lO hs), dd (.int more), none, none, none] p = .nx [dd (.int mk), dd (dO low), dd (lO hs), dd (.int more), some (.cell (found.map dO)), none, none] p := by
    by_cases c : mk = 1
    · simp [b_bank_price_of_2, mvar, c, hf]
    · simp [b_bank_price_of_2, mvar, c, hf, lO, hx2]
  obtain ⟨ext, he⟩ : ∃ e : List OI, e = extO more low hs := ⟨_, rfl⟩
  have hel : ext.length ≤ 400 := by
    rw [he]
    unfold extO
    cases low with
    | none => simp
    | some lo =>
      have := List.length_filterMap_le (fun z : OI × Nat => z.1.map fun h => some (max (lo + (z.2 : Int) + more) h)) (hs.take (hs.length - 1)).reverse.zipIdx
      simp at this ⊢
      omega
  have T3 : b_bank_price_of_3 [dd (.int mk), dd (dO low), dd (lO hs), dd (.int more), some (.cell (found.map dO)), none, none] p = .nx [dd (.int mk), dd (dO low), dd (lO hs), dd (.int more), some (.cell ((found ++ ext).map dO)), none, none] p := by
    cases low with
    | none => simp [b_bank_price_of_3, mvar, dO, he, extO]
    | some lo =>
      have c1 : c_bank_price_of_1 [dd (.int mk), dd (dO (some lo)), dd (lO hs), dd (.int more), some (.cell (found.map dO)), none, none] p = .ok (ext.map dO) p := by
        unfold c_bank_price_of_1
        rw [mcomp2_ev (ds := enumD 0 ((hs.take (hs.length - 1)).reverse.map dO)) (p' := p) (by simp [mvar, lO, fRev2, enum1, List.map_take, List.map_reverse]) (by rw [enumD_len]; simp; omega)]
        rw [comp2_enum (by simp) (by simp) dO (fun m y => y.map fun h => .int (max (lo + (m : Int) + more) h)) fun m y hy => ?_]
        · rw [he]
          unfold extO
          rw [List.map_filterMap]
          congr 2
          funext z
          cases z.1 <;> rfl
        · cases y with
          | none => simp [turn, mvar, dO]
          | some h =>
            simp [turn, mvar, dO, fMax2_mx, -fMax2_int]
      have e4 : sextend 4 (mfreeze c_bank_price_of_1) [dd (.int mk), dd (dO (some lo)), dd (lO hs), dd (.int more), some (.cell (found.map dO)), none, none] p = .nx [dd (.int mk), dd (dO (some lo)), dd (lO hs), dd (.int more), some (.cell ((found ++ ext).map dO)), none, none] p := by
        unfold sextend
        show sbind _ _ _ _ = _
        rw [sbind_ev]
        simp only [mfreeze_ev, c1, bind_ok, toO_ok]
        rw [if_pos (by rw [List.length_map, List.length_map]; omega), List.map_append]
        rfl
      have e5 : mtest (op2 fNotN (mvar 1) (mret D.non)) [dd (.int mk), dd (dO (some lo)), dd (lO hs), dd (.int more), some (.cell (found.map dO)), none, none] p = .ok true p := by simp [mvar, dO]
      unfold b_bank_price_of_3
      rw [sif_ev, e5]
      exact e4
  unfold D_bank_price_of
  rw [denF_ev (by rfl)]
  show outR (dn_bank_price_of A [dd (.int mk), dd (dO low), dd (lO hs), none, none, none, none] p) = _
  unfold dn_bank_price_of
  rw [seq_nx T1, seq_nx T2, seq_nx T3]
  have e4 := least_of_ev (found ++ ext) (by rw [List.length_append]; omega) p
  have e5 : priceO mk low hs = leastO (found ++ ext) := by
    unfold priceO
    rw [hf, he, hx, hm]
    rfl
  rw [e5]
  simp [b_bank_price_of_4, sgive, mvar, lO] at e4 ⊢
  simp [e4]
end PL
namespace PL
open PySem L2 Den
def bdueI : Due → OI
  | some (true, x) => some x
  | _ => none
theorem bank_due_ev (d : Due) (p : List Int) : D_bank_due_of [dDue d] p = .ok (dO (bdueI d)) p := by
  rcases d with _ | ⟨b, x⟩
  · simp [D_bank_due_of, denF, dn_bank_due_of, locOf, mvar, dDue, bdueI, dO]
  · cases b
    · simp [D_bank_due_of, denF, dn_bank_due_of, locOf, mvar, dDue, bdueI, dO, fEq_str, show ¬ (("less" : Str) = "chips") by decide]
    · simp [D_bank_due_of, denF, dn_bank_due_of, locOf, mvar, dDue, bdueI, dO, fEq_str]
theorem atI_rowO {r : List OI} {x : Int} (h0 : 0 ≤ x) (h1 : x < r.length) : atI (r.map dO) x = some (dO (rowO r x)) := by
  refine atI_nat' h0 ?_
  unfold rowO
  have hx : x.toNat < r.length := by omega
  rw [List.getElem?_map, List.getElem?_eq_getElem hx]
  rfl
theorem cat_lO (h : List OI) (x : OI) (hl : h.length ≤ 300) : fCat (lO h) (.lst [dO x]) = some (lO (h ++ [x])) := by
  show (if _ then _ else _) = _
  rw [if_pos (by simp; omega)]
  simp [lO]
section
variable {wb : Wb} {i : Int} {f s : List Int} {mk : Int}
def bhighI (wb : Wb) (r : List OI) (i : Nat) : OI := greatestO ((sortSet (wb.second[i]?.getD [])).map (rowO r))
def blowI (wb : Wb) (r : List OI) (i : Nat) : OI := leastO ((sortSet (wb.first[i]?.getD [])).map (rowO r))
theorem bank_high_ev (V : Valid wb) (A : CA) {i : Nat} (hi : i < wb.marks.length) (hne : wb.first[i]?.getD [] ≠ []) {r : List OI} (hl : r.length = wb.marks.length) (p : List Int) : D_bank_high A [insW A wb, tO r, .int (i : Int)] p = .ok (dO (bhighI wb r i)) p := by
  obtain ⟨f, s, mk, h⟩ := here_ex V (i := (i : Int)) (by omega) (by omega)
  have ef : wb.first[i]?.getD [] = f := by have := h.hf; simp at this; simp [this]
  have es : wb.second[i]?.getD [] = s := by have := h.hs; simp at this; simp [this]
  rw [ef] at hne
  have hsne := Here.ne V h hne
  have hs60 := len_sortSet s
  have hsz := (V.s2 s (List.mem_of_getElem? h.hs)).1
  have c1 : c_bank_high_1 A [dd (insW A wb), dd (tO r), dd (.int (i : Int)), none] p = .ok (((sortSet s).map (rowO r)).map dO) p := by
    unfold c_bank_high_1
    rw [mcomp_ev (ds := (sortSet s).map D.int) (p' := p) (by simp [mvar, h.s1]) (by rw [List.length_map]; omega)]
    rw [comp_mapL (by simp) D.int (fun x => dO (rowO r x)) (fun x hx => by
      have := h.sin V x (mem_sortSet.mp hx)
      simp [mvar, tO, atI_rowO this.1 (by omega : x < (r.length : Int))]), List.map_map]
    rfl
  unfold D_bank_high
  rw [denF_ev (by rfl)]
  show outR (dn_bank_high A [dd (insW A wb), dd (tO r), dd (.int (i : Int)), none] p) = _
  have e := greatest_of_ev ((sortSet s).map (rowO r)) (by
    intro z
    have := sortSet_ne hsne
    cases e : sortSet s with
    | nil => exact this e
    | cons a b => rw [e] at z; cases z) (by rw [List.length_map]; omega) p
  unfold dn_bank_high bhighI
  rw [es]
  unfold lO at e
  simp only [sret_ev, mcall_ev, acons_ev, mfreeze_ev, c1, bind_ok, anil_ev, e, toO_ok, outR_rt]
/-- the next row: hs the highs of each stand so far -/
def nextO (wb : Wb) (r : List OI) (hs : List (List OI)) : List OI := (List.range wb.marks.length).map fun i =>
  leastO [bdueI (wb.dues[i]?.getD none), if wb.first[i]?.getD [] = [] then none else priceO (wb.marks[i]?.getD 0) (blowI wb r i) (hs[i]?.getD [] ++ [bhighI wb r i])]
theorem nextO_len (wb : Wb) (r : List OI) (hs : List (List OI)) : (nextO wb r hs).length = wb.marks.length := by simp [nextO]
structure HsOk (wb : Wb) (hs : List (List OI)) (b : Nat) : Prop where
  len : hs.length = wb.marks.length
  each : ∀ h ∈ hs, h ≠ [] ∧ h.length ≤ b
theorem next_bank_row_ev (V : Valid wb) (A : CA) {r : List OI} (hl : r.length = wb.marks.length) {hs : List (List OI)} (H : HsOk wb hs 300) (p : List Int) : D_next_bank_row A [insW A wb, tO r, .lst (hs.map lO)] p = .ok (tO (nextO wb r hs)) p := by
  have n2 := V.n2
  have l3 := V.l3
  obtain ⟨ST, hST⟩ : ∃ ST : List D → Option L → Option L → Option L → Option L → Option L → Den.Loc, ST = fun c o4 o5 o6 o7 o8 => [dd (insW A wb), dd (tO r), dd (.lst (hs.map lO)), some (.cell c), o4, o5, o6, o7, o8] := ⟨_, rfl⟩
  have turn1 : ∀ (j : Nat) (hj : j < wb.marks.length) (c : List D) (o6 o7 o8 : Option L), c.length < 1000 → ∃ o6' o7' o8', L_next_bank_row_2 A (ST c (dd (.int (j : Int))) (dd (dDue (wb.dues[j]?.getD none))) o6 o7 o8) p = .nx (ST (c ++ [dO (leastO [bdueI (wb.dues[j]?.getD none), if wb.first[j]?.getD [] = [] then none else priceO (wb.marks[j]?.getD 0) (blowI wb r j) (hs[j]?.getD [] ++ [bhighI wb r j])])]) (dd (.int (j : Int))) (dd (dDue (wb.dues[j]?.getD none))) o6' o7' o8') p := fun j hj c o6 o7 o8 hc => by
    obtain ⟨f, s, mk, h⟩ := here_ex V (i := (j : Int)) (by omega) (by omega)
    have ef : wb.first[j]?.getD [] = f := by have := h.hf; simp at this; simp [this]
    have em : wb.marks[j]?.getD 0 = mk := by have := h.hm; simp at this; simp [this]
    have ed := bank_due_ev (wb.dues[j]?.getD none) p
    obtain ⟨price, hp⟩ : ∃ z : OI, z = if wb.first[j]?.getD [] = [] then none else priceO (wb.marks[j]?.getD 0) (blowI wb r j) (hs[j]?.getD [] ++ [bhighI wb r j]) := ⟨_, rfl⟩
    rw [← hp]
    have T2 : ∃ o7' o8', b_next_bank_row_2l2 A (ST c (dd (.int (j : Int))) (dd (dDue (wb.dues[j]?.getD none))) (dd .non) o7 o8) p = .nx (ST c (dd (.int (j : Int))) (dd (dDue (wb.dues[j]?.getD none))) (dd (dO price)) o7' o8') p := by
      subst hST
      by_cases hne : f = []
      · refine ⟨o7, o8, ?_⟩
        rw [ef, if_pos hne] at hp
        have := h.f1
        rw [hne] at this
        simp [b_next_bank_row_2l2, mvar, this, sortSet, hp, dO]
      · rw [ef, if_neg hne, em] at hp
        have hf60 := (V.s1 f (List.mem_of_getElem? h.hf)).1
        have hs60 := len_sortSet f
        refine ⟨dd (dO (blowI wb r j)), o8, ?_⟩
        have c1 : c_next_bank_row_1 A [dd (insW A wb), dd (tO r), dd (.lst (hs.map lO)), some (.cell c), dd (.int (j : Int)), dd (dDue (wb.dues[j]?.getD none)), dd .non, o7, o8] p = .ok (((sortSet f).map (rowO r)).map dO) p := by
          unfold c_next_bank_row_1
          rw [mcomp_ev (ds := (sortSet f).map D.int) (p' := p) (by simp [mvar, h.f1]) (by rw [List.length_map]; omega)]
          rw [comp_mapL (by simp) D.int (fun x => dO (rowO r x)) (fun x hx => by
            have := h.fin V x (mem_sortSet.mp hx)
            simp [mvar, tO, atI_rowO this.1 (by omega : x < (r.length : Int))]), List.map_map]
          rfl
        have e1 := least_of_ev ((sortSet f).map (rowO r)) (by rw [List.length_map]; omega) p
        unfold lO at e1
        have eb : blowI wb r j = leastO ((sortSet f).map (rowO r)) := by unfold blowI; rw [ef]
        have t1 : b_next_bank_row_2l2t1 A [dd (insW A wb), dd (tO r), dd (.lst (hs.map lO)), some (.cell c), dd (.int (j : Int)), dd (dDue (wb.dues[j]?.getD none)), dd .non, o7, o8] p = .nx [dd (insW A wb), dd (tO r), dd (.lst (hs.map lO)), some (.cell c), dd (.int (j : Int)), dd (dDue (wb.dues[j]?.getD none)), dd .non, dd (dO (blowI wb r j)), o8] p := by
          simp [b_next_bank_row_2l2t1, c1, e1, eb, -List.map_map]
        have hj2 : j < hs.length := by rw [H.len]; exact hj
        have eh : hs[j]?.getD [] = hs[j] := by simp [hj2]
        have hh := H.each hs[j] (List.getElem_mem hj2)
        have e2 := bank_high_ev V A hj (by rw [ef]; exact hne) hl p
        have e3 := bank_price_ev A mk (blowI wb r j) (hs[j] ++ [bhighI wb r j]) (by simp) (by rw [List.length_append]; simp; omega) p
        have ea : atI (hs.map lO) (j : Int) = some (lO hs[j]) := atI_nat (by rw [List.getElem?_map, List.getElem?_eq_getElem hj2]; rfl)
        have ec : fCat (lO hs[j]) (.lst [dO (bhighI wb r j)]) = some (lO (hs[j] ++ [bhighI wb r j])) := cat_lO _ _ (by omega)
        have t2 : b_next_bank_row_2l2t2 A [dd (insW A wb), dd (tO r), dd (.lst (hs.map lO)), some (.cell c), dd (.int (j : Int)), dd (dDue (wb.dues[j]?.getD none)), dd .non, dd (dO (blowI wb r j)), o8] p = .nx [dd (insW A wb), dd (tO r), dd (.lst (hs.map lO)), some (.cell c), dd (.int (j : Int)), dd (dDue (wb.dues[j]?.getD none)), dd (dO price), dd (dO (blowI wb r j)), o8] p := by
          rw [eh] at hp
          simp [b_next_bank_row_2l2t2, mvar, h.m1, ea, e2, ec, e3, hp]
        have tt : mtru (op2 fIx (mfld A.Web "_first" (mvar 0)) (mvar 4)) [dd (insW A wb), dd (tO r), dd (.lst (hs.map lO)), some (.cell c), dd (.int (j : Int)), dd (dDue (wb.dues[j]?.getD none)), dd .non, o7, o8] p = .ok true p := by
          have := sortSet_ne hne
          simp [mvar, h.f1, this]
        unfold b_next_bank_row_2l2
        rw [sif_ev, tt]
        simp only [toO_ok, if_true]
        rw [seq_nx t1, t2]
    obtain ⟨o7', o8', T2⟩ := T2
    refine ⟨dd (dO price), o7', o8', ?_⟩
    have e9 := least_of_ev [bdueI (wb.dues[j]?.getD none), price] (by simp) p
    unfold lO at e9
    subst hST
    unfold L_next_bank_row_2
    rw [seq_nx (l' := [dd (insW A wb), dd (tO r), dd (.lst (hs.map lO)), some (.cell c), dd (.int (j : Int)), dd (dDue (wb.dues[j]?.getD none)), dd .non, o7, o8]) (p' := p) (by simp), seq_nx T2]
    unfold b_next_bank_row_2l3
    rw [sappend_ev (ds := c) (by rfl) hc]
    simp only [List.map_cons, List.map_nil] at e9
    simp [mvar, ed, e9]
  have hloop : ∃ o4 o5 o6 o7 o8, b_next_bank_row_2 A (ST [] none none none none none) p = .nx (ST ((nextO wb r hs).map dO) o4 o5 o6 o7 o8) p := by
    obtain ⟨l', q, e, rfl, o4, o5, o6, o7, o8, rfl⟩ := loop_run (tg := gset2 4 5) (body := L_next_bank_row_2 A)
      (fun (j : Nat) (l : Den.Loc) (q : List Int) => q = p ∧ ∃ o4 o5 o6 o7 o8, l = ST (((List.range j).map fun i =>
  leastO [bdueI (wb.dues[i]?.getD none), if wb.first[i]?.getD [] = [] then none else priceO (wb.marks[i]?.getD 0) (blowI wb r i) (hs[i]?.getD [] ++ [bhighI wb r i])]).map dO) o4 o5 o6 o7 o8)
      (ds := enumD 0 (wb.dues.map dDue)) (k := 0) (l := ST [] none none none none none) (p := p) ⟨rfl, none, none, none, none, none, rfl⟩ (fun i d l q hd hI => by
        obtain ⟨rfl, o4, o5, o6, o7, o8, rfl⟩ := hI
        rw [Nat.zero_add] at *
        obtain ⟨x, hx, rfl⟩ := enumD_at hd
        rw [List.getElem?_map] at hx
        obtain ⟨dx, hdx, rfl⟩ := Option.map_eq_some_iff.mp hx
        have hi : i < wb.marks.length := by rw [← l3]; exact (List.getElem?_eq_some_iff.mp hdx).1
        obtain ⟨o6', o7', o8', e⟩ := turn1 i hi ((((List.range i).map fun i =>
  leastO [bdueI (wb.dues[i]?.getD none), if wb.first[i]?.getD [] = [] then none else priceO (wb.marks[i]?.getD 0) (blowI wb r i) (hs[i]?.getD [] ++ [bhighI wb r i])]).map dO)) o6 o7 o8 (by simp; omega)
        have ed : wb.dues[i]?.getD none = dx := by rw [hdx]; rfl
        have e0 : ∀ X, ((ST X o4 o5 o6 o7 o8).set 4 (some (.dat (.int ((0 + i : Nat) : Int))))).set 5 (some (.dat (dDue dx))) = ST X (dd (.int (i : Int))) (dd (dDue (wb.dues[i]?.getD none))) o6 o7 o8 := fun X => by
          subst hST
          rw [ed, Nat.zero_add]
          rfl
        refine ⟨_, gset2_lt (by subst hST; simp) (by subst hST; simp), _, _, .inl (by rw [e0]; exact e), rfl, dd (.int (i : Int)), dd (dDue (wb.dues[i]?.getD none)), o6', o7', o8', ?_⟩
        rw [List.range_succ, List.map_append, List.map_append]
        rfl)
    refine ⟨o4, o5, o6, o7, o8, ?_⟩
    unfold b_next_bank_row_2
    subst hST
    simp only [sfor_ev, mbind_ev, acons_ev, mfld_ev, mvar, List.getElem?_cons_zero, bind_ok, f_dues, mlift_some, anil_ev, enumS, tupOf, seqOf, toO_ok, Option.map_some]
    rw [Nat.zero_add, enumD_len, List.length_map, l3] at e
    exact e
  obtain ⟨o4, o5, o6, o7, o8, hloop⟩ := hloop
  unfold D_next_bank_row
  rw [denF_ev (by rfl)]
  show outR (dn_next_bank_row A [dd (insW A wb), dd (tO r), dd (.lst (hs.map lO)), none, none, none, none, none, none] p) = _
  subst hST
  unfold dn_next_bank_row
  rw [seq_nx (l' := [dd (insW A wb), dd (tO r), dd (.lst (hs.map lO)), some (.cell []), none, none, none, none, none]) (p' := p) (by simp), seq_nx hloop]
  simp [b_next_bank_row_3, sgive, mvar, tO]
end
end PL
namespace PL
open PySem L2 Den
section
variable (A : CA) {wb : Wb}
end
end PL
namespace PL
open PySem L2 Den
section
variable (wb : Wb)
/-- whether the stand may stay in z -/
def keepB (z : Nat → Bool) (i : Nat) : Bool := ((wb.first[i]?.getD []).all fun x => z x.toNat) && ((wb.first[i]?.getD []).isEmpty || decide (wb.marks[i]?.getD 0 = 1) || (wb.second[i]?.getD []).any fun x => z x.toNat)
def noDue (i : Nat) : Bool := (wb.dues[i]?.getD none).isNone
structure Stays (z : Nat → Bool) : Prop where
  sub : ∀ i < wb.marks.length, z i = true → noDue wb i = true
  keep : ∀ i < wb.marks.length, z i = true → keepB wb z i = true
end
section
variable {wb : Wb}
theorem keepB_mono (V : Valid wb) {z y : Nat → Bool} (h : ∀ i < wb.marks.length, z i = true → y i = true) {i : Nat} (hi : i < wb.marks.length) (hk : keepB wb z i = true) : keepB wb y i = true := by
  obtain ⟨f, s, mk, hH⟩ := here_ex V (i := (i : Int)) (by omega) (by omega)
  have e1 := hH.hf
  have e2 := hH.hs
  rw [Int.toNat_natCast] at e1 e2
  unfold keepB at hk ⊢
  rw [e1, e2] at hk ⊢
  simp only [Option.getD_some, Bool.and_eq_true, List.all_eq_true, Bool.or_eq_true, List.any_eq_true] at hk ⊢
  refine ⟨fun x hx => h _ (by have := hH.fin V x hx; omega) (hk.1 x hx), ?_⟩
  rcases hk.2 with h2 | ⟨x, hx, h2⟩
  · exact .inl h2
  · exact .inr ⟨x, hx, h _ (by have := hH.sin V x hx; omega) h2⟩
theorem keepB_congr (V : Valid wb) {z y : Nat → Bool} (h : ∀ i < wb.marks.length, z i = y i) {i : Nat} (hi : i < wb.marks.length) : keepB wb z i = keepB wb y i := by
  cases e : keepB wb z i with
  | true => exact (keepB_mono V (fun j hj hz => by rw [← h j hj]; exact hz) hi e).symm
  | false =>
    cases e2 : keepB wb y i with
    | false => rfl
    | true =>
      have := keepB_mono V (z := y) (y := z) (fun j hj hz => by rw [h j hj]; exact hz) hi e2
      rw [e] at this; cases this
/-- one set is the greatest -/
structure Greatest (wb : Wb) (z : Nat → Bool) : Prop where
  stays : Stays wb z
  most : ∀ y, Stays wb y → ∀ i < wb.marks.length, y i = true → z i = true
theorem Greatest.uniq {z y : Nat → Bool} (a : Greatest wb z) (b : Greatest wb y) : setI wb.marks.length z = setI wb.marks.length y := setI_congr fun i hi => by
  cases e : z i with
  | true => exact (b.most z a.stays i hi e).symm
  | false =>
    cases e2 : y i with
    | false => rfl
    | true => have := a.most y b.stays i hi e2; rw [e] at this; cases this
def cntB (n : Nat) (z : Nat → Bool) : Nat := (setI n z).length
theorem cntB_eq (n : Nat) (z : Nat → Bool) : cntB n z = ((List.range n).filter z).length := by simp [cntB, setI]
theorem cntB_le {n : Nat} {z y : Nat → Bool} (h : ∀ i < n, z i = true → y i = true) : cntB n z ≤ cntB n y ∧ ((∃ i, i < n ∧ y i = true ∧ z i = false) → cntB n z < cntB n y) := by
  rw [cntB_eq, cntB_eq]
  have := cnt_le h
  exact ⟨this.1, fun ⟨i, hi, h1, h2⟩ => this.2 i hi h1 h2⟩
def stepB (wb : Wb) (z : Nat → Bool) (i : Nat) : Bool := z i && keepB wb z i
theorem stepB_above (V : Valid wb) {y z : Nat → Bool} (hy : Stays wb y) (h : ∀ i < wb.marks.length, y i = true → z i = true) : ∀ i < wb.marks.length, y i = true → stepB wb z i = true := fun i hi e => by
  unfold stepB
  rw [h i hi e, keepB_mono V h hi (hy.keep i hi e)]
  rfl
theorem stepB_same {z : Nat → Bool} (h : cntB wb.marks.length (stepB wb z) = cntB wb.marks.length z) : ∀ i < wb.marks.length, z i = true → keepB wb z i = true := fun i hi e => by
  cases hk : keepB wb z i with
  | true => rfl
  | false =>
    have := (cntB_le (n := wb.marks.length) (z := stepB wb z) (y := z) fun j _ hz => by
      unfold stepB at hz
      rw [Bool.and_eq_true] at hz
      exact hz.1).2 ⟨i, hi, e, by unfold stepB; rw [hk]; simp⟩
    omega
def dkI (ns : List Int) : List (Key × V) := ns.map fun n => (Sum.inl n, V.bl true)
end
theorem keysI_dk : ∀ ns : List Int, keysI (dkI ns) = some ns
  | [] => rfl
  | n :: ns => by
    show (keysI (dkI ns)).map (n :: ·) = _
    rw [keysI_dk ns]
    rfl
theorem dkI_len (ns : List Int) : (dkI ns).length = ns.length := by simp [dkI]
theorem valV_dk (x : Int) : ∀ ns : List Int, (valV (dkI ns) (Sum.inl x)).isSome = decide (x ∈ ns)
  | [] => rfl
  | n :: ns => by
    by_cases h : n = x
    · subst h
      have : valV (dkI (n :: ns)) (Sum.inl n) = some (V.bl true) := valV_pos rfl
      rw [this]; simp
    · have hn : ¬ ((Sum.inl n : Key) = Sum.inl x) := fun z => h (Sum.inl.inj z)
      have : valV (dkI (n :: ns)) (Sum.inl x) = valV (dkI ns) (Sum.inl x) := valV_neg hn
      rw [this, valV_dk x ns]
      have : ¬ x = n := fun z => h z.symm
      simp [this]
theorem putK_dk {ns : List Int} {x : Int} (h : x ∉ ns) : putK (dkI ns) (Sum.inl x) (V.bl true) = dkI (ns ++ [x]) := by
  have e : ((dkI ns).any fun kv => decide (kv.1 = Sum.inl x)) = false := by
    rw [List.any_eq_false]
    intro kv hkv
    obtain ⟨n, hn, rfl⟩ := List.mem_map.mp hkv
    have : ¬ ((Sum.inl n : Key) = Sum.inl x) := fun z => h (by rw [← Sum.inl.inj z]; exact hn)
    simpa using this
  unfold putK
  rw [e]
  simp [dkI]
theorem in_dk (x : Int) (ns : List Int) : fInDc false (.int x) (.dct (dkI ns)) = some (.bl (decide (x ∈ ns))) := by
  show some (D.bl (valV (dkI ns) (Sum.inl x)).isSome) = _
  rw [valV_dk]
theorem nin_dk (x : Int) (ns : List Int) : fInDc true (.int x) (.dct (dkI ns)) = some (.bl (!decide (x ∈ ns))) := by
  show some (D.bl (!(valV (dkI ns) (Sum.inl x)).isSome)) = _
  rw [valV_dk]
theorem dcomp_filt {i : Nat} {t : M Bool} {k v : M D} {l : Den.Loc} (hi : i < l.length) (b : Int → Bool) {p : List Int} (hk : ∀ x : Int, k (l.set i (some (.dat (.int x)))) p = .ok (.int x) p) (hv : ∀ x : Int, v (l.set i (some (.dat (.int x)))) p = .ok (.bl true) p) :
    ∀ (xs acc : List Int), (acc ++ xs).Pairwise (· < ·) → (∀ x ∈ xs, t (l.set i (some (.dat (.int x)))) p = .ok (b x) p) → dcomp i t k v (xs.map .int) (dkI acc) l p = .ok (.dct (dkI (acc ++ xs.filter b))) p
  | [], acc, _, _ => by
    show R.ok (D.dct (dkI acc)) p = _
    simp
  | x :: xs, acc, hp, ht => by
    show dcomp i t k v (.int x :: xs.map .int) (dkI acc) l p = _
    unfold dcomp
    rw [if_pos hi]
    unfold dturn
    rw [mbind_ok (ht x List.mem_cons_self)]
    cases hb : b x with
    | false =>
      rw [if_neg Bool.false_ne_true]
      simp only [mret_ev]
      rw [dcomp_filt hi b hk hv xs acc (by
        refine hp.sublist ?_
        exact List.Sublist.append_left (List.sublist_cons_self x xs) acc) fun y hy => ht y (List.mem_cons_of_mem _ hy)]
      simp [hb]
    | true =>
      rw [if_pos rfl, mbind_ok (hk x), mbind_ok (hv x)]
      have hx : x ∉ acc := fun z => by
        have := (List.pairwise_append.mp hp).2.2 x z x List.mem_cons_self
        omega
      show dcomp i t k v (xs.map .int) (putK (dkI acc) (Sum.inl x) (V.bl true)) l p = _
      rw [putK_dk hx, dcomp_filt hi b hk hv xs (acc ++ [x]) (by simpa using hp) fun y hy => ht y (List.mem_cons_of_mem _ hy)]
      simp [hb]
theorem mdc_ev {a : M (List D)} {i : Nat} {t : M Bool} {k v : M D} {l : Den.Loc} {p p' : List Int} {ds : List D} (ha : a l p = .ok ds p') (hl : ds.length ≤ 1000) : mdc a i t k v l p = dcomp i t k v ds [] l p' := by
  unfold mdc
  rw [mbind_ok ha, if_pos hl]
theorem rngD_map (n : Nat) : rngD 0 n = (setI n fun _ => true).map .int := by
  have : (List.range n).filter (fun _ => true) = List.range n := List.filter_eq_self.mpr fun _ _ => rfl
  unfold rngD setI
  rw [this, List.map_map]
  simp [Function.comp_def]
theorem setI_asc (n : Nat) (b : Nat → Bool) : (setI n b).Pairwise (· < ·) := asc_range n b
theorem sortW_id {ns : List Int} (h : ns.Pairwise (· < ·)) : sortW ns = ns := asc_perm (sortW_perm ns) (sortW_asc ns) (h.imp fun h => Int.le_of_lt h)
/-- a loop that hands r back at the first item that fits -/
theorem loop_first {i : Nat} {body : MS} (F : Option L → Den.Loc) {p : List Int} {r : D} (hF : ∀ o d, gset i d (F o) = some (F (some (.dat d)))) (b : Int → Bool) : ∀ (xs : List Int), (∀ x ∈ xs, body (F (some (.dat (.int x)))) p = if b x = true then .rt r p else .nx (F (some (.dat (.int x)))) p) → ∀ o,
    (xs.any b = true ∧ loop (gset i) body (xs.map .int) (F o) p = .rt r p) ∨ (xs.any b = false ∧ ∃ o', loop (gset i) body (xs.map .int) (F o) p = .nx (F o') p)
  | [], _, o => .inr ⟨rfl, o, rfl⟩
  | x :: xs, h, o => by
    have hx := h x List.mem_cons_self
    cases hb : b x with
    | true =>
      rw [if_pos hb] at hx
      refine .inl ⟨by simp [hb], ?_⟩
      show loop (gset i) body (.int x :: xs.map .int) (F o) p = _
      unfold loop
      rw [hF]
      simp only [hx]
    | false =>
      rw [if_neg (by rw [hb]; exact Bool.false_ne_true)] at hx
      rcases loop_first F hF b xs (fun y hy => h y (List.mem_cons_of_mem _ hy)) (some (.dat (.int x))) with ⟨h1, e⟩ | ⟨h1, o', e⟩
      · refine .inl ⟨by simp [h1], ?_⟩
        show loop (gset i) body (.int x :: xs.map .int) (F o) p = _
        unfold loop
        rw [hF]
        simp only [hx]
        exact e
      · refine .inr ⟨by simp [hb, h1], o', ?_⟩
        show loop (gset i) body (.int x :: xs.map .int) (F o) p = _
        unfold loop
        rw [hF]
        simp only [hx]
        exact e
theorem any_sort (b : Int → Bool) (s : List Int) : (sortSet s).any b = s.any b := by
  cases e : s.any b with
  | true =>
    rw [List.any_eq_true] at e ⊢
    obtain ⟨x, hx, hb⟩ := e
    exact ⟨x, mem_sortSet.mpr hx, hb⟩
  | false =>
    rw [List.any_eq_false] at e ⊢
    intro x hx
    exact e x (mem_sortSet.mp hx)
theorem mem_setI_in {n : Nat} {z : Nat → Bool} {x : Int} (h0 : 0 ≤ x) (h1 : x < n) : decide (x ∈ setI n z) = z x.toNat := by
  obtain ⟨i, rfl⟩ := Int.eq_ofNat_of_zero_le h0
  rw [Int.toNat_natCast]
  cases h : z i with
  | true => exact decide_eq_true (setI_nat.mpr ⟨by omega, h⟩)
  | false =>
    refine decide_eq_false fun hm => ?_
    have := (setI_nat.mp hm).2
    rw [h] at this
    cases this
section
variable (A : CA) {wb : Wb}
theorem stays_off_ev (V : Valid wb) (z : Nat → Bool) {i : Nat} (hi : i < wb.marks.length) (p : List Int) : D_stays_off A [insW A wb, .int (i : Int), .dct (dkI (setI wb.marks.length z))] p = .ok (.bl (keepB wb z i)) p := by
  obtain ⟨f, s, mk, h⟩ := here_ex V (i := (i : Int)) (by omega) (by omega)
  have n2 := V.n2
  have e1 := h.hf
  have e2 := h.hs
  have e3 := h.hm
  rw [Int.toNat_natCast] at e1 e2 e3
  have g1 : atI (wb.first.map dS) (i : Int) = some (dS f) := h.f1
  have g2 : atI (wb.second.map dS) (i : Int) = some (dS s) := h.s1
  have g3 : atI (wb.marks.map D.int) (i : Int) = some (.int mk) := h.m1
  have kf : ∀ x ∈ f, decide (x ∈ setI wb.marks.length z) = z x.toNat := fun x hx => by
    have := h.fin V x hx
    exact mem_setI_in this.1 this.2
  have ks : ∀ x ∈ s, decide (x ∈ setI wb.marks.length z) = z x.toNat := fun x hx => by
    have := h.sin V x hx
    exact mem_setI_in this.1 this.2
  have hk : keepB wb z i = (!(f.any fun x => !z x.toNat) && (f.isEmpty || decide (mk = 1) || s.any fun x => z x.toNat)) := by
    unfold keepB
    rw [e1, e2, e3]
    simp [List.all_eq_not_any_not]
  rw [hk]
  generalize setI wb.marks.length z = S at kf ks ⊢
  unfold D_stays_off
  rw [denF_ev (by rfl)]
  show outR (dn_stays_off A [dd (insW A wb), dd (.int (i : Int)), dd (.dct (dkI S)), none] p) = _
  have L1 := loop_first (i := 3) (body := L_stays_off_1) (r := .bl false) (fun o => [dd (insW A wb), dd (.int (i : Int)), dd (.dct (dkI S)), o]) (p := p) (fun _ _ => rfl) (fun x => !z x.toNat) (sortSet f) (fun x hx => by
    have hx' := mem_sortSet.mp hx
    have e := nin_dk x S
    rw [kf x hx'] at e
    cases hz : z x.toNat <;> simp [L_stays_off_1, mvar, e, hz]) none
  rw [any_sort] at L1
  have B1 : b_stays_off_1 A [dd (insW A wb), dd (.int (i : Int)), dd (.dct (dkI S)), none] p = loop (gset 3) L_stays_off_1 ((sortSet f).map .int) [dd (insW A wb), dd (.int (i : Int)), dd (.dct (dkI S)), none] p := by
    simp [b_stays_off_1, mvar, g1, dS]
  unfold dn_stays_off
  rcases L1 with ⟨a1, L1⟩ | ⟨a1, o', L1⟩
  · rw [a1]
    have := B1.trans L1
    simp [this]
  · rw [a1, seq_nx (B1.trans L1)]
    have ht : truOf (dS f) = some (!f.isEmpty) := by
      rw [← sortSet_nil (ss := f)]
      unfold dS
      cases sortSet f <;> rfl
    by_cases c : (f.isEmpty || decide (mk = 1)) = true
    · have B2 : b_stays_off_2 A [dd (insW A wb), dd (.int (i : Int)), dd (.dct (dkI S)), o'] p = .rt (.bl true) p := by
        rw [Bool.or_eq_true] at c
        rcases c with c | c
        · simp [b_stays_off_2, mvar, g1, ht, c]
        · have c' : mk = 1 := of_decide_eq_true c
          cases hf : f.isEmpty <;> simp [b_stays_off_2, mvar, g1, g3, ht, hf, c']
      rw [c]
      simp [B2]
    · have c1 : f.isEmpty = false := by cases hf : f.isEmpty with
        | true => rw [hf] at c; exact absurd rfl c
        | false => rfl
      have c2 : ¬ mk = 1 := fun w => c (by rw [c1, w]; rfl)
      have B2 : b_stays_off_2 A [dd (insW A wb), dd (.int (i : Int)), dd (.dct (dkI S)), o'] p = .nx [dd (insW A wb), dd (.int (i : Int)), dd (.dct (dkI S)), o'] p := by
        simp [b_stays_off_2, mvar, g1, g3, ht, c1, c2]
      rw [seq_nx B2]
      have L3 := loop_first (i := 3) (body := L_stays_off_3) (r := .bl true) (fun o => [dd (insW A wb), dd (.int (i : Int)), dd (.dct (dkI S)), o]) (p := p) (fun _ _ => rfl) (fun x => z x.toNat) (sortSet s) (fun x hx => by
        have hx' := mem_sortSet.mp hx
        have e := in_dk x S
        rw [ks x hx'] at e
        cases hz : z x.toNat <;> simp [L_stays_off_3, mvar, e, hz]) o'
      rw [any_sort] at L3
      have B3 : b_stays_off_3 A [dd (insW A wb), dd (.int (i : Int)), dd (.dct (dkI S)), o'] p = loop (gset 3) L_stays_off_3 ((sortSet s).map .int) [dd (insW A wb), dd (.int (i : Int)), dd (.dct (dkI S)), o'] p := by
        simp [b_stays_off_3, mvar, g2, dS]
      rw [c1, decide_eq_false c2]
      rcases L3 with ⟨a3, L3⟩ | ⟨a3, o3, L3⟩
      · have := B3.trans L3
        rw [a3]
        simp [this]
      · have := B3.trans L3
        rw [a3, seq_nx this]
        simp
abbrev SK (A : CA) (wb : Wb) (z : Nat → Bool) (o2 : Option L) (s : Int) : Den.Loc := [dd (insW A wb), dd (.dct (dkI (setI wb.marks.length z))), o2, dd (.int s)]
theorem kept_while (V : Valid wb) (p : List Int) : ∀ (m : Nat) (z : Nat → Bool) (s : Int), cntB wb.marks.length z < m → (∀ i < wb.marks.length, z i = true → noDue wb i = true) → (∀ y, Stays wb y → ∀ i < wb.marks.length, y i = true → z i = true) → (s = cntB wb.marks.length z → ∀ i < wb.marks.length, z i = true → keepB wb z i = true) →
    ∃ z' s', whileN (mtest (op2 fNe (mvar 3) (opn fLenDc (acons (mvar 1) anil)))) (W_kept_off_4 A) (m + 1) (SK A wb z none s) p = .nx (SK A wb z' none s') p ∧ Greatest wb z'
  | 0, z, s, h, _, _, _ => absurd h (Nat.not_lt_zero _)
  | m + 1, z, s, h, hd, ha, hk => by
    have n2 := V.n2
    have eT : mtest (op2 fNe (mvar 3) (opn fLenDc (acons (mvar 1) anil))) (SK A wb z none s) p = .ok (!decide (s = (cntB wb.marks.length z : Int))) p := by
      have : fLenDc [.dct (dkI (setI wb.marks.length z))] = some (.int (cntB wb.marks.length z : Int)) := by
        show some (D.int ((dkI (setI wb.marks.length z)).length : Int)) = _
        rw [dkI_len]; rfl
      simp [mvar, this]
    by_cases c : s = (cntB wb.marks.length z : Int)
    · refine ⟨z, s, ?_, ⟨⟨hd, hk c⟩, ha⟩⟩
      rw [decide_eq_true c] at eT
      unfold whileN
      unfold sbind
      rw [eT]
      rfl
    · rw [decide_eq_false c] at eT
      have B1 : b_kept_off_4w1 (SK A wb z none s) p = .nx (SK A wb z none (cntB wb.marks.length z)) p := by
        have : fLenDc [.dct (dkI (setI wb.marks.length z))] = some (.int (cntB wb.marks.length z : Int)) := by
          show some (D.int ((dkI (setI wb.marks.length z)).length : Int)) = _
          rw [dkI_len]; rfl
        simp [b_kept_off_4w1, mvar, this]
      have K2 : k_kept_off_2 A (SK A wb z none (cntB wb.marks.length z)) p = .ok (.dct (dkI (setI wb.marks.length (stepB wb z)))) p := by
        have sl := setI_len wb.marks.length z
        unfold k_kept_off_2
        rw [mdc_ev (ds := (setI wb.marks.length z).map .int) (p' := p) (by simp [mvar, keysOf, keysI_dk]) (by rw [List.length_map]; omega)]
        have := dcomp_filt (i := 2) (t := (mtru (mcall (D_stays_off A) (acons (mvar 0) (acons (mvar 2) (acons (mvar 1) anil)))))) (k := mvar 2) (v := mret (D.bl true)) (l := SK A wb z none (cntB wb.marks.length z)) (p := p) (by simp) (fun x => keepB wb z x.toNat) (fun x => by simp [mvar]) (fun x => by simp) (setI wb.marks.length z) [] (by simpa using setI_asc _ z) (fun x hx => by
          obtain ⟨i, hi, _, rfl⟩ := setI_mem.mp hx
          have := stays_off_ev A V z hi p
          simp [mvar, this])
        rw [List.nil_append, setI_filter wb.marks.length z (keepB wb z) _ (fun i hi hz => by simp)] at this
        exact this
      have B : W_kept_off_4 A (SK A wb z none s) p = .nx (SK A wb (stepB wb z) none (cntB wb.marks.length z)) p := by
        unfold W_kept_off_4
        rw [seq_nx B1]
        simp [K2]
      have le := cntB_le (n := wb.marks.length) (z := stepB wb z) (y := z) fun j _ hz => by
        unfold stepB at hz
        rw [Bool.and_eq_true] at hz
        exact hz.1
      have step : whileN (mtest (op2 fNe (mvar 3) (opn fLenDc (acons (mvar 1) anil)))) (W_kept_off_4 A) (m + 1 + 1) (SK A wb z none s) p = whileN (mtest (op2 fNe (mvar 3) (opn fLenDc (acons (mvar 1) anil)))) (W_kept_off_4 A) (m + 1) (SK A wb (stepB wb z) none (cntB wb.marks.length z)) p := by
        rw [whileN]
        unfold sbind
        rw [eT]
        simp only [Bool.not_false, if_true, B]
      have hd' : ∀ i < wb.marks.length, stepB wb z i = true → noDue wb i = true := fun i hi hz => hd i hi (by unfold stepB at hz; rw [Bool.and_eq_true] at hz; exact hz.1)
      have ha' : ∀ y, Stays wb y → ∀ i < wb.marks.length, y i = true → stepB wb z i = true := fun y hy => stepB_above V hy (ha y hy)
      have same : cntB wb.marks.length (stepB wb z) = cntB wb.marks.length z → ∀ i < wb.marks.length, stepB wb z i = true → keepB wb (stepB wb z) i = true := fun e i hi hz => by
        have kk := stepB_same (wb := wb) (z := z) e
        have eq : ∀ j < wb.marks.length, stepB wb z j = z j := fun j hj => by
          unfold stepB
          cases hzj : z j with
          | false => rfl
          | true => rw [kk j hj hzj]; rfl
        rw [keepB_congr V eq hi]
        exact kk i hi (by rw [← eq i hi]; exact hz)
      rw [step]
      by_cases c2 : cntB wb.marks.length (stepB wb z) = cntB wb.marks.length z
      · refine ⟨stepB wb z, (cntB wb.marks.length z : Int), ?_, ⟨⟨hd', same c2⟩, ha'⟩⟩
        have eT2 : mtest (op2 fNe (mvar 3) (opn fLenDc (acons (mvar 1) anil))) (SK A wb (stepB wb z) none (cntB wb.marks.length z)) p = .ok false p := by
          have : fLenDc [.dct (dkI (setI wb.marks.length (stepB wb z)))] = some (.int (cntB wb.marks.length z : Int)) := by
            show some (D.int ((dkI (setI wb.marks.length (stepB wb z))).length : Int)) = _
            rw [dkI_len, ← c2]; rfl
          simp [mvar, this]
        unfold whileN
        unfold sbind
        rw [eT2]
        rfl
      · exact kept_while V p m (stepB wb z) (cntB wb.marks.length z) (by omega) hd' ha' fun e => same (by omega)
theorem kept_off_ev (V : Valid wb) (p : List Int) : ∃ z, Greatest wb z ∧ D_kept_off A [insW A wb] p = .ok (tI (setI wb.marks.length z)) p := by
  have n2 := V.n2
  have l3 := V.l3
  have hrn := rngN (n := wb.marks.length) (by omega)
  have K1 : k_kept_off_1 A [dd (insW A wb), none, none, none] p = .ok (.dct (dkI (setI wb.marks.length (noDue wb)))) p := by
    have sl := setI_len wb.marks.length fun _ => true
    unfold k_kept_off_1
    rw [mdc_ev (ds := (setI wb.marks.length fun _ => true).map .int) (p' := p) (by rw [← rngD_map]; simp [mvar, hrn]) (by rw [List.length_map]; omega)]
    have := dcomp_filt (i := 2) (t := mtest (op2 fIsN (op2 fIx (mfld A.Web "_dues" (mvar 0)) (mvar 2)) (mret D.non))) (k := mvar 2) (v := mret (D.bl true)) (l := [dd (insW A wb), none, none, none]) (p := p) (by simp) (fun x => noDue wb x.toNat) (fun x => by simp [mvar]) (fun x => by simp) (setI wb.marks.length fun _ => true) [] (by simpa using setI_asc _ fun _ => true) (fun x hx => by
      obtain ⟨i, hi, _, rfl⟩ := setI_mem.mp hx
      have a := due_law V 0 hi p
      unfold noDue
      rw [Int.toNat_natCast]
      rcases e : wb.dues[i]?.getD none with _ | ⟨_ | _, x⟩ <;> rw [e] at a <;> simp [mvar, a, dDue, fIsN])
    rw [List.nil_append, setI_filter wb.marks.length (fun _ => true) (noDue wb) _ (fun i hi hz => by simp), setI_congr (c := noDue wb) fun _ _ => Bool.true_and _] at this
    exact this
  have hd0 : ∀ i < wb.marks.length, noDue wb i = true → noDue wb i = true := fun _ _ h => h
  obtain ⟨z, s, ew, hg⟩ := kept_while A V p (cntB wb.marks.length (noDue wb) + 1) (noDue wb) (-1) (Nat.lt_succ_self _) hd0 (fun y hy i hi h => hy.sub i hi h) (fun e => by omega)
  refine ⟨z, hg, ?_⟩
  have T4 : b_kept_off_4 A (SK A wb (noDue wb) none (-1)) p = .nx (SK A wb z none s) p := by
    unfold b_kept_off_4
    exact swhile_ev ew (fun w => nomatch w)
  have T1 : b_kept_off_1 A [dd (insW A wb), none, none, none] p = .nx [dd (insW A wb), none, none, none] p := by simp [b_kept_off_1, mvar, check_web_ok]
  have T2 : sasg (k_kept_off_1 A) (gset 1) [dd (insW A wb), none, none, none] p = .nx [dd (insW A wb), dd (.dct (dkI (setI wb.marks.length (noDue wb)))), none, none] p := by simp [K1]
  have T3 : sasg (op1 fNeg (mret (D.int 1))) (gset 3) [dd (insW A wb), dd (.dct (dkI (setI wb.marks.length (noDue wb)))), none, none] p = .nx (SK A wb (noDue wb) none (-1)) p := by simp
  have sl := setI_len wb.marks.length z
  have T5 : b_kept_off_5 (SK A wb z none s) p = .rt (tI (setI wb.marks.length z)) p := by
    have e : msortDc (acons (mvar 1) anil) (SK A wb z none s) p = .ok ((setI wb.marks.length z).map .int) p := by
      unfold msortDc
      rw [mbind_ok (x := [D.dct (dkI (setI wb.marks.length z))]) (q := p) (by simp [mvar])]
      simp only [keysI_dk, Option.bind_some]
      rw [if_pos (by omega), sortW_id (setI_asc _ z)]
      rfl
    simp [b_kept_off_5, e]
  unfold D_kept_off
  rw [denF_ev (by rfl)]
  show outR (dn_kept_off A [dd (insW A wb), none, none, none] p) = _
  unfold dn_kept_off
  rw [seq_nx T1, seq_nx T2, seq_nx T3, seq_nx T4, T5]
  rfl
end
end PL
namespace PL
open PySem L2 Den
section
variable {wb : Wb}
end
end PL
namespace PL
open PySem L2 Den
section
variable {wb : Wb}
def withD (wb : Wb) (ds : List Due) : Wb := { wb with dues := ds }
theorem withD_valid (V : Valid wb) {ds : List Due} (hl : ds.length = wb.marks.length) (h : ∀ d ∈ ds, d = none ∨ d ∈ wb.dues) : Valid (withD wb ds) :=
  ⟨V.n1, V.n2, V.l1, V.l2, hl, V.s1, V.s2, V.both, V.mks, fun d hd b x e => by
    rcases h d hd with r | r
    · rw [r] at e; cases e
    · exact V.du d r b x e⟩
end
end PL
namespace PL
open PySem L2 Den
section
variable {wb : Wb}
theorem gdI_nonneg (V : Valid wb) : ∀ d ∈ wb.dues, 0 ≤ gdI d := fun d hd => by
  rcases d with _ | ⟨b, x⟩
  · exact Int.le_refl _
  · exact (V.du _ hd b x rfl).1
theorem gdD_is (V : Valid wb) : ∃ g, gdD wb = .int g ∧ (∃ d ∈ wb.dues, g = gdI d) ∧ ∀ d ∈ wb.dues, gdI d ≤ g := by
  have n1 := V.n1
  have l3 := V.l3
  unfold gdD
  cases e2 : wb.dues.map gdI with
  | nil =>
    have h0 : wb.dues.length = 0 := by rw [← List.length_map (f := gdI), e2]; rfl
    omega
  | cons n ns =>
    refine ⟨maxL n ns, rfl, ?_, fun d hd => ?_⟩
    · have := maxL_mem ns n
      rw [← e2] at this
      obtain ⟨d, hd, e⟩ := List.mem_map.mp this
      exact ⟨d, hd, e.symm⟩
    · have h := le_maxL ns n
      have : gdI d ∈ n :: ns := by rw [← e2]; exact List.mem_map_of_mem hd
      rcases List.mem_cons.mp this with e | e
      · rw [e]; exact h.1
      · exact h.2 _ e
end
section
variable (A : CA) {wb : Wb}
end
end PL
namespace PL
open PySem L2 Den
@[simp] theorem f_gd (A : CA) (wb : Wb) : fFld A.Web "_greatest_due" (insW A wb) = some (gdD wb) := by
  unfold insW
  rw [fld_ins]
  refine (lk_ne (by decide +kernel)).trans ?_
  refine (lk_ne (by decide +kernel)).trans ?_
  refine (lk_ne (by decide +kernel)).trans ?_
  refine (lk_ne (by decide +kernel)).trans ?_
  refine (lk_ne (by decide +kernel)).trans ?_
  refine (lk_ne (by decide +kernel)).trans ?_
  refine (lk_ne (by decide +kernel)).trans ?_
  exact lk_eq
end PL
namespace PL
open PySem L2 Den
def pO : OI → PyData
  | none => .none
  | some i => .int i
theorem pdL_oi : ∀ r : List OI, pdL (r.map dO) = some (r.map pO)
  | [] => rfl
  | x :: r => by
    have h := pdL_oi r
    cases x <;> simp [pdL, pd, dO, pO, h]
theorem depth_oi : ∀ r : List OI, PyData.depthAll (r.map pO) ≤ 1
  | [] => by simp [PyData.depthAll]
  | x :: r => by
    have h := depth_oi r
    cases x <;> simp [PyData.depthAll, PyData.depth, pO] <;> omega
theorem eqvAll_oi : ∀ r s : List OI, PyData.eqvAll (r.map pO) (s.map pO) = decide (r = s)
  | [], [] => by simp [PyData.eqvAll]
  | [], _ :: _ => by simp [PyData.eqvAll]
  | _ :: _, [] => by simp [PyData.eqvAll]
  | x :: r, y :: s => by
    have h := eqvAll_oi r s
    simp only [List.map_cons, PyData.eqvAll, h]
    cases x with
    | none =>
      cases y with
      | none => by_cases e : r = s <;> simp [PyData.eqv, pO, e]
      | some j => simp [PyData.eqv, pO]
    | some i =>
      cases y with
      | none => simp [PyData.eqv, pO]
      | some j => by_cases e : r = s <;> by_cases e2 : i = j <;> simp [PyData.eqv, pO, e, e2]
theorem eqv_tO (r s : List OI) (neg : Bool) : fEqD neg (tO r) (tO s) = some (.bl (if neg then !decide (r = s) else decide (r = s))) := by
  have e : ∀ r : List OI, pd (tO r) = some (.tuple (r.map pO)) := fun r => by simp [tO, pd, pdL_oi]
  unfold fEqD
  rw [e, e]
  dsimp only
  have h1 := depth_oi r
  have h2 := depth_oi s
  rw [if_pos (by simp only [PyData.depth]; omega)]
  simp [PyData.eqv, eqvAll_oi]
def fixG {α : Type} [DecidableEq α] (g : α → α) : Nat → α → α
  | 0, r => r
  | n + 1, r => if g r = r then r else fixG g n (g r)
theorem mixc_int {i : Nat} {a : M D} {l : Den.Loc} {p q : List Int} {ds : List D} {j : Int} {d : D} (hc : l[i]? = some (some (.cell ds))) (ha : a l p = .ok (.int j) q) (hj : atI ds j = some d) : mixc i a l p = .ok d q := by
  unfold mixc
  have e : Den.cellOf i l = some ds := by unfold Den.cellOf; rw [hc]
  rw [e]
  show mbind a (fun k => mlift (ixk ds k)) l p = _
  rw [mbind_ok ha]
  show mlift (ixk ds (.int j)) l q = _
  have e2 : ixk ds (.int j) = some d := hj
  rw [e2]
  rfl
section
variable {wb : Wb}
def withI (wb : Wb) (hs : List (List OI)) (r : List OI) : List (List OI) := (List.range hs.length).map fun i => if wb.first[i]?.getD [] = [] then hs[i]?.getD [] else hs[i]?.getD [] ++ [bhighI wb r i]
theorem with_highs_ev (V : Valid wb) (A : CA) {r : List OI} (hl : r.length = wb.marks.length) {hs : List (List OI)} (H : HsOk wb hs 299) (p : List Int) : D_with_highs A [insW A wb, .lst (hs.map lO), tO r] p = .ok (.lst ((withI wb hs r).map lO)) p := by
  have n2 := V.n2
  have hlen := H.len
  have c1 : c_with_highs_1 A [dd (insW A wb), dd (.lst (hs.map lO)), dd (tO r), none, none] p = .ok ((withI wb hs r).map lO) p := by
    unfold c_with_highs_1
    rw [mcomp2_ev (ds := enumD 0 (hs.map lO)) (p' := p) (by simp [mvar, enum1]) (by rw [enumD_len, List.length_map]; omega)]
    rw [comp2_map (by simp) (by simp) lO (fun i => lO (if wb.first[i]?.getD [] = [] then hs[i]?.getD [] else hs[i]?.getD [] ++ [bhighI wb r i])) fun m h hm => ?_]
    · unfold withI; rw [List.map_map]; rfl
    · have hm1 : m < hs.length := (List.getElem?_eq_some_iff.mp hm).1
      have hm2 : m < wb.marks.length := by omega
      obtain ⟨f, s, mk, hh⟩ := here_ex V (i := (m : Int)) (by omega) (by omega)
      have ef : wb.first[m]?.getD [] = f := by have := hh.hf; simp at this; simp [this]
      have eh : hs[m]?.getD [] = h := by rw [hm]; rfl
      have hb := H.each h (List.mem_of_getElem? hm)
      rw [ef, eh]
      by_cases hne : f = []
      · have := hh.f1
        rw [hne] at this ⊢
        simp [mvar, this, sortSet]
      · have e2 := bank_high_ev V A hm2 (by rw [ef]; exact hne) hl p
        have ec := cat_lO h (bhighI wb r m) (by omega)
        have := sortSet_ne hne
        rw [if_neg hne]
        simp [mvar, hh.f1, this, e2, ec]
  unfold D_with_highs
  rw [denF_ev (by rfl)]
  show outR (dn_with_highs A [dd (insW A wb), dd (.lst (hs.map lO)), dd (tO r), none, none] p) = _
  simp [dn_with_highs, c1]
theorem withI_ok {hs : List (List OI)} {b : Nat} (H : HsOk wb hs b) (r : List OI) : HsOk wb (withI wb hs r) (b + 1) := by
  refine ⟨by simp [withI, H.len], fun h hh => ?_⟩
  obtain ⟨i, hi, rfl⟩ := List.mem_map.mp hh
  have hi := List.mem_range.mp hi
  have e : hs[i]?.getD [] = hs[i] := by simp [hi]
  have := H.each hs[i] (List.getElem_mem hi)
  rw [e]
  split
  · exact ⟨this.1, by omega⟩
  · exact ⟨by simp, by simp; omega⟩
/-- the rows of the rounds from r on -/
theorem rounds_loop (V : Valid wb) (A : CA) {hs : List (List OI)} (H : HsOk wb hs 300) (p : List Int) (o3 : Option L) : ∀ (n : Nat) (r : List OI) (X : List D), r.length = wb.marks.length → X.length + n + 2 ≤ 999 → nextO wb (fixG (fun r => nextO wb r hs) n r) hs = fixG (fun r => nextO wb r hs) n r →
    ∃ X', (X' ++ [tO (fixG (fun r => nextO wb r hs) n r)]).length ≤ 1000 ∧ whileN (mtest (op2 (fEqD true) (mvar 4) (mixc 2 (op1 fNeg (mret (D.int 1)))))) (W_rounds_by_highs_3 A) (n + 2) [dd (insW A wb), dd (.lst (hs.map lO)), some (.cell (X ++ [tO r])), o3, dd (tO (nextO wb r hs))] p = .nx [dd (insW A wb), dd (.lst (hs.map lO)), some (.cell (X' ++ [tO (fixG (fun r => nextO wb r hs) n r)])), o3, dd (tO (fixG (fun r => nextO wb r hs) n r))] p := by
  have T : ∀ (r : List OI) (X : List D), mtest (op2 (fEqD true) (mvar 4) (mixc 2 (op1 fNeg (mret (D.int 1))))) [dd (insW A wb), dd (.lst (hs.map lO)), some (.cell (X ++ [tO r])), o3, dd (tO (nextO wb r hs))] p = .ok (!decide (nextO wb r hs = r)) p := fun r X => by
    have ex : atI (X ++ [tO r]) (-1) = some (tO r) := atI_last (by simp)
    have em : mixc 2 (op1 fNeg (mret (D.int 1))) [dd (insW A wb), dd (.lst (hs.map lO)), some (.cell (X ++ [tO r])), o3, dd (tO (nextO wb r hs))] p = .ok (tO r) p := mixc_int rfl rfl ex
    simp only [mtest_ev, op2_ev, em, mvar, List.getElem?_cons_succ, List.getElem?_cons_zero, bind_ok, eqv_tO, mlift_some, boolOf_bl, if_true]
  have B : ∀ (r : List OI) (X : List D), r.length = wb.marks.length → X.length + 2 ≤ 999 → W_rounds_by_highs_3 A [dd (insW A wb), dd (.lst (hs.map lO)), some (.cell (X ++ [tO r])), o3, dd (tO (nextO wb r hs))] p = .nx [dd (insW A wb), dd (.lst (hs.map lO)), some (.cell ((X ++ [tO r]) ++ [tO (nextO wb r hs)])), o3, dd (tO (nextO wb (nextO wb r hs) hs))] p := fun r X hr hX => by
    have e := next_bank_row_ev V A (r := nextO wb r hs) (nextO_len wb r hs) H p
    unfold W_rounds_by_highs_3
    have h1 : sappend 2 (mvar 4) [dd (insW A wb), dd (.lst (hs.map lO)), some (.cell (X ++ [tO r])), o3, dd (tO (nextO wb r hs))] p = .nx [dd (insW A wb), dd (.lst (hs.map lO)), some (.cell ((X ++ [tO r]) ++ [tO (nextO wb r hs)])), o3, dd (tO (nextO wb r hs))] p := by
      rw [sappend_ev (ds := X ++ [tO r]) (by rfl) (by simp; omega)]
      simp [mvar]
    rw [seq_nx h1]
    simp [b_rounds_by_highs_3w2, mvar, e]
  intro n
  induction n with
  | zero =>
    intro r X hr hX hf
    have hf' : nextO wb r hs = r := hf
    refine ⟨X, by simp; omega, ?_⟩
    show sbind _ _ _ _ = _
    rw [sbind_ev, T]
    simp [hf', fixG]
  | succ n ih =>
    intro r X hr hX hf
    by_cases c : nextO wb r hs = r
    · have e : fixG (fun r => nextO wb r hs) (n + 1) r = r := if_pos c
      rw [e]
      refine ⟨X, by simp; omega, ?_⟩
      show sbind _ _ _ _ = _
      rw [sbind_ev, T]
      simp [c]
    · have e : fixG (fun r => nextO wb r hs) (n + 1) r = fixG (fun r => nextO wb r hs) n (nextO wb r hs) := if_neg c
      rw [e] at hf ⊢
      obtain ⟨X', h1, h2⟩ := ih (nextO wb r hs) (X ++ [tO r]) (nextO_len wb r hs) (by simp; omega) hf
      refine ⟨X', h1, ?_⟩
      show sbind _ _ _ _ = _
      rw [sbind_ev, T]
      simp only [toO_ok, c, decide_false, Bool.not_false, if_true]
      rw [B r X hr (by omega)]
      exact h2
def dues0 (wb : Wb) : List OI := wb.dues.map bdueI
theorem rounds_by_highs_ev (V : Valid wb) (A : CA) {hs : List (List OI)} (H : HsOk wb hs 300) {n : Nat} (hn : n ≤ 900) (hf : nextO wb (fixG (fun r => nextO wb r hs) n (dues0 wb)) hs = fixG (fun r => nextO wb r hs) n (dues0 wb)) (p : List Int) :
    ∃ X, D_rounds_by_highs A [insW A wb, .lst (hs.map lO)] p = .ok (.lst (X ++ [tO (fixG (fun r => nextO wb r hs) n (dues0 wb))])) p := by
  have n2 := V.n2
  have l3 := V.l3
  have hl0 : (dues0 wb).length = wb.marks.length := by simp [dues0, l3]
  have c1 : c_rounds_by_highs_1 A [dd (insW A wb), dd (.lst (hs.map lO)), none, none, none] p = .ok ((dues0 wb).map dO) p := by
    unfold c_rounds_by_highs_1
    rw [mcomp_ev (ds := wb.dues.map dDue) (p' := p) (by simp [mvar]) (by rw [List.length_map]; omega)]
    rw [comp_mapL (by simp) dDue (fun d => dO (bdueI d)) (fun d _ => by simp [mvar, bank_due_ev])]
    simp [dues0, List.map_map, Function.comp_def]
  have T1 : b_rounds_by_highs_1 A [dd (insW A wb), dd (.lst (hs.map lO)), none, none, none] p = .nx [dd (insW A wb), dd (.lst (hs.map lO)), some (.cell [tO (dues0 wb)]), none, none] p := by
    simp [b_rounds_by_highs_1, c1, tO]
  have T2 : b_rounds_by_highs_2 A [dd (insW A wb), dd (.lst (hs.map lO)), some (.cell [tO (dues0 wb)]), none, none] p = .nx [dd (insW A wb), dd (.lst (hs.map lO)), some (.cell [tO (dues0 wb)]), none, dd (tO (nextO wb (dues0 wb) hs))] p := by
    have e := next_bank_row_ev V A hl0 H p
    have em : mixc 2 (mret (D.int 0)) [dd (insW A wb), dd (.lst (hs.map lO)), some (.cell [tO (dues0 wb)]), none, none] p = .ok (tO (dues0 wb)) p := mixc_int rfl rfl (by simp)
    simp [b_rounds_by_highs_2, mvar, em, e]
  obtain ⟨X, h1, h2⟩ := rounds_loop V A H p none n (dues0 wb) [] hl0 (by simp; omega) hf
  refine ⟨X, ?_⟩
  unfold D_rounds_by_highs
  rw [denF_ev (by rfl)]
  show outR (dn_rounds_by_highs A [dd (insW A wb), dd (.lst (hs.map lO)), none, none, none] p) = _
  unfold dn_rounds_by_highs
  rw [seq_nx T1, seq_nx T2]
  have T3 : b_rounds_by_highs_3 A [dd (insW A wb), dd (.lst (hs.map lO)), some (.cell [tO (dues0 wb)]), none, dd (tO (nextO wb (dues0 wb) hs))] p = .nx [dd (insW A wb), dd (.lst (hs.map lO)), some (.cell (X ++ [tO (fixG (fun r => nextO wb r hs) n (dues0 wb))])), none, dd (tO (fixG (fun r => nextO wb r hs) n (dues0 wb)))] p := swhile_ev h2 (by simp)
  rw [seq_nx T3]
  simp [sgive, mvar]
/-- the table: the highs ahead of each b, the row of each b (n turns at most) -/
def hs0 (wb : Wb) : List (List OI) := (List.range wb.marks.length).map fun _ => [some 0]
def rowB (wb : Wb) (n : Nat) (hs : List (List OI)) : List OI := fixG (fun r => nextO wb r hs) n (dues0 wb)
def hsB (wb : Wb) (n : Nat) : Nat → List (List OI)
  | 0 => hs0 wb
  | b + 1 => withI wb (hsB wb n b) (rowB wb n (hsB wb n b))
def tabB (wb : Wb) (n b : Nat) : List OI := rowB wb n (hsB wb n b)
theorem hsB_ok (wb : Wb) (n : Nat) : ∀ b, HsOk wb (hsB wb n b) (b + 1)
  | 0 => ⟨by simp [hsB, hs0], fun h hh => by
    obtain ⟨_, _, rfl⟩ := List.mem_map.mp (show h ∈ hs0 wb from hh)
    exact ⟨by simp, by simp⟩⟩
  | b + 1 => withI_ok (hsB_ok wb n b) _
theorem fixG_inv {α : Type} [DecidableEq α] {g : α → α} (I : α → Prop) (hI : ∀ r, I r → I (g r)) : ∀ (n : Nat) (r : α), I r → I (fixG g n r)
  | 0, _, h => h
  | n + 1, r, h => by
    unfold fixG
    split
    · exact h
    · exact fixG_inv I hI n _ (hI r h)
theorem rowB_len (V : Valid wb) (n : Nat) (hs : List (List OI)) : (rowB wb n hs).length = wb.marks.length :=
  fixG_inv (fun r => r.length = wb.marks.length) (fun r _ => nextO_len wb r hs) n _ (by have := V.l3; simp [dues0, this])
/-- b of these come to rest -/
def Rests (wb : Wb) (n b : Nat) : Prop := nextO wb (tabB wb n b) (hsB wb n b) = tabB wb n b
theorem bank_rows_ev (V : Valid wb) (A : CA) {m n : Nat} (hm : m ≤ 60) (hn : n ≤ 900) (hg : ∀ d ∈ wb.dues, gdI d ≤ 1000000) (hr : ∀ b, b ≤ m → Rests wb n b) (p : List Int) :
    D_bank_rows A [insW A wb, .int (m : Int)] p = .ok (.tup ((List.range (m + 1)).map fun b => tO (tabB wb n b))) p := by
  have n2 := V.n2
  have e1 := check_web_ok A wb p
  have e2 := whole1 (m : Int) p
  have e3 := check_least_ev (m : Int) 0 p
  rw [if_pos (by omega)] at e3
  have e4 := check_most_ev (m : Int) 60 p
  rw [if_pos (by omega)] at e4
  obtain ⟨g, hgd, ⟨d, hd, hg2⟩, _⟩ := gdD_is V
  have e5 := check_most_ev g 1000000 p
  rw [if_pos (by rw [hg2]; exact hg d hd)] at e5
  obtain ⟨ST, hST⟩ : ∃ ST : List (List OI) → Option L → List D → Option L → Den.Loc, ST = fun hs o3 c o5 => [dd (insW A wb), dd (.int (m : Int)), dd (.lst (hs.map lO)), o3, some (.cell c), o5] := ⟨_, rfl⟩
  have c1 : c_bank_rows_1 A [dd (insW A wb), dd (.int (m : Int)), none, none, none, none] p = .ok ((hs0 wb).map lO) p := by
    unfold c_bank_rows_1
    rw [mcomp_ev (ds := rngD 0 wb.marks.length) (p' := p) (by simp [mvar, rng1_int (n := (wb.marks.length : Int)) (by omega)]) (by rw [rngD_len]; omega)]
    rw [Den.comp_map (by simp) (fun _ => lO [some 0]) (fun d _ => by simp [lO, dO])]
    simp [hs0, rngD, List.map_map, Function.comp_def]
  have loopE : ∃ o3 o5, b_bank_rows_8 A (ST (hs0 wb) none [] none) p = .nx (ST (hsB wb n (m + 1)) o3 ((List.range (m + 1)).map fun b => tO (tabB wb n b)) o5) p := by
    obtain ⟨l', q, e, rfl, o3, o5, rfl⟩ := loop_run (tg := gset 3) (body := L_bank_rows_8 A)
      (fun (j : Nat) (l : Den.Loc) (q : List Int) => q = p ∧ ∃ o3 o5, l = ST (hsB wb n j) o3 ((List.range j).map fun b => tO (tabB wb n b)) o5)
      (ds := rngD 0 (m + 1)) (k := 0) (l := ST (hs0 wb) none [] none) (p := p) ⟨rfl, none, none, rfl⟩ (fun i d l q hd hI => by
        obtain ⟨rfl, o3, o5, rfl⟩ := hI
        rw [Nat.zero_add] at *
        obtain ⟨hi, rfl⟩ := rngD_get hd
        have H := hsB_ok wb n i
        have H3 : HsOk wb (hsB wb n i) 300 := ⟨H.len, fun h hh => ⟨(H.each h hh).1, by have := (H.each h hh).2; omega⟩⟩
        have H4 : HsOk wb (hsB wb n i) 299 := ⟨H.len, fun h hh => ⟨(H.each h hh).1, by have := (H.each h hh).2; omega⟩⟩
        obtain ⟨X, eX⟩ := rounds_by_highs_ev V A H3 hn (hr i (by omega)) q
        have eL : atI (X ++ [tO (fixG (fun r => nextO wb r (hsB wb n i)) n (dues0 wb))]) (-1) = some (tO (tabB wb n i)) := atI_last (by simp [tabB, rowB])
        have eW := with_highs_ev V A (r := tabB wb n i) (rowB_len V n _) H4 q
        refine ⟨ST (hsB wb n i) (dd (.int (0 + (i : Int)))) ((List.range i).map fun b => tO (tabB wb n b)) o5, by subst hST; simp, ST (hsB wb n (i + 1)) (dd (.int (0 + (i : Int)))) ((List.range (i + 1)).map fun b => tO (tabB wb n b)) (dd (tO (tabB wb n i))), q, .inl ?_, rfl, dd (.int (0 + (i : Int))), dd (tO (tabB wb n i)), rfl⟩
        subst hST
        unfold L_bank_rows_8
        have t1 : b_bank_rows_8l1 A [dd (insW A wb), dd (.int (m : Int)), dd (.lst ((hsB wb n i).map lO)), dd (.int (0 + (i : Int))), some (.cell ((List.range i).map fun b => tO (tabB wb n b))), o5] q = .nx [dd (insW A wb), dd (.int (m : Int)), dd (.lst ((hsB wb n i).map lO)), dd (.int (0 + (i : Int))), some (.cell ((List.range i).map fun b => tO (tabB wb n b))), dd (tO (tabB wb n i))] q := by
          simp [b_bank_rows_8l1, mvar, eX, eL]
        have t2 : sappend 4 (mvar 5) [dd (insW A wb), dd (.int (m : Int)), dd (.lst ((hsB wb n i).map lO)), dd (.int (0 + (i : Int))), some (.cell ((List.range i).map fun b => tO (tabB wb n b))), dd (tO (tabB wb n i))] q = .nx [dd (insW A wb), dd (.int (m : Int)), dd (.lst ((hsB wb n i).map lO)), dd (.int (0 + (i : Int))), some (.cell ((List.range (i + 1)).map fun b => tO (tabB wb n b))), dd (tO (tabB wb n i))] q := by
          rw [sappend_ev (ds := (List.range i).map fun b => tO (tabB wb n b)) (by rfl) (by simp; omega), List.range_succ, List.map_append]
          simp [mvar]
        rw [seq_nx t1, seq_nx t2]
        have eh : hsB wb n (i + 1) = withI wb (hsB wb n i) (tabB wb n i) := rfl
        simp [b_bank_rows_8l3, mvar, eW, eh])
    refine ⟨o3, o5, ?_⟩
    rw [Nat.zero_add, rngD_len] at e
    unfold b_bank_rows_8
    have er : rng1 [.int ((m : Int) + 1)] = some (rngD 0 (m + 1)) := by
      rw [rng1_int (by omega)]
      congr 1
    subst hST
    simp only [sfor_ev, mbind_ev, acons_ev, op2_ev, mvar, mret_ev, List.getElem?_cons_succ, List.getElem?_cons_zero, bind_ok, fAdd_int, mlift_some, anil_ev, er, toO_ok]
    exact e
  obtain ⟨o3, o5, loopE⟩ := loopE
  unfold D_bank_rows
  rw [denF_ev (by rfl)]
  show outR (dn_bank_rows A [dd (insW A wb), dd (.int (m : Int)), none, none, none, none] p) = _
  unfold dn_bank_rows
  have s1 : b_bank_rows_1 A [dd (insW A wb), dd (.int (m : Int)), none, none, none, none] p = .nx [dd (insW A wb), dd (.int (m : Int)), none, none, none, none] p := by simp [b_bank_rows_1, mvar, e1]
  have s2 : b_bank_rows_2 [dd (insW A wb), dd (.int (m : Int)), none, none, none, none] p = .nx [dd (insW A wb), dd (.int (m : Int)), none, none, none, none] p := by simp [b_bank_rows_2, mvar, e2]
  have s3 : b_bank_rows_3 [dd (insW A wb), dd (.int (m : Int)), none, none, none, none] p = .nx [dd (insW A wb), dd (.int (m : Int)), none, none, none, none] p := by simp [b_bank_rows_3, mvar, e3]
  have s4 : b_bank_rows_4 [dd (insW A wb), dd (.int (m : Int)), none, none, none, none] p = .nx [dd (insW A wb), dd (.int (m : Int)), none, none, none, none] p := by simp [b_bank_rows_4, mvar, e4]
  have s5 : b_bank_rows_5 A [dd (insW A wb), dd (.int (m : Int)), none, none, none, none] p = .nx [dd (insW A wb), dd (.int (m : Int)), none, none, none, none] p := by simp [b_bank_rows_5, mvar, hgd, e5]
  have s6 : sasg (mfreeze (c_bank_rows_1 A)) (gset 2) [dd (insW A wb), dd (.int (m : Int)), none, none, none, none] p = .nx [dd (insW A wb), dd (.int (m : Int)), dd (.lst ((hs0 wb).map lO)), none, none, none] p := by simp [c1]
  have s7 : sown (mshort anil) 4 [dd (insW A wb), dd (.int (m : Int)), dd (.lst ((hs0 wb).map lO)), none, none, none] p = .nx [dd (insW A wb), dd (.int (m : Int)), dd (.lst ((hs0 wb).map lO)), none, some (.cell []), none] p := by simp
  subst hST
  rw [seq_nx s1, seq_nx s2, seq_nx s3, seq_nx s4, seq_nx s5, seq_nx s6, seq_nx s7, seq_nx loopE]
  simp [b_bank_rows_9, sgive, mvar]
end
end PL
namespace PL
open PySem L2 Den
/-- none is above all -/
def leO : OI → OI → Prop
  | _, none => True
  | some x, some y => x ≤ y
  | none, some _ => False
theorem leO_refl (x : OI) : leO x x := by cases x <;> simp [leO]
theorem leO_trans {x y z : OI} (a : leO x y) (b : leO y z) : leO x z := by
  cases x <;> cases y <;> cases z <;> simp_all [leO]
  omega
theorem leO_top (x : OI) : leO x none := by cases x <;> simp [leO]
theorem leO_none {x : OI} (h : leO none x) : x = none := by cases x <;> simp_all [leO]
theorem leO_anti {x y : OI} (a : leO x y) (b : leO y x) : x = y := by
  cases x <;> cases y <;> simp_all [leO]
  omega
theorem mem_fm {xs : List OI} {v : Int} : v ∈ xs.filterMap id ↔ some v ∈ xs := by
  rw [List.mem_filterMap]
  constructor
  · rintro ⟨a, ha, e⟩
    simp only [id] at e
    rw [← e]; exact ha
  · intro h
    exact ⟨some v, h, rfl⟩
theorem leastO_le {xs : List OI} {x : OI} (h : x ∈ xs) : leO (leastO xs) x := by
  cases x with
  | none => exact leO_top _
  | some v =>
    have hv := mem_fm.mpr h
    unfold leastO
    cases e : xs.filterMap id with
    | nil => rw [e] at hv; cases hv
    | cons n ns =>
      rw [e] at hv
      show minL n ns ≤ v
      rcases List.mem_cons.mp hv with rfl | hv
      · exact (minL_le ns v).1
      · exact (minL_le ns n).2 v hv
theorem leastO_mem (xs : List OI) : leastO xs = none ∨ leastO xs ∈ xs := by
  unfold leastO
  cases e : xs.filterMap id with
  | nil => exact .inl rfl
  | cons n ns =>
    right
    have := minL_mem ns n
    rw [← e] at this
    exact mem_fm.mp this
theorem le_leastO {xs : List OI} {c : OI} : leO c (leastO xs) ↔ ∀ x ∈ xs, leO c x := by
  constructor
  · intro h x hx
    exact leO_trans h (leastO_le hx)
  · intro h
    rcases leastO_mem xs with e | e
    · rw [e]; exact leO_top _
    · exact h _ e
theorem leastO_none {xs : List OI} (h : ∀ x ∈ xs, x = none) : leastO xs = none := by
  rcases leastO_mem xs with e | e
  · exact e
  · exact h _ e
theorem le_greatestO {xs : List OI} {x : OI} (h : x ∈ xs) : leO x (greatestO xs) := by
  unfold greatestO
  by_cases c : none ∈ xs
  · rw [if_pos c]; exact leO_top _
  · rw [if_neg c]
    cases x with
    | none => exact absurd h c
    | some v =>
      have hv := mem_fm.mpr h
      cases e : xs.filterMap id with
      | nil => rw [e] at hv; cases hv
      | cons n ns =>
        rw [e] at hv
        show v ≤ maxL n ns
        rcases List.mem_cons.mp hv with rfl | hv
        · exact (le_maxL ns v).1
        · exact (le_maxL ns n).2 v hv
theorem greatestO_mem {xs : List OI} (hne : xs ≠ []) : greatestO xs ∈ xs := by
  unfold greatestO
  by_cases c : none ∈ xs
  · rw [if_pos c]; exact c
  · rw [if_neg c]
    cases e : xs.filterMap id with
    | nil =>
      cases xs with
      | nil => exact absurd rfl hne
      | cons x xs =>
        cases x with
        | none => exact absurd List.mem_cons_self c
        | some v =>
          have : v ∈ (some v :: xs).filterMap id := mem_fm.mpr List.mem_cons_self
          rw [e] at this
          cases this
    | cons n ns =>
      have := maxL_mem ns n
      rw [← e] at this
      exact mem_fm.mp this
theorem greatestO_le {xs : List OI} (hne : xs ≠ []) {c : OI} : leO (greatestO xs) c ↔ ∀ x ∈ xs, leO x c := by
  constructor
  · intro h x hx
    exact leO_trans (le_greatestO hx) h
  · intro h
    exact h _ (greatestO_mem hne)
def candO (more : Int) (low : OI) (h : OI) (x : Nat) : OI := match low, h with
  | some lo, some v => some (max (lo + (x : Int) + more) v)
  | _, _ => none
theorem mem_ext {more : Int} {low : OI} {hs : List OI} {c : OI} (h : c ∈ extO more low hs) : ∃ x h, (hs.take (hs.length - 1)).reverse[x]? = some h ∧ c = candO more low h x := by
  unfold extO at h
  cases low with
  | none => cases h
  | some lo =>
    obtain ⟨z, hz, e⟩ := List.mem_filterMap.mp h
    obtain ⟨a, i⟩ := z
    have hz := List.mem_zipIdx_iff_getElem?.mp hz
    cases a with
    | none => cases e
    | some v =>
      refine ⟨i, some v, by simpa using hz, ?_⟩
      simp at e
      rw [← e]
      rfl
theorem ext_mem {more lo v : Int} {hs : List OI} {x : Nat} (h : (hs.take (hs.length - 1)).reverse[x]? = some (some v)) : candO more (some lo) (some v) x ∈ extO more (some lo) hs := by
  unfold extO
  refine List.mem_filterMap.mpr ⟨(some v, x), List.mem_zipIdx_iff_getElem?.mpr (by simpa using h), rfl⟩
theorem ext_le {more : Int} {low : OI} {hs : List OI} {x : Nat} {h : OI} (e : (hs.take (hs.length - 1)).reverse[x]? = some h) : leO (leastO (extO more low hs)) (candO more low h x) := by
  cases low with
  | none => exact leO_top _
  | some lo =>
    cases h with
    | none => exact leO_top _
    | some v => exact leastO_le (ext_mem e)
theorem least_app {xs ys : List OI} {c : OI} : leO c (leastO (xs ++ ys)) ↔ leO c (leastO xs) ∧ leO c (leastO ys) := by
  rw [le_leastO, le_leastO, le_leastO]
  constructor
  · intro h
    exact ⟨fun x hx => h x (List.mem_append_left _ hx), fun x hx => h x (List.mem_append_right _ hx)⟩
  · rintro ⟨a, b⟩ x hx
    rcases List.mem_append.mp hx with hx | hx
    · exact a x hx
    · exact b x hx
theorem candO_mono {more : Int} {low low' h : OI} {x : Nat} (a : leO low low') : leO (candO more low h x) (candO more low' h x) := by
  cases low <;> cases low' <;> cases h <;> simp_all [candO, leO]
  omega
/-- the price with the current high apart -/
def prO (mk : Int) (low : OI) (hs : List OI) (hi : OI) : OI := priceO mk low (hs ++ [hi])
theorem take_hs (hs : List OI) (hi : OI) : (hs ++ [hi]).take ((hs ++ [hi]).length - 1) = hs := by simp
theorem le_prO {mk : Int} {low : OI} {hs : List OI} {hi c : OI} : leO c (prO mk low hs hi) ↔ (mk ≠ 1 → leO c hi) ∧ ∀ (x : Nat) (h : OI), hs.reverse[x]? = some h → leO c (candO (if mk = 1 then 0 else 1) low h x) := by
  unfold prO priceO
  rw [least_app]
  have e1 : (hs ++ [hi]).getLast?.getD none = hi := by simp
  rw [e1]
  have e2 : leO c (leastO (extO (if mk = 1 then 0 else 1) low (hs ++ [hi]))) ↔ ∀ (x : Nat) (h : OI), hs.reverse[x]? = some h → leO c (candO (if mk = 1 then 0 else 1) low h x) := by
    constructor
    · intro hc x h hx
      exact leO_trans hc (ext_le (by rw [take_hs]; exact hx))
    · intro h
      rw [le_leastO]
      intro y hy
      obtain ⟨x, v, hx, rfl⟩ := mem_ext hy
      rw [take_hs] at hx
      exact h x v hx
  rw [e2]
  constructor
  · rintro ⟨a, b⟩
    refine ⟨fun hm => ?_, b⟩
    rw [if_neg hm] at a
    exact le_leastO.mp a _ (by simp)
  · rintro ⟨a, b⟩
    refine ⟨?_, b⟩
    rw [le_leastO]
    intro y hy
    by_cases hm : mk = 1
    · rw [if_pos hm] at hy; cases hy
    · rw [if_neg hm] at hy
      rw [List.mem_singleton.mp hy]
      exact a hm
theorem prO_mono {mk : Int} {low low' : OI} {hs : List OI} {hi hi' : OI} (a : leO low low') (b : leO hi hi') : leO (prO mk low hs hi) (prO mk low' hs hi') := by
  have h := le_prO.mp (leO_refl (prO mk low hs hi))
  exact le_prO.mpr ⟨fun hm => leO_trans (h.1 hm) b, fun x v hx => leO_trans (h.2 x v hx) (candO_mono a)⟩
/-- what the highs so far are -/
structure HsI (wb : Wb) (hs : List (List OI)) (b : Nat) : Prop where
  len : hs.length = wb.marks.length
  first : ∀ h ∈ hs, h[0]? = some (some 0)
  nn : ∀ h ∈ hs, ∀ v, some v ∈ h → 0 ≤ v
  mv : ∀ (i : Nat) h, hs[i]? = some h → wb.first[i]?.getD [] ≠ [] → h.length = b + 1
/-- rows: one nowhere above another one -/
def leR (r s : List OI) : Prop := ∀ i : Nat, i < s.length → leO (r[i]?.getD none) (s[i]?.getD none)
def NN (r : List OI) : Prop := ∀ v, some v ∈ r → 0 ≤ v
section
variable {wb : Wb}
theorem rowO_le {r s : List OI} (hl : s.length = wb.marks.length) (h : leR r s) {x : Int} (h0 : 0 ≤ x) (h1 : x < (wb.marks.length : Int)) : leO (rowO r x) (rowO s x) := h x.toNat (by omega)
theorem first_in (V : Valid wb) (i : Nat) : ∀ x ∈ wb.first[i]?.getD [], 0 ≤ x ∧ x < (wb.marks.length : Int) := fun x hx => by
  cases e : wb.first[i]? with
  | none => rw [e] at hx; cases hx
  | some f => rw [e] at hx; exact (V.s1 f (List.mem_of_getElem? e)).2 x hx
theorem second_in (V : Valid wb) (i : Nat) : ∀ x ∈ wb.second[i]?.getD [], 0 ≤ x ∧ x < (wb.marks.length : Int) := fun x hx => by
  cases e : wb.second[i]? with
  | none => rw [e] at hx; cases hx
  | some f => rw [e] at hx; exact (V.s2 f (List.mem_of_getElem? e)).2 x hx
theorem both_ne (V : Valid wb) {i : Nat} (hi : i < wb.marks.length) (h : wb.first[i]?.getD [] ≠ []) : wb.second[i]?.getD [] ≠ [] := by
  have l1 := V.l1
  have l2 := V.l2
  have e1 : wb.first[i]? = some wb.first[i] := List.getElem?_eq_getElem (by omega)
  have e2 : wb.second[i]? = some wb.second[i] := List.getElem?_eq_getElem (by omega)
  have := V.both i _ _ e1 e2
  rw [e1] at h
  rw [e2]
  simp only [Option.getD_some] at h ⊢
  intro z
  rw [z] at this
  cases hh : wb.first[i] with
  | nil => exact h hh
  | cons a t => rw [hh] at this; cases this
theorem blow_mono (V : Valid wb) {r s : List OI} (hl : s.length = wb.marks.length) (h : leR r s) (i : Nat) : leO (blowI wb r i) (blowI wb s i) := by
  unfold blowI
  rw [le_leastO]
  intro y hy
  obtain ⟨x, hx, rfl⟩ := List.mem_map.mp hy
  have := first_in V i x (mem_sortSet.mp hx)
  exact leO_trans (leastO_le (List.mem_map_of_mem hx)) (rowO_le hl h this.1 this.2)
theorem bhigh_mono (V : Valid wb) {r s : List OI} (hl : s.length = wb.marks.length) (h : leR r s) {i : Nat} (hne : wb.second[i]?.getD [] ≠ []) : leO (bhighI wb r i) (bhighI wb s i) := by
  unfold bhighI
  have ne : ∀ r : List OI, (sortSet (wb.second[i]?.getD [])).map (rowO r) ≠ [] := fun r z => by
    have := sortSet_ne hne
    cases e : sortSet (wb.second[i]?.getD []) with
    | nil => exact this e
    | cons a b => rw [e] at z; cases z
  rw [greatestO_le (ne r)]
  intro y hy
  obtain ⟨x, hx, rfl⟩ := List.mem_map.mp hy
  have := second_in V i x (mem_sortSet.mp hx)
  exact leO_trans (rowO_le hl h this.1 this.2) (le_greatestO (List.mem_map_of_mem hx))
/-- one part of the next row -/
def nxO (wb : Wb) (r : List OI) (hs : List (List OI)) (i : Nat) : OI := leastO [bdueI (wb.dues[i]?.getD none), if wb.first[i]?.getD [] = [] then none else prO (wb.marks[i]?.getD 0) (blowI wb r i) (hs[i]?.getD []) (bhighI wb r i)]
theorem nextO_get {r : List OI} {hs : List (List OI)} {i : Nat} (hi : i < wb.marks.length) : (nextO wb r hs)[i]?.getD none = nxO wb r hs i := by
  simp [nextO, hi, nxO, prO]
theorem le_nxO {r : List OI} {hs : List (List OI)} {i : Nat} {c : OI} : leO c (nxO wb r hs i) ↔ leO c (bdueI (wb.dues[i]?.getD none)) ∧ (wb.first[i]?.getD [] ≠ [] → leO c (prO (wb.marks[i]?.getD 0) (blowI wb r i) (hs[i]?.getD []) (bhighI wb r i))) := by
  unfold nxO
  rw [le_leastO]
  constructor
  · intro h
    refine ⟨h _ (by simp), fun hne => ?_⟩
    have := h _ (List.mem_cons_of_mem _ List.mem_cons_self)
    rw [if_neg hne] at this
    exact this
  · rintro ⟨a, b⟩ y hy
    rcases List.mem_cons.mp hy with rfl | hy
    · exact a
    · rw [List.mem_singleton.mp hy]
      by_cases c : wb.first[i]?.getD [] = []
      · rw [if_pos c]; exact leO_top _
      · rw [if_neg c]; exact b c
theorem nextO_mono (V : Valid wb) {r s : List OI} (hl : s.length = wb.marks.length) (h : leR r s) (hs : List (List OI)) : leR (nextO wb r hs) (nextO wb s hs) := fun i hi => by
  rw [nextO_len] at hi
  rw [nextO_get hi, nextO_get hi]
  have hh := le_nxO.mp (leO_refl (nxO wb r hs i))
  exact le_nxO.mpr ⟨hh.1, fun hne => leO_trans (hh.2 hne) (prO_mono (blow_mono V hl h i) (bhigh_mono V hl h (both_ne V hi hne)))⟩
theorem dues0_len (V : Valid wb) : (dues0 wb).length = wb.marks.length := by simp [dues0, V.l3]
theorem dues0_get (V : Valid wb) {i : Nat} (hi : i < wb.marks.length) : (dues0 wb)[i]?.getD none = bdueI (wb.dues[i]?.getD none) := by
  have := V.l3
  simp [dues0, show i < wb.dues.length by omega]
theorem nextO_dues (V : Valid wb) (r : List OI) (hs : List (List OI)) : leR (nextO wb r hs) (dues0 wb) := fun i hi => by
  rw [dues0_len V] at hi
  rw [nextO_get hi, dues0_get V hi]
  exact (le_nxO.mp (leO_refl _)).1
theorem rowO_mem {r : List OI} {x : Int} {v : Int} (e : rowO r x = some v) : some v ∈ r := by
  unfold rowO at e
  cases e2 : r[x.toNat]? with
  | none => rw [e2] at e; cases e
  | some z =>
    rw [e2] at e
    simp at e
    rw [← e]
    exact List.mem_of_getElem? e2
theorem least_nn {xs : List OI} (h : ∀ v, some v ∈ xs → 0 ≤ v) {v : Int} (e : leastO xs = some v) : 0 ≤ v := by
  rcases leastO_mem xs with z | z
  · rw [z] at e; cases e
  · rw [e] at z; exact h v z
theorem bhigh_nn {r : List OI} (h : NN r) {i : Nat} (hne : wb.second[i]?.getD [] ≠ []) {v : Int} (e : bhighI wb r i = some v) : 0 ≤ v := by
  have ne : (sortSet (wb.second[i]?.getD [])).map (rowO r) ≠ [] := fun z => by
    have := sortSet_ne hne
    cases e : sortSet (wb.second[i]?.getD []) with
    | nil => exact this e
    | cons a b => rw [e] at z; cases z
  have := greatestO_mem ne
  unfold bhighI at e
  rw [e] at this
  obtain ⟨x, _, e2⟩ := List.mem_map.mp this
  exact h v (rowO_mem e2)
theorem blow_nn {r : List OI} (h : NN r) {i : Nat} {v : Int} (e : blowI wb r i = some v) : 0 ≤ v := least_nn (fun u hu => by
  obtain ⟨x, _, e2⟩ := List.mem_map.mp hu
  exact h u (rowO_mem e2)) e
theorem prO_nn {mk : Int} {low hi : OI} {hs : List OI} (h1 : ∀ v, low = some v → 0 ≤ v) (h2 : ∀ v, hi = some v → 0 ≤ v) {v : Int} (e : prO mk low hs hi = some v) : 0 ≤ v := by
  have : leO (some 0) (prO mk low hs hi) := le_prO.mpr ⟨fun _ => by
    cases hi with
    | none => exact leO_top _
    | some w => exact h2 w rfl, fun x h _ => by
    cases low with
    | none => exact leO_top _
    | some lo =>
      cases h with
      | none => exact leO_top _
      | some w =>
        have := h1 lo rfl
        show (0 : Int) ≤ max (lo + (x : Int) + _) w
        split <;> omega⟩
  rw [e] at this
  exact this
theorem bdue_nn (V : Valid wb) {i : Nat} {v : Int} (e : bdueI (wb.dues[i]?.getD none) = some v) : 0 ≤ v := by
  cases e2 : wb.dues[i]? with
  | none => rw [e2] at e; cases e
  | some d =>
    rw [e2] at e
    rcases d with _ | ⟨b, x⟩
    · cases e
    · cases b
      · cases e
      · have e3 : x = v := Option.some.inj e
        have := (V.du _ (List.mem_of_getElem? e2) true x rfl).1
        omega
theorem nextO_nn (V : Valid wb) {r : List OI} (h : NN r) (hs : List (List OI)) : NN (nextO wb r hs) := fun v hv => by
  obtain ⟨i, hi⟩ := List.getElem?_of_mem hv
  have hi2 : i < wb.marks.length := by rw [← nextO_len wb r hs]; exact (List.getElem?_eq_some_iff.mp hi).1
  have e : nxO wb r hs i = some v := by rw [← nextO_get hi2, hi]; rfl
  unfold nxO at e
  refine least_nn (fun u hu => ?_) e
  rcases List.mem_cons.mp hu with e1 | hu
  · exact bdue_nn V e1.symm
  · have e1 := List.mem_singleton.mp hu
    by_cases c : wb.first[i]?.getD [] = []
    · rw [if_pos c] at e1; cases e1
    · rw [if_neg c] at e1
      exact prO_nn (fun w hw => blow_nn h hw) (fun w hw => bhigh_nn h (both_ne V hi2 c) hw) e1.symm
theorem dues0_nn (V : Valid wb) : NN (dues0 wb) := fun v hv => by
  obtain ⟨d, hd, e⟩ := List.mem_map.mp hv
  obtain ⟨i, hi⟩ := List.getElem?_of_mem hd
  exact bdue_nn V (i := i) (by rw [hi]; exact e)
theorem prO_low {mk lo : Int} {hs : List OI} {hi : OI} {b : Nat} (hf : hs[0]? = some (some 0)) (hl : hs.length = b + 1) (h0 : 0 ≤ lo) : leO (prO mk (some lo) hs hi) (some (lo + b + 1)) := by
  have hx : hs.reverse[b]? = some (some 0) := by
    rw [List.getElem?_reverse (by omega)]
    rw [show hs.length - 1 - b = 0 by omega]
    exact hf
  refine leO_trans ((le_prO.mp (leO_refl _)).2 b (some 0) hx) ?_
  show max (lo + (b : Int) + _) 0 ≤ lo + b + 1
  split <;> omega
theorem prO_high {mk : Int} (hm : mk ≠ 1) {low hi : OI} {hs : List OI} : leO (prO mk low hs hi) hi := (le_prO.mp (leO_refl _)).1 hm
theorem prO_fin {mk : Int} {low hi : OI} {hs : List OI} {v : Int} (e : prO mk low hs hi = some v) : (∃ lo, low = some lo) ∨ (mk ≠ 1 ∧ ∃ w, hi = some w) := by
  cases low with
  | some lo => exact .inl ⟨lo, rfl⟩
  | none =>
    right
    by_cases hm : mk = 1
    · exfalso
      have : leO none (prO mk none hs hi) := le_prO.mpr ⟨fun h => absurd hm h, fun x h _ => trivial⟩
      rw [e] at this
      exact this
    · refine ⟨hm, ?_⟩
      cases hi with
      | some w => exact ⟨w, rfl⟩
      | none =>
        exfalso
        have : leO none (prO mk none hs none) := le_prO.mpr ⟨fun _ => trivial, fun x h _ => trivial⟩
        rw [e] at this
        exact this
def finC (r : List OI) : Nat := (r.filter fun x => x.isSome).length
structure FallO (wb : Wb) (hs : List (List OI)) (g : Int) (b : Nat) (r : List OI) : Prop where
  len : r.length = wb.marks.length
  falls : leR (nextO wb r hs) r
  nn : NN r
  bd : ∀ v, some v ∈ r → v ≤ g + (finC r : Int) * ((b : Int) + 1)
theorem finC_mono : ∀ {r s : List OI}, r.length = s.length → leR r s → finC s ≤ finC r ∧ ((∃ i : Nat, i < s.length ∧ s[i]?.getD none = none ∧ r[i]?.getD none ≠ none) → finC s < finC r)
  | [], [], _, _ => ⟨Nat.le_refl _, fun ⟨i, hi, _⟩ => by cases hi⟩
  | [], _ :: _, h, _ => by cases h
  | _ :: _, [], h, _ => by cases h
  | x :: r, y :: s, h, hle => by
    have h0 : leO x y := hle 0 (by simp)
    have ih := finC_mono (r := r) (s := s) (by simpa using h) fun i hi => by simpa using hle (i + 1) (by simpa using hi)
    have e : ∀ (x : OI) (r : List OI), finC (x :: r) = (if x.isSome then 1 else 0) + finC r := fun x r => by
      unfold finC
      rw [List.filter_cons]
      cases x <;> simp
      omega
    rw [e, e]
    constructor
    · have := ih.1
      cases x <;> cases y <;> simp_all [leO] <;> omega
    · rintro ⟨i, hi, a, b⟩
      cases i with
      | zero =>
        have := ih.1
        simp at a b
        subst a
        cases x with
        | none => exact absurd rfl b
        | some v => simp; omega
      | succ i =>
        have := ih.2 ⟨i, by simpa using hi, by simpa using a, by simpa using b⟩
        cases x <;> cases y <;> simp_all [leO] <;> omega
theorem finC_le (r : List OI) : finC r ≤ r.length := List.length_filter_le _ _
theorem fallO_next (V : Valid wb) {hs : List (List OI)} {g : Int} (hg : ∀ d ∈ wb.dues, gdI d ≤ g) {b : Nat} (H : HsI wb hs b) {r : List OI} (F : FallO wb hs g b r) : FallO wb hs g b (nextO wb r hs) := by
  have hm := finC_mono (r := nextO wb r hs) (s := r) (by rw [nextO_len, F.len]) F.falls
  refine ⟨nextO_len wb r hs, nextO_mono V F.len F.falls hs, nextO_nn V F.nn hs, fun v hv => ?_⟩
  obtain ⟨i, hi⟩ := List.getElem?_of_mem hv
  have hi2 : i < wb.marks.length := by rw [← nextO_len wb r hs]; exact (List.getElem?_eq_some_iff.mp hi).1
  have ei : nxO wb r hs i = some v := by rw [← nextO_get hi2, hi]; rfl
  have b1 : (0 : Int) ≤ (b : Int) + 1 := by omega
  have up : ∀ c : Nat, c ≤ finC (nextO wb r hs) → (c : Int) * ((b : Int) + 1) ≤ (finC (nextO wb r hs) : Int) * ((b : Int) + 1) := fun c hc => Int.mul_le_mul_of_nonneg_right (by omega) b1
  cases hr : r[i]?.getD none with
  | some u =>
    have hu : some u ∈ r := by
      cases e : r[i]? with
      | none => rw [e] at hr; cases hr
      | some z => rw [e] at hr; simp at hr; rw [← hr]; exact List.mem_of_getElem? e
    have h1 := F.bd u hu
    have h2 := F.falls i (by rw [F.len]; exact hi2)
    rw [nextO_get hi2, ei, hr] at h2
    have h2 : v ≤ u := h2
    have := up _ hm.1
    omega
  | none =>
    have hlt := hm.2 ⟨i, by rw [F.len]; exact hi2, hr, by rw [nextO_get hi2, ei]; simp⟩
    have h3 := up (finC r + 1) (by omega)
    have e3 : ((finC r + 1 : Nat) : Int) * ((b : Int) + 1) = (finC r : Int) * ((b : Int) + 1) + ((b : Int) + 1) := by
      push_cast
      rw [Int.add_mul, Int.one_mul]
    have h0 : 0 ≤ (finC r : Int) * ((b : Int) + 1) := Int.mul_nonneg (by omega) b1
    unfold nxO at ei
    rcases leastO_mem [bdueI (wb.dues[i]?.getD none), if wb.first[i]?.getD [] = [] then none else prO (wb.marks[i]?.getD 0) (blowI wb r i) (hs[i]?.getD []) (bhighI wb r i)] with z | z
    · rw [z] at ei; cases ei
    · rw [ei] at z
      rcases List.mem_cons.mp z with z | z
      · have : v ≤ g := by
          cases e2 : wb.dues[i]? with
          | none => rw [e2] at z; cases z
          | some d =>
            rw [e2] at z
            have := hg d (List.mem_of_getElem? e2)
            rcases d with _ | ⟨bb, x⟩
            · cases z
            · cases bb
              · cases z
              · cases z; exact this
        omega
      · have z := List.mem_singleton.mp z
        by_cases c : wb.first[i]?.getD [] = []
        · rw [if_pos c] at z; cases z
        · rw [if_neg c] at z
          have hii : i < hs.length := by rw [H.len]; exact hi2
          have eh : hs[i]? = some hs[i] := List.getElem?_eq_getElem hii
          have ehd : hs[i]?.getD [] = hs[i] := by rw [eh]; rfl
          rw [ehd] at z
          rcases prO_fin z.symm with ⟨lo, elo⟩ | ⟨hmk, w, ew⟩
          · have hlo : lo ≤ g + (finC r : Int) * ((b : Int) + 1) := by
              rcases leastO_mem ((sortSet (wb.first[i]?.getD [])).map (rowO r)) with y | y
              · unfold blowI at elo; rw [y] at elo; cases elo
              · unfold blowI at elo
                rw [elo] at y
                obtain ⟨x, _, e2⟩ := List.mem_map.mp y
                exact F.bd lo (rowO_mem e2)
            have h4 := prO_low (mk := wb.marks[i]?.getD 0) (hi := bhighI wb r i) (H.first _ (List.getElem_mem hii)) (H.mv i _ eh c) (blow_nn F.nn elo)
            rw [← elo, ← z] at h4
            have h4 : v ≤ lo + b + 1 := h4
            omega
          · have h4 := prO_high (low := blowI wb r i) (hi := bhighI wb r i) (hs := hs[i]) hmk
            rw [← z, ew] at h4
            have h4 : v ≤ w := h4
            have ne := both_ne V hi2 c
            have ne2 : (sortSet (wb.second[i]?.getD [])).map (rowO r) ≠ [] := fun z => by
              have := sortSet_ne ne
              cases e : sortSet (wb.second[i]?.getD []) with
              | nil => exact this e
              | cons a b => rw [e] at z; cases z
            have hw := greatestO_mem ne2
            unfold bhighI at ew
            rw [ew] at hw
            obtain ⟨x, _, e2⟩ := List.mem_map.mp hw
            have := F.bd w (rowO_mem e2)
            omega
theorem fallO_first (V : Valid wb) {hs : List (List OI)} {g : Int} (hg : ∀ d ∈ wb.dues, gdI d ≤ g) {b : Nat} : FallO wb hs g b (dues0 wb) := by
  refine ⟨dues0_len V, nextO_dues V _ hs, dues0_nn V, fun v hv => ?_⟩
  obtain ⟨d, hd, e⟩ := List.mem_map.mp hv
  have := hg d hd
  have h0 : 0 ≤ (finC (dues0 wb) : Int) * ((b : Int) + 1) := Int.mul_nonneg (by omega) (by omega)
  rcases d with _ | ⟨bb, x⟩
  · cases e
  · cases bb
    · cases e
    · cases e
      have : v ≤ g := this
      omega
/-- the sum with T for none -/
def sumO (T : Int) (r : List OI) : Int := (r.map fun x => x.getD T).sum
theorem sumO_lt : ∀ {r s : List OI} {T : Int}, r.length = s.length → leR r s → (∀ v, some v ∈ r → v < T) → (sumO T r ≤ sumO T s) ∧ (r ≠ s → sumO T r < sumO T s)
  | [], [], _, _, _, _ => ⟨Int.le_refl _, fun h => absurd rfl h⟩
  | [], _ :: _, _, h, _, _ => by cases h
  | _ :: _, [], _, h, _, _ => by cases h
  | x :: r, y :: s, T, h, hle, hb => by
    have h0 : leO x y := hle 0 (by simp)
    have ih := sumO_lt (r := r) (s := s) (T := T) (by simpa using h) (fun i hi => by simpa using hle (i + 1) (by simpa using hi)) fun v hv => hb v (List.mem_cons_of_mem _ hv)
    have e : ∀ (x : OI) (r : List OI), sumO T (x :: r) = x.getD T + sumO T r := fun x r => by simp [sumO]
    rw [e, e]
    have h1 : x.getD T ≤ y.getD T ∧ (x ≠ y → x.getD T < y.getD T) := by
      cases x with
      | none => rw [leO_none h0]; exact ⟨Int.le_refl _, fun h => absurd rfl h⟩
      | some v =>
        have := hb v List.mem_cons_self
        cases y with
        | none => exact ⟨by simp; omega, fun _ => by simpa using this⟩
        | some u =>
          have h0 : v ≤ u := h0
          refine ⟨h0, fun hne => ?_⟩
          have : v ≠ u := fun z => hne (by rw [z])
          simp
          omega
    refine ⟨by omega, fun hne => ?_⟩
    by_cases c : r = s
    · subst c
      have := h1.2 fun z => hne (by rw [z])
      omega
    · have := ih.2 c
      omega
theorem sumO_nn {r : List OI} {T : Int} (hT : 0 ≤ T) (h : NN r) : 0 ≤ sumO T r := by
  unfold sumO
  induction r with
  | nil => simp
  | cons x r ih =>
    have := ih fun v hv => h v (List.mem_cons_of_mem _ hv)
    simp only [List.map_cons, List.sum_cons]
    cases x with
    | none => simp; omega
    | some v => have := h v List.mem_cons_self; simp; omega
theorem sumO_top {T : Int} : ∀ {r : List OI}, (∀ v, some v ∈ r → v ≤ T) → sumO T r ≤ (r.length : Int) * T
  | [], _ => by simp [sumO]
  | x :: r, h => by
    have ih := sumO_top (T := T) (r := r) fun v hv => h v (List.mem_cons_of_mem _ hv)
    have e : sumO T (x :: r) = x.getD T + sumO T r := by simp [sumO]
    have h1 : x.getD T ≤ T := by
      cases x with
      | none => exact Int.le_refl _
      | some v => exact h v List.mem_cons_self
    rw [e, List.length_cons, show ((r.length + 1 : Nat) : Int) * T = r.length * T + T by rw [Int.natCast_add, Int.add_mul]; simp]
    omega
theorem fallO_fix (V : Valid wb) {hs : List (List OI)} {g : Int} (hg : ∀ d ∈ wb.dues, gdI d ≤ g) {b : Nat} (H : HsI wb hs b) : ∀ (n : Nat) (r : List OI), FallO wb hs g b r → sumO (g + (wb.marks.length : Int) * ((b : Int) + 1) + 1) r < n →
    FallO wb hs g b (fixG (fun r => nextO wb r hs) n r) ∧ nextO wb (fixG (fun r => nextO wb r hs) n r) hs = fixG (fun r => nextO wb r hs) n r
  | 0, r, F, h => by
    exfalso
    have hb : ∀ v, some v ∈ r → v < g + (wb.marks.length : Int) * ((b : Int) + 1) + 1 := fun v hv => by
      have h1 := F.bd v hv
      have h2 := finC_le r
      rw [F.len] at h2
      have : (finC r : Int) * ((b : Int) + 1) ≤ (wb.marks.length : Int) * ((b : Int) + 1) := Int.mul_le_mul_of_nonneg_right (by omega) (by omega)
      omega
    by_cases T0 : 0 ≤ g + (wb.marks.length : Int) * ((b : Int) + 1) + 1
    · have := sumO_nn T0 F.nn
      omega
    · have n1 := V.n1
      have hd := V.l3
      have : wb.dues[0]? = some wb.dues[0] := List.getElem?_eq_getElem (by omega)
      have h1 := hg wb.dues[0] (List.getElem_mem (by omega))
      have h2 := gdI_nonneg V wb.dues[0] (List.getElem_mem (by omega))
      have h3 : 0 ≤ (wb.marks.length : Int) * ((b : Int) + 1) := Int.mul_nonneg (by omega) (by omega)
      omega
  | n + 1, r, F, h => by
    unfold fixG
    by_cases c : nextO wb r hs = r
    · rw [if_pos c]; exact ⟨F, c⟩
    · rw [if_neg c]
      have F2 := fallO_next V hg H F
      have hb : ∀ v, some v ∈ nextO wb r hs → v < g + (wb.marks.length : Int) * ((b : Int) + 1) + 1 := fun v hv => by
        have h1 := F2.bd v hv
        have h2 := finC_le (nextO wb r hs)
        rw [nextO_len] at h2
        have : (finC (nextO wb r hs) : Int) * ((b : Int) + 1) ≤ (wb.marks.length : Int) * ((b : Int) + 1) := Int.mul_le_mul_of_nonneg_right (by omega) (by omega)
        omega
      have := (sumO_lt (by rw [nextO_len, F.len]) F.falls hb).2 c
      exact fallO_fix V hg H n _ F2 (by omega)
end
end PL
namespace PL
open PySem L2 Den
def eO (x : OI) : Int := x.getD 1000000
def encR (r : List OI) : List Int := r.map eO
/-- all numbers are below a million -/
def BdM (r : List OI) : Prop := ∀ v, some v ∈ r → 0 ≤ v ∧ v < 900000
theorem eO_mono {x y : OI} (h : leO x y) (hx : ∀ v, x = some v → v < 900000) : eO x ≤ eO y := by
  cases x with
  | none => rw [leO_none h]; exact Int.le_refl _
  | some v =>
    cases y with
    | none => have := hx v rfl; simp [eO]; omega
    | some u => exact h
theorem le_eO {c : Int} (hc : c ≤ 1000000) {x : OI} : c ≤ eO x ↔ leO (some c) x := by
  cases x with
  | none => simp [eO, leO]; exact hc
  | some v => rfl
theorem sseq_as (a b r : MS) (l : Den.Loc) (q : List Int) : sseq a (sseq b r) l q = sseq (sseq a b) r l q := by
  simp only [sseq_ev]
  cases a l q with
  | nx l1 p1 => simp only [O.bind_nx, sseq_ev]
  | _ => rfl
section
variable {wb : Wb} {i : Int} {f s : List Int} {mk : Int}
theorem encR_len (r : List OI) : (encR r).length = r.length := by simp [encR]
theorem encR_at {r : List OI} {x : Int} (h0 : 0 ≤ x) (h1 : x < (r.length : Int)) : rowAt (encR r) x = eO (rowO r x) := by
  unfold rowAt encR rowO
  have hx : x.toNat < r.length := by omega
  simp [hx]
theorem low_uniq {r ss : List Int} {v w : Int} (a : IsLow r ss v) (b : IsLow r ss w) : v = w := by
  obtain ⟨⟨x, hx, ex⟩, h⟩ := a
  obtain ⟨⟨y, hy, ey⟩, g⟩ := b
  have := h y hy
  have := g x hx
  omega
theorem high_uniq {r ss : List Int} {v w : Int} (a : IsHigh r ss v) (b : IsHigh r ss w) : v = w := by
  obtain ⟨⟨x, hx, ex⟩, h⟩ := a
  obtain ⟨⟨y, hy, ey⟩, g⟩ := b
  have := h y hy
  have := g x hx
  omega
theorem rowO_bd {r : List OI} (h : BdM r) {x : Int} : ∀ v, rowO r x = some v → v < 900000 := fun v e => (h v (rowO_mem e)).2
theorem low_enc (V : Valid wb) {i : Nat} (hne : wb.first[i]?.getD [] ≠ []) {r : List OI} (hl : r.length = wb.marks.length) (hb : BdM r) : lowI (encR r) (wb.first[i]?.getD []) = eO (blowI wb r i) := by
  refine low_uniq (lowI_is hne) ⟨?_, fun x hx => ?_⟩
  · obtain ⟨x, hx, e⟩ : ∃ x ∈ wb.first[i]?.getD [], blowI wb r i = rowO r x := by
      rcases leastO_mem ((sortSet (wb.first[i]?.getD [])).map (rowO r)) with e | e
      · obtain ⟨x, hx⟩ := List.exists_mem_of_ne_nil _ hne
        refine ⟨x, hx, ?_⟩
        unfold blowI
        rw [e]
        have : leO (leastO ((sortSet (wb.first[i]?.getD [])).map (rowO r))) (rowO r x) := leastO_le (List.mem_map_of_mem (mem_sortSet.mpr hx))
        rw [e] at this
        exact (leO_none this).symm
      · obtain ⟨x, hx, e2⟩ := List.mem_map.mp e
        exact ⟨x, mem_sortSet.mp hx, e2.symm⟩
    have := first_in V i x hx
    exact ⟨x, hx, by rw [encR_at this.1 (by omega), e]⟩
  · have := first_in V i x hx
    rw [encR_at this.1 (by omega)]
    refine eO_mono (leastO_le (List.mem_map_of_mem (mem_sortSet.mpr hx))) fun v e => ?_
    unfold blowI at e
    rcases leastO_mem ((sortSet (wb.first[i]?.getD [])).map (rowO r)) with z | z
    · rw [z] at e; cases e
    · rw [e] at z
      obtain ⟨y, _, e2⟩ := List.mem_map.mp z
      exact rowO_bd hb v e2
theorem high_enc (V : Valid wb) {i : Nat} (hne : wb.second[i]?.getD [] ≠ []) {r : List OI} (hl : r.length = wb.marks.length) (hb : BdM r) : highI (encR r) (wb.second[i]?.getD []) = eO (bhighI wb r i) := by
  have ne : (sortSet (wb.second[i]?.getD [])).map (rowO r) ≠ [] := fun z => by
    have := sortSet_ne hne
    cases e : sortSet (wb.second[i]?.getD []) with
    | nil => exact this e
    | cons a b => rw [e] at z; cases z
  refine high_uniq (highI_is hne) ⟨?_, fun x hx => ?_⟩
  · obtain ⟨x, hx, e2⟩ := List.mem_map.mp (greatestO_mem ne)
    have := second_in V i x (mem_sortSet.mp hx)
    exact ⟨x, mem_sortSet.mp hx, by rw [encR_at this.1 (by omega), e2]; rfl⟩
  · have := second_in V i x hx
    rw [encR_at this.1 (by omega)]
    exact eO_mono (le_greatestO (List.mem_map_of_mem (mem_sortSet.mpr hx))) (rowO_bd hb)
/-- the law's cost of the bid x -/
def costX (wb : Wb) (rows : List (List Int)) (R : List Int) (b i x : Nat) : Int :=
  let rest : Int := if wb.marks[i]?.getD 0 = 2 then (b : Int) - x else (b : Int) - x - 1
  let high := if 0 ≤ rest ∧ rest = b then highI R (wb.second[i]?.getD []) else if 0 ≤ rest then highI (rows[rest.toNat]?.getD []) (wb.second[i]?.getD []) else 0
  if wb.marks[i]?.getD 0 = 2 ∧ x = 0 then high else max ((x : Int) + lowI R (wb.first[i]?.getD [])) high
def bestX (wb : Wb) (rows : List (List Int)) (R : List Int) (b i : Nat) : Nat → Int
  | 0 => 1000000
  | n + 1 => min (bestX wb rows R b i n) (costX wb rows R b i n)
theorem le_bestX {rows : List (List Int)} {R : List Int} {b i : Nat} {c : Int} : ∀ {n : Nat}, c ≤ bestX wb rows R b i n ↔ c ≤ 1000000 ∧ ∀ x, x < n → c ≤ costX wb rows R b i x
  | 0 => by simp [bestX]
  | n + 1 => by
    have ih := le_bestX (rows := rows) (R := R) (b := b) (i := i) (c := c) (n := n)
    have e : c ≤ bestX wb rows R b i (n + 1) ↔ c ≤ bestX wb rows R b i n ∧ c ≤ costX wb rows R b i n := by
      show c ≤ min _ _ ↔ _
      omega
    rw [e, ih]
    constructor
    · rintro ⟨⟨h1, h2⟩, h3⟩
      refine ⟨h1, fun x hx => ?_⟩
      by_cases z : x = n
      · rw [z]; exact h3
      · exact h2 x (by omega)
    · rintro ⟨h1, h2⟩
      exact ⟨⟨h1, fun x hx => h2 x (by omega)⟩, h2 n (by omega)⟩
theorem law_cost_ev (V : Valid wb) {rows : List (List Int)} {R : List Int} {b i : Nat} (hb : b < 100) (hi : i < wb.marks.length) (hne : wb.first[i]?.getD [] ≠ []) (hR : R.length = wb.marks.length) (hrows : rows.length = b ∧ ∀ r ∈ rows, r.length = wb.marks.length) (p : List Int) :
    D_law_bank_cost [.lst (encW wb), .lst (rows.map fun r => lI r), lI R, .int (b : Int), .int (i : Int), .int 1000000] p = .ok (.int (bestX wb rows R b i (b + 2))) p := by
  obtain ⟨f, s, mk, h⟩ := here_ex V (i := (i : Int)) (by omega) (by omega)
  have ef : wb.first[i]?.getD [] = f := by have := h.hf; simp at this; simp [this]
  have es : wb.second[i]?.getD [] = s := by have := h.hs; simp at this; simp [this]
  have em : wb.marks[i]?.getD 0 = mk := by have := h.hm; simp at this; simp [this]
  rw [ef] at hne
  have hsne := Here.ne V h hne
  have elow : D_law_low [.lst (encW wb), lI R, .int (i : Int)] p = .ok (.int (lowI R f)) p := law_low_ev V h hne hR p
  have ehigh : ∀ r : List Int, r.length = wb.marks.length → D_law_high [.lst (encW wb), lI r, .int (i : Int)] p = .ok (.int (highI r s)) p := fun r hr => law_high_ev V h hsne hr p
  have emk : fIx (dI wb.marks) (.int (i : Int)) = some (.int mk) := by show atI (wb.marks.map D.int) _ = _; exact h.m1
  obtain ⟨ST, hST⟩ : ∃ ST : Option L → Int → Option L → Option L → Option L → Option L → Den.Loc, ST = fun o6 best o8 o9 o10 o11 => [dd (.lst (encW wb)), dd (.lst (rows.map fun r => lI r)), dd (lI R), dd (.int (b : Int)), dd (.int (i : Int)), dd (.int 1000000), o6, dd (.int best), o8, o9, o10, o11] := ⟨_, rfl⟩
  have turn : ∀ (x : Nat), x < b + 2 → ∀ (best : Int) (o9 o10 o11 : Option L), ∃ o9' o10' o11', L_law_bank_cost_3 (ST (dd (.int (lowI R f))) best (dd (.int (0 + (x : Int)))) o9 o10 o11) p = .nx (ST (dd (.int (lowI R f))) (min best (costX wb rows R b i x)) (dd (.int (0 + (x : Int)))) o9' o10' o11') p := fun x hx best o9 o10 o11 => by
    rw [Int.zero_add]
    obtain ⟨rest, hrest⟩ : ∃ rest : Int, rest = if mk = 2 then (b : Int) - x else (b : Int) - x - 1 := ⟨_, rfl⟩
    obtain ⟨high, hhigh⟩ : ∃ high : Int, high = if 0 ≤ rest ∧ rest = b then highI R s else if 0 ≤ rest then highI (rows[rest.toNat]?.getD []) s else 0 := ⟨_, rfl⟩
    obtain ⟨cost, hcost⟩ : ∃ cost : Int, cost = if mk = 2 ∧ x = 0 then high else max ((x : Int) + lowI R f) high := ⟨_, rfl⟩
    have hc : costX wb rows R b i x = cost := by
      rw [hcost, hhigh, hrest]
      unfold costX
      simp only [ef, es, em]
    rw [hc]
    refine ⟨dd (.int rest), dd (.int high), dd (.int cost), ?_⟩
    have S1 : sseq b_law_bank_cost_3l1 b_law_bank_cost_3l2 (ST (dd (.int (lowI R f))) best (dd (.int (x : Int))) o9 o10 o11) p = .nx (ST (dd (.int (lowI R f))) best (dd (.int (x : Int))) (dd (.int rest)) o10 o11) p := by
      subst hST
      by_cases c : mk = 2
      · simp [b_law_bank_cost_3l1, b_law_bank_cost_3l2, mvar, enc2, emk, hrest, c]
      · simp [b_law_bank_cost_3l1, b_law_bank_cost_3l2, mvar, enc2, emk, hrest, c]
    have S2 : sasg (mret (D.int 0)) (gset 10) (ST (dd (.int (lowI R f))) best (dd (.int (x : Int))) (dd (.int rest)) o10 o11) p = .nx (ST (dd (.int (lowI R f))) best (dd (.int (x : Int))) (dd (.int rest)) (dd (.int 0)) o11) p := by
      subst hST
      simp
    have S3 : b_law_bank_cost_3l4 (ST (dd (.int (lowI R f))) best (dd (.int (x : Int))) (dd (.int rest)) (dd (.int 0)) o11) p = .nx (ST (dd (.int (lowI R f))) best (dd (.int (x : Int))) (dd (.int rest)) (dd (.int high)) o11) p := by
      subst hST
      by_cases c1 : 0 ≤ rest
      · by_cases c2 : rest = b
        · have e := ehigh R hR
          simp [b_law_bank_cost_3l4, mvar, hhigh, c1, c2, e]
        · have hlt : rest.toNat < rows.length := by rw [hrows.1]; have : rest ≤ b := by rw [hrest]; split <;> omega
                                                    omega
          have er : rows[rest.toNat]?.getD [] = rows[rest.toNat] := by simp [hlt]
          have e := ehigh rows[rest.toNat] (hrows.2 _ (List.getElem_mem hlt))
          have ea : atI (rows.map fun r => lI r) rest = some (lI rows[rest.toNat]) := atI_nat' c1 (by rw [List.getElem?_map, List.getElem?_eq_getElem hlt]; rfl)
          rw [er] at hhigh
          simp [b_law_bank_cost_3l4, mvar, hhigh, c1, c2, ea, e]
      · simp [b_law_bank_cost_3l4, mvar, hhigh, c1]
    have S4 : sseq b_law_bank_cost_3l5 b_law_bank_cost_3l6 (ST (dd (.int (lowI R f))) best (dd (.int (x : Int))) (dd (.int rest)) (dd (.int high)) o11) p = .nx (ST (dd (.int (lowI R f))) best (dd (.int (x : Int))) (dd (.int rest)) (dd (.int high)) (dd (.int cost))) p := by
      subst hST
      by_cases c : mk = 2
      · by_cases c2 : x = 0
        · simp [b_law_bank_cost_3l5, b_law_bank_cost_3l6, mvar, enc2, emk, c, c2, hcost]
        · have : ¬ ((x : Int) = 0) := by omega
          simp [b_law_bank_cost_3l5, b_law_bank_cost_3l6, mvar, enc2, emk, c, c2, hcost, this, fMax2_mx, -fMax2_int]
      · simp [b_law_bank_cost_3l5, b_law_bank_cost_3l6, mvar, enc2, emk, c, hcost, fMax2_mx, -fMax2_int]
    have S5 : b_law_bank_cost_3l7 (ST (dd (.int (lowI R f))) best (dd (.int (x : Int))) (dd (.int rest)) (dd (.int high)) (dd (.int cost))) p = .nx (ST (dd (.int (lowI R f))) (min best cost) (dd (.int (x : Int))) (dd (.int rest)) (dd (.int high)) (dd (.int cost))) p := by
      subst hST
      simp [b_law_bank_cost_3l7, mvar, fMin2_mn, -fMin2_int]
    unfold L_law_bank_cost_3
    rw [sseq_as, seq_nx S1, seq_nx S2, seq_nx S3, sseq_as, seq_nx S4, S5]
  have LE : ∃ o8 o9 o10 o11, b_law_bank_cost_3 (ST (dd (.int (lowI R f))) 1000000 none none none none) p = .nx (ST (dd (.int (lowI R f))) (bestX wb rows R b i (b + 2)) o8 o9 o10 o11) p := by
    obtain ⟨l', q, e, rfl, o8, o9, o10, o11, rfl⟩ := loop_run (tg := gset 8) (body := L_law_bank_cost_3)
      (fun (j : Nat) (l : Den.Loc) (q : List Int) => q = p ∧ ∃ o8 o9 o10 o11, l = ST (dd (.int (lowI R f))) (bestX wb rows R b i j) o8 o9 o10 o11)
      (ds := rngD 0 (b + 2)) (k := 0) (l := ST (dd (.int (lowI R f))) 1000000 none none none none) (p := p) ⟨rfl, none, none, none, none, rfl⟩ (fun x d l q hd hI => by
        obtain ⟨rfl, o8, o9, o10, o11, rfl⟩ := hI
        rw [Nat.zero_add] at *
        obtain ⟨hx, rfl⟩ := rngD_get hd
        obtain ⟨o9', o10', o11', e⟩ := turn x hx (bestX wb rows R b i x) o9 o10 o11
        exact ⟨ST (dd (.int (lowI R f))) (bestX wb rows R b i x) (dd (.int (0 + (x : Int)))) o9 o10 o11, by subst hST; simp, _, q, .inl e, rfl, dd (.int (0 + (x : Int))), o9', o10', o11', rfl⟩)
    refine ⟨o8, o9, o10, o11, ?_⟩
    rw [Nat.zero_add, rngD_len] at e
    unfold b_law_bank_cost_3
    have er : rng1 [.int ((b : Int) + 2)] = some (rngD 0 (b + 2)) := by
      rw [rng1_int (by omega)]
      congr 1
    subst hST
    simp only [sfor_ev, mbind_ev, acons_ev, op2_ev, mvar, mret_ev, List.getElem?_cons_succ, List.getElem?_cons_zero, bind_ok, fAdd_int, mlift_some, anil_ev, er, toO_ok]
    exact e
  obtain ⟨o8, o9, o10, o11, LE⟩ := LE
  unfold D_law_bank_cost
  rw [denF_ev (by rfl)]
  show outR (dn_law_bank_cost [dd (.lst (encW wb)), dd (.lst (rows.map fun r => lI r)), dd (lI R), dd (.int (b : Int)), dd (.int (i : Int)), dd (.int 1000000), none, none, none, none, none, none] p) = _
  have T1 : sseq b_law_bank_cost_1 (sasg (mvar 5) (gset 7)) [dd (.lst (encW wb)), dd (.lst (rows.map fun r => lI r)), dd (lI R), dd (.int (b : Int)), dd (.int (i : Int)), dd (.int 1000000), none, none, none, none, none, none] p = .nx (ST (dd (.int (lowI R f))) 1000000 none none none none) p := by
    subst hST
    simp [b_law_bank_cost_1, mvar, elow]
  unfold dn_law_bank_cost
  rw [sseq_as, seq_nx T1, seq_nx LE]
  subst hST
  simp [mvar]
end
end PL
namespace PL
open PySem L2 Den
theorem fixG_more {α : Type} [DecidableEq α] {g : α → α} : ∀ (n m : Nat) (r : α), n ≤ m → g (fixG g n r) = fixG g n r → fixG g m r = fixG g n r
  | 0, m, r, _, h => by
    have h : g r = r := h
    cases m with
    | zero => rfl
    | succ m => exact if_pos h
  | n + 1, m, r, hm, h => by
    obtain ⟨m, rfl⟩ : ∃ k, m = k + 1 := ⟨m - 1, by omega⟩
    by_cases c : g r = r
    · have e1 : fixG g (n + 1) r = r := if_pos c
      have e2 : fixG g (m + 1) r = r := if_pos c
      rw [e1, e2]
    · have e1 : fixG g (n + 1) r = fixG g n (g r) := if_neg c
      have e2 : fixG g (m + 1) r = fixG g m (g r) := if_neg c
      rw [e1] at h ⊢
      rw [e2]
      exact fixG_more n m (g r) (by omega) h
section
variable {wb : Wb}
/-- the law's turns -/
def fuelL (wb : Wb) (b : Nat) : Nat := wb.marks.length * (wb.marks.length * (b + 2) + 8)
theorem fuel_enough (V : Valid wb) {r : List OI} (hl : r.length = wb.marks.length) {b : Nat} (h : ∀ v, some v ∈ r → v ≤ 4) : sumO (4 + (wb.marks.length : Int) * ((b : Int) + 1) + 1) r < (fuelL wb b : Int) := by
  have n1 := V.n1
  have hp : 0 ≤ (wb.marks.length : Int) * ((b : Int) + 1) := Int.mul_nonneg (by omega) (by omega)
  have h1 := sumO_top (T := 4 + (wb.marks.length : Int) * ((b : Int) + 1) + 1) (r := r) fun v hv => by have := h v hv; omega
  rw [hl] at h1
  have e : (wb.marks.length : Int) * ((b : Int) + 2) = (wb.marks.length : Int) * ((b : Int) + 1) + wb.marks.length := by
    rw [show (b : Int) + 2 = ((b : Int) + 1) + 1 by omega, Int.mul_add (wb.marks.length : Int) ((b : Int) + 1) 1, Int.mul_one]
  have h2 : (wb.marks.length : Int) * (4 + (wb.marks.length : Int) * ((b : Int) + 1) + 1) < (wb.marks.length : Int) * ((wb.marks.length : Int) * ((b : Int) + 2) + 8) := by
    refine Int.mul_lt_mul_of_pos_left ?_ (by omega)
    omega
  have e4 : ((fuelL wb b : Nat) : Int) = (wb.marks.length : Int) * ((wb.marks.length : Int) * ((b : Int) + 2) + 8) := by
    unfold fuelL
    rw [Int.natCast_mul, Int.natCast_add, Int.natCast_mul, Int.natCast_add]
    rfl
  rw [e4]
  omega
structure GoodB (wb : Wb) (b : Nat) : Prop where
  hs : HsI wb (hsB wb 900 b) b
  vals : ∀ i : Nat, i < wb.marks.length → wb.first[i]?.getD [] ≠ [] → (hsB wb 900 b)[i]?.getD [] = some 0 :: (List.range b).map fun j => bhighI wb (tabB wb 900 j) i
structure RowOk (wb : Wb) (b : Nat) : Prop where
  fall : FallO wb (hsB wb 900 b) 4 b (tabB wb 900 b)
  rest : Rests wb 900 b
  fuel : fixG (fun r => nextO wb r (hsB wb 900 b)) (fuelL wb b) (dues0 wb) = tabB wb 900 b
theorem dues0_bd {g : Int} (hg : ∀ d ∈ wb.dues, gdI d ≤ g) : ∀ v, some v ∈ dues0 wb → v ≤ g := fun v hv => by
  obtain ⟨d, hd, e⟩ := List.mem_map.mp hv
  have := hg d hd
  rcases d with _ | ⟨bb, x⟩
  · cases e
  · cases bb
    · cases e
    · cases e; exact this
theorem row_ok (V : Valid wb) (hg : ∀ d ∈ wb.dues, gdI d ≤ 4) {b : Nat} (hf : fuelL wb b ≤ 900) (G : GoodB wb b) : RowOk wb b := by
  have h := fallO_fix V hg G.hs (fuelL wb b) (dues0 wb) (fallO_first V hg) (fuel_enough V (dues0_len V) (dues0_bd hg))
  have e : fixG (fun r => nextO wb r (hsB wb 900 b)) 900 (dues0 wb) = fixG (fun r => nextO wb r (hsB wb 900 b)) (fuelL wb b) (dues0 wb) := fixG_more _ _ _ hf h.2
  have e2 : tabB wb 900 b = fixG (fun r => nextO wb r (hsB wb 900 b)) (fuelL wb b) (dues0 wb) := e
  exact ⟨by rw [e2]; exact h.1, by unfold Rests; rw [e2]; exact h.2, e2.symm⟩
theorem good_all (V : Valid wb) (hg : ∀ d ∈ wb.dues, gdI d ≤ 4) : ∀ b : Nat, fuelL wb b ≤ 900 → GoodB wb b
  | 0, _ => by
    refine ⟨⟨by simp [hsB, hs0], fun h hh => ?_, fun h hh v hv => ?_, fun i h hi _ => ?_⟩, fun i hi hne => ?_⟩
    · obtain ⟨_, _, rfl⟩ := List.mem_map.mp (show h ∈ hs0 wb from hh)
      rfl
    · obtain ⟨_, _, rfl⟩ := List.mem_map.mp (show h ∈ hs0 wb from hh)
      simp at hv
      omega
    · obtain ⟨_, _, rfl⟩ := List.mem_map.mp (show h ∈ hs0 wb from List.mem_of_getElem? hi)
      rfl
    · show (hs0 wb)[i]?.getD [] = _
      simp [hs0, hi]
  | b + 1, hf => by
    have hf0 : fuelL wb b ≤ 900 := by
      refine Nat.le_trans ?_ hf
      unfold fuelL
      exact Nat.mul_le_mul_left _ (Nat.add_le_add_right (Nat.mul_le_mul_left _ (by omega)) 8)
    have G := good_all V hg b hf0
    have R := row_ok V hg hf0 G
    have get : ∀ i : Nat, i < wb.marks.length → (hsB wb 900 (b + 1))[i]?.getD [] = if wb.first[i]?.getD [] = [] then (hsB wb 900 b)[i]?.getD [] else (hsB wb 900 b)[i]?.getD [] ++ [bhighI wb (tabB wb 900 b) i] := fun i hi => by
      show (withI wb (hsB wb 900 b) (tabB wb 900 b))[i]?.getD [] = _
      unfold withI
      rw [List.getElem?_map, List.getElem?_range (by rw [G.hs.len]; exact hi)]
      rfl
    have get' : ∀ h ∈ hsB wb 900 (b + 1), ∃ i, i < wb.marks.length ∧ h = if wb.first[i]?.getD [] = [] then (hsB wb 900 b)[i]?.getD [] else (hsB wb 900 b)[i]?.getD [] ++ [bhighI wb (tabB wb 900 b) i] := fun h hh => by
      obtain ⟨i, hi, rfl⟩ := List.mem_map.mp (show h ∈ withI wb (hsB wb 900 b) (tabB wb 900 b) from hh)
      exact ⟨i, by have := List.mem_range.mp hi; rw [G.hs.len] at this; exact this, rfl⟩
    have old : ∀ i, i < wb.marks.length → ∃ h, (hsB wb 900 b)[i]? = some h := fun i hi => ⟨_, List.getElem?_eq_getElem (by rw [G.hs.len]; exact hi)⟩
    refine ⟨⟨by show (withI wb (hsB wb 900 b) (tabB wb 900 b)).length = _; simp [withI, G.hs.len], fun h hh => ?_, fun h hh v hv => ?_, fun i h hi hne => ?_⟩, fun i hi hne => ?_⟩
    · obtain ⟨i, hi, rfl⟩ := get' h hh
      obtain ⟨g, eg⟩ := old i hi
      have := G.hs.first g (List.mem_of_getElem? eg)
      rw [eg]
      simp only [Option.getD_some]
      split
      · exact this
      · rw [List.getElem?_append_left (List.getElem?_eq_some_iff.mp this).1]; exact this
    · obtain ⟨i, hi, rfl⟩ := get' h hh
      obtain ⟨g, eg⟩ := old i hi
      rw [eg] at hv
      simp only [Option.getD_some] at hv
      by_cases c : wb.first[i]?.getD [] = []
      · rw [if_pos c] at hv; exact G.hs.nn g (List.mem_of_getElem? eg) v hv
      · rw [if_neg c] at hv
        rcases List.mem_append.mp hv with hv | hv
        · exact G.hs.nn g (List.mem_of_getElem? eg) v hv
        · exact bhigh_nn R.fall.nn (both_ne V hi c) (List.mem_singleton.mp hv).symm
    · have hi2 : i < wb.marks.length := by
        have : (hsB wb 900 (b + 1)).length = wb.marks.length := by
          show (withI wb (hsB wb 900 b) (tabB wb 900 b)).length = _
          simp [withI, G.hs.len]
        rw [← this]; exact (List.getElem?_eq_some_iff.mp hi).1
      have e := get i hi2
      rw [hi, if_neg hne] at e
      obtain ⟨g, eg⟩ := old i hi2
      have := G.hs.mv i g eg hne
      rw [eg] at e
      simp only [Option.getD_some] at e
      rw [e, List.length_append, this]
      rfl
    · rw [get i hi, if_neg hne, G.vals i hi hne, List.range_succ, List.map_append]
      rfl
theorem rowOk_bd (V : Valid wb) {b : Nat} (hb : b ≤ 60) {r : List OI} (F : FallO wb (hsB wb 900 b) 4 b r) : BdM r := fun v hv => by
  have n2 := V.n2
  have h1 := F.bd v hv
  have h2 := finC_le r
  rw [F.len] at h2
  have h3 : (finC r : Int) * ((b : Int) + 1) ≤ 60 * 61 := Int.mul_le_mul (by omega : (finC r : Int) ≤ 60) (by omega : (b : Int) + 1 ≤ 61) (by omega) (by omega)
  have h4 : (60 : Int) * 61 = 3660 := by decide
  rw [h4] at h3
  have h5 := F.nn v hv
  refine ⟨h5, ?_⟩
  generalize (finC r : Int) * ((b : Int) + 1) = Z at *
  omega
theorem cand_iff {c : Int} (hc : c ≤ 1000000) {more : Int} (hm : 0 ≤ more) {low h : OI} {x : Nat} (hl : ∀ v, low = some v → 0 ≤ v) : c ≤ max ((x : Int) + more + eO low) (eO h) ↔ leO (some c) (candO more low h x) := by
  cases low with
  | none =>
    simp only [eO, candO, Option.getD_none]
    exact ⟨fun _ => trivial, fun _ => by omega⟩
  | some lo =>
    cases h with
    | none =>
      simp only [eO, candO, Option.getD_none]
      exact ⟨fun _ => trivial, fun _ => by omega⟩
    | some v =>
      show c ≤ max ((x : Int) + more + lo) v ↔ c ≤ max (lo + (x : Int) + more) v
      omega
/-- the law's best cost is the price -/
theorem best_is (V : Valid wb) (hg : ∀ d ∈ wb.dues, gdI d ≤ 4) {b i : Nat} (hb : b ≤ 60) (hf : fuelL wb b ≤ 900) (hi : i < wb.marks.length) (hne : wb.first[i]?.getD [] ≠ []) {r : List OI} (F : FallO wb (hsB wb 900 b) 4 b r) :
    bestX wb ((List.range b).map fun j => encR (tabB wb 900 j)) (encR r) b i (b + 2) = eO (prO (wb.marks[i]?.getD 0) (blowI wb r i) ((hsB wb 900 b)[i]?.getD []) (bhighI wb r i)) := by
  have G := good_all V hg b hf
  have fuel0 : ∀ j, j ≤ b → fuelL wb j ≤ 900 := fun j hj => Nat.le_trans (by
    unfold fuelL
    exact Nat.mul_le_mul_left _ (Nat.add_le_add_right (Nat.mul_le_mul_left _ (by omega)) 8)) hf
  have hne2 := both_ne V hi hne
  have bd := rowOk_bd V hb F
  have elow := low_enc V hne F.len bd
  have ehigh := high_enc V hne2 F.len bd
  have bl0 : ∀ v, blowI wb r i = some v → 0 ≤ v := fun v e => blow_nn F.nn e
  have hv := G.vals i hi hne
  have hold : ∀ j, j < b → highI (((List.range b).map fun j => encR (tabB wb 900 j))[j]?.getD []) (wb.second[i]?.getD []) = eO (bhighI wb (tabB wb 900 j) i) := fun j hj => by
    have e : ((List.range b).map fun j => encR (tabB wb 900 j))[j]?.getD [] = encR (tabB wb 900 j) := by simp [hj]
    have R := row_ok V hg (fuel0 j (by omega)) (good_all V hg j (fuel0 j (by omega)))
    rw [e]
    exact high_enc V hne2 R.fall.len (rowOk_bd V (by omega) R.fall)
  have hmk : wb.marks[i]?.getD 0 = 1 ∨ wb.marks[i]?.getD 0 = 2 := by
    have e : wb.marks[i]? = some wb.marks[i] := List.getElem?_eq_getElem hi
    rw [e]
    exact V.mks _ (List.getElem_mem hi)
  obtain ⟨hs, ehs⟩ : ∃ hs, hs = (hsB wb 900 b)[i]?.getD [] := ⟨_, rfl⟩
  rw [← ehs] at hv ⊢
  have hlen : hs.length = b + 1 := by rw [hv]; simp
  have rev : ∀ x, x ≤ b → hs.reverse[x]? = some (if x = b then some 0 else bhighI wb (tabB wb 900 (b - x - 1)) i) := fun x hx => by
    rw [List.getElem?_reverse (by omega), hlen, hv]
    by_cases c : x = b
    · rw [if_pos c, c, show b + 1 - 1 - b = 0 by omega]; rfl
    · rw [if_neg c, show b + 1 - 1 - x = (b - x - 1) + 1 by omega, List.getElem?_cons_succ, List.getElem?_map, List.getElem?_range (by omega)]
      rfl
  have key : ∀ c : Int, c ≤ 1000000 → ((∀ x, x < b + 2 → c ≤ costX wb ((List.range b).map fun j => encR (tabB wb 900 j)) (encR r) b i x) ↔ leO (some c) (prO (wb.marks[i]?.getD 0) (blowI wb r i) hs (bhighI wb r i))) := fun c hc => by
    rw [le_prO]
    rcases hmk with hmk | hmk
    · have cost : ∀ x, x < b + 2 → costX wb ((List.range b).map fun j => encR (tabB wb 900 j)) (encR r) b i x = max ((x : Int) + 0 + eO (blowI wb r i)) (eO (if b ≤ x then some 0 else bhighI wb (tabB wb 900 (b - x - 1)) i)) := fun x hx => by
        unfold costX
        simp only [hmk, show ¬ ((1 : Int) = 2) by decide, if_false, false_and]
        rw [if_neg (by omega : ¬ (0 ≤ (b : Int) - x - 1 ∧ (b : Int) - x - 1 = b)), elow]
        by_cases c : b ≤ x
        · rw [if_neg (by omega : ¬ (0 ≤ (b : Int) - x - 1)), if_pos c, Int.add_zero]; rfl
        · rw [if_pos (by omega : 0 ≤ (b : Int) - x - 1), if_neg c, Int.add_zero, show ((b : Int) - x - 1).toNat = b - x - 1 by omega, hold (b - x - 1) (by omega)]
      rw [hmk]
      constructor
      · intro h
        refine ⟨fun z => absurd rfl z, fun x v hx => ?_⟩
        have hxb : x ≤ b := by have := (List.getElem?_eq_some_iff.mp hx).1; rw [List.length_reverse, hlen] at this; omega
        rw [rev x hxb] at hx
        have hx := (Option.some.inj hx).symm
        have := h x (by omega)
        rw [cost x (by omega)] at this
        rw [if_pos rfl, hx]
        refine (cand_iff hc (by decide) bl0).mp ?_
        by_cases c1 : x = b
        · rw [if_pos (by omega)] at this; rw [if_pos c1]; exact this
        · rw [if_neg (by omega)] at this; rw [if_neg c1]; exact this
      · rintro ⟨_, h⟩ x hx
        rw [cost x hx]
        by_cases c1 : b ≤ x
        · rw [if_pos c1]
          have := h b _ (rev b (Nat.le_refl b))
          rw [if_pos rfl, if_pos rfl] at this
          have := (cand_iff hc (by decide) bl0).mpr this
          have e0 : eO (some 0) = 0 := rfl
          rw [e0] at this ⊢
          omega
        · rw [if_neg c1]
          have := h x _ (rev x (by omega))
          rw [if_pos rfl, if_neg (by omega)] at this
          exact (cand_iff hc (by decide) bl0).mpr this
    · have cost0 : costX wb ((List.range b).map fun j => encR (tabB wb 900 j)) (encR r) b i 0 = eO (bhighI wb r i) := by
        unfold costX
        simp only [hmk, eq_self, true_and, if_true]
        rw [if_pos (by omega), ehigh]
      have cost : ∀ x, x + 1 < b + 2 → costX wb ((List.range b).map fun j => encR (tabB wb 900 j)) (encR r) b i (x + 1) = max ((x : Int) + 1 + eO (blowI wb r i)) (eO (if x = b then some 0 else bhighI wb (tabB wb 900 (b - x - 1)) i)) := fun x hx => by
        unfold costX
        simp only [hmk, eq_self, true_and, if_true]
        rw [if_neg (by omega : ¬ (x + 1 = 0)), if_neg (by omega : ¬ (0 ≤ (b : Int) - ((x + 1 : Nat) : Int) ∧ (b : Int) - ((x + 1 : Nat) : Int) = b)), elow]
        by_cases c : x = b
        · rw [if_neg (by omega : ¬ (0 ≤ (b : Int) - ((x + 1 : Nat) : Int))), if_pos c]; rfl
        · rw [if_pos (by omega : 0 ≤ (b : Int) - ((x + 1 : Nat) : Int)), if_neg c, show ((b : Int) - ((x + 1 : Nat) : Int)).toNat = b - x - 1 by omega, hold (b - x - 1) (by omega)]
          rfl
      rw [hmk]
      constructor
      · intro h
        refine ⟨fun _ => ?_, fun x v hx => ?_⟩
        · have := h 0 (by omega)
          rw [cost0] at this
          exact (le_eO hc).mp this
        · have hxb : x ≤ b := by have := (List.getElem?_eq_some_iff.mp hx).1; rw [List.length_reverse, hlen] at this; omega
          rw [rev x hxb] at hx
          have hx := (Option.some.inj hx).symm
          have := h (x + 1) (by omega)
          rw [cost x (by omega)] at this
          rw [if_neg (by decide), hx]
          exact (cand_iff hc (by decide) bl0).mp this
      · rintro ⟨h0, h⟩ x hx
        cases x with
        | zero => rw [cost0]; exact (le_eO hc).mpr (h0 (by decide))
        | succ x =>
          rw [cost x hx]
          have := h x _ (rev x (by omega))
          rw [if_neg (by decide)] at this
          exact (cand_iff hc (by decide) bl0).mpr this
  have top : eO (prO (wb.marks[i]?.getD 0) (blowI wb r i) hs (bhighI wb r i)) ≤ 1000000 := by
    cases e : prO (wb.marks[i]?.getD 0) (blowI wb r i) hs (bhighI wb r i) with
    | none => exact Int.le_refl _
    | some v =>
      show v ≤ 1000000
      rcases prO_fin e with ⟨lo, elo⟩ | ⟨hm, w, ew⟩
      · have h4 := prO_low (mk := wb.marks[i]?.getD 0) (hi := bhighI wb r i) (hs := hs) (b := b) (lo := lo) (by rw [hv]; rfl) hlen (bl0 lo elo)
        rw [← elo, e] at h4
        have h4 : v ≤ lo + b + 1 := h4
        have : lo < 900000 := by
          unfold blowI at elo
          rcases leastO_mem ((sortSet (wb.first[i]?.getD [])).map (rowO r)) with y | y
          · rw [y] at elo; cases elo
          · rw [elo] at y
            obtain ⟨x, _, e2⟩ := List.mem_map.mp y
            exact (bd lo (rowO_mem e2)).2
        omega
      · have h4 := prO_high (low := blowI wb r i) (hi := bhighI wb r i) (hs := hs) hm
        rw [e, ew] at h4
        have h4 : v ≤ w := h4
        have : w < 900000 := by
          have ne2 : (sortSet (wb.second[i]?.getD [])).map (rowO r) ≠ [] := fun z => by
            have := sortSet_ne hne2
            cases e : sortSet (wb.second[i]?.getD []) with
            | nil => exact this e
            | cons a b => rw [e] at z; cases z
          have hw := greatestO_mem ne2
          unfold bhighI at ew
          rw [ew] at hw
          obtain ⟨x, _, e2⟩ := List.mem_map.mp hw
          exact (bd w (rowO_mem e2)).2
        omega
  have b1 : ∀ c, c ≤ bestX wb ((List.range b).map fun j => encR (tabB wb 900 j)) (encR r) b i (b + 2) ↔ _ := fun c => le_bestX
  refine Int.le_antisymm ?_ ?_
  · have h := (b1 _).mp (Int.le_refl _)
    exact (le_eO h.1).mpr ((key _ h.1).mp h.2)
  · exact (b1 _).mpr ⟨top, (key _ top).mpr ((le_eO top).mp (Int.le_refl _))⟩
end
end PL
namespace PL
open PySem L2 Den
theorem encR_inj : ∀ {r s : List OI}, r.length = s.length → BdM r → BdM s → (encR r = encR s ↔ r = s)
  | [], [], _, _, _ => by simp [encR]
  | [], _ :: _, h, _, _ => by cases h
  | _ :: _, [], h, _, _ => by cases h
  | x :: r, y :: s, h, a, b => by
    have ih := encR_inj (r := r) (s := s) (by simpa using h) (fun v hv => a v (List.mem_cons_of_mem _ hv)) (fun v hv => b v (List.mem_cons_of_mem _ hv))
    have e : ∀ (x : OI) (r : List OI), encR (x :: r) = eO x :: encR r := fun _ _ => rfl
    rw [e, e, List.cons.injEq, List.cons.injEq, ih]
    have hx : eO x = eO y ↔ x = y := by
      cases x with
      | none =>
        cases y with
        | none => simp
        | some v =>
          have := b v List.mem_cons_self
          simp [eO]
          omega
      | some u =>
        have := a u List.mem_cons_self
        cases y with
        | none => simp [eO]; omega
        | some v => simp [eO]
    rw [hx]
section
variable {wb : Wb}
def ST7 (wb : Wb) (m : Nat) (b : Nat) (rows : List (List Int)) (R : List Int) (o4 o8 o9 o10 : Option L) : Den.Loc := [dd (.lst (encW wb)), dd (.int (m : Int)), dd (.int 1000000), dd (lI (encR (dues0 wb))), o4, some (.cell (rows.map fun r => lI r)), dd (.int (b : Int)), dd (lI R), o8, o9, o10]
/-- a mix of the new row and the dues -/
def mixR (wb : Wb) (b : Nat) (r : List OI) (j : Nat) : List Int := (List.range wb.marks.length).map fun i => if i < j then eO (nxO wb r (hsB wb 900 b) i) else eO ((dues0 wb)[i]?.getD none)
theorem mixR_0 (V : Valid wb) (b : Nat) (r : List OI) : mixR wb b r 0 = encR (dues0 wb) := by
  have hl := dues0_len V
  refine List.ext_getElem? fun i => ?_
  by_cases hi : i < wb.marks.length
  · have e : (dues0 wb)[i]? = some (dues0 wb)[i] := List.getElem?_eq_getElem (by omega)
    simp [mixR, encR, hi, e]
  · rw [List.getElem?_eq_none (by simp [mixR]; omega), List.getElem?_eq_none (by rw [encR_len]; omega)]
theorem mixR_all (b : Nat) (r : List OI) : mixR wb b r wb.marks.length = encR (nextO wb r (hsB wb 900 b)) := by
  refine List.ext_getElem? fun i => ?_
  by_cases hi : i < wb.marks.length
  · have e := nextO_get (r := r) (hs := hsB wb 900 b) hi
    have hl := nextO_len wb r (hsB wb 900 b)
    have e2 : (nextO wb r (hsB wb 900 b))[i]? = some (nextO wb r (hsB wb 900 b))[i] := List.getElem?_eq_getElem (by omega)
    rw [e2] at e
    simp only [Option.getD_some] at e
    simp [mixR, encR, hi, e2, e]
  · rw [List.getElem?_eq_none (by simp [mixR]; omega), List.getElem?_eq_none (by rw [encR_len, nextO_len]; omega)]
theorem mixR_len (b : Nat) (r : List OI) (j : Nat) : (mixR wb b r j).length = wb.marks.length := by simp [mixR]
theorem mixR_set {b : Nat} {r : List OI} {j : Nat} (hj : j < wb.marks.length) : (mixR wb b r j).set j (eO (nxO wb r (hsB wb 900 b) j)) = mixR wb b r (j + 1) := by
  refine List.ext_getElem? fun i => ?_
  by_cases hi : i < wb.marks.length
  · by_cases c : i = j
    · subst c
      rw [List.getElem?_set_self (by rw [mixR_len]; exact hi)]
      simp [mixR, hi]
    · rw [List.getElem?_set_ne (by omega)]
      have : (i < j) = (i < j + 1) := by simp; omega
      simp [mixR, hi, this]
  · rw [List.getElem?_eq_none (by rw [List.length_set, mixR_len]; omega), List.getElem?_eq_none (by rw [mixR_len]; omega)]
theorem mixR_same (V : Valid wb) {b : Nat} {r : List OI} {j : Nat} (hj : j < wb.marks.length) (hne : wb.first[j]?.getD [] = []) : mixR wb b r (j + 1) = mixR wb b r j := by
  refine List.ext_getElem? fun i => ?_
  by_cases hi : i < wb.marks.length
  · by_cases c : i = j
    · subst c
      have e : nxO wb r (hsB wb 900 b) i = (dues0 wb)[i]?.getD none := by
        rw [dues0_get V hi]
        unfold nxO
        rw [if_pos hne]
        exact leO_anti (leastO_le (by simp)) (le_leastO.mpr fun x hx => by
          rcases List.mem_cons.mp hx with rfl | hx
          · exact leO_refl _
          · rw [List.mem_singleton.mp hx]; exact leO_top _)
      simp [mixR, hi, e]
    · have : (i < j + 1) = (i < j) := by simp; omega
      simp [mixR, hi, this]
  · rw [List.getElem?_eq_none (by rw [mixR_len]; omega), List.getElem?_eq_none (by rw [mixR_len]; omega)]
theorem min_eO {x y : OI} : min (eO x) (eO y) = eO (leastO [x, y]) ∨ ¬ ((∀ v, x = some v → v ≤ 1000000) ∧ (∀ v, y = some v → v ≤ 1000000)) := by
  cases x with
  | none =>
    cases y with
    | none => left; simp [leastO, eO]
    | some v =>
      by_cases c : v ≤ 1000000
      · left; simp [leastO, eO, minL]; omega
      · right; intro h; exact c (h.2 v rfl)
  | some u =>
    cases y with
    | none =>
      by_cases c : u ≤ 1000000
      · left; simp [leastO, eO, minL]; omega
      · right; intro h; exact c (h.1 u rfl)
    | some v =>
      left
      simp [leastO, eO, minL]
      split <;> omega
/-- one stand -/
theorem law_stand7 (V : Valid wb) (hg : ∀ d ∈ wb.dues, gdI d ≤ 4) {m b j : Nat} (hb : b ≤ 60) (hf : fuelL wb b ≤ 900) (hj : j < wb.marks.length) {r : List OI} (F : FallO wb (hsB wb 900 b) 4 b r) (o4 o8 : Option L) (p : List Int) :
    L_law_bank_rows_5l2l2 (ST7 wb m b ((List.range b).map fun j => encR (tabB wb 900 j)) (encR r) o4 o8 (some (.cell ((mixR wb b r j).map .int))) (dd (.int (j : Int)))) p = .nx (ST7 wb m b ((List.range b).map fun j => encR (tabB wb 900 j)) (encR r) o4 o8 (some (.cell ((mixR wb b r (j + 1)).map .int))) (dd (.int (j : Int)))) p := by
  obtain ⟨f, s, mk, h⟩ := here_ex V (i := (j : Int)) (by omega) (by omega)
  have ef : wb.first[j]?.getD [] = f := by have := h.hf; simp at this; simp [this]
  have t0 : mtest (op2 fGt (opn fLen (acons (op2 fIx (op2 fIx (mvar 0) (mret (D.int 0))) (mvar 10)) anil)) (mret (D.int 0))) (ST7 wb m b ((List.range b).map fun j => encR (tabB wb 900 j)) (encR r) o4 o8 (some (.cell ((mixR wb b r j).map .int))) (dd (.int (j : Int)))) p = .ok (decide (0 < (f.length : Int))) p := by
    have e0 : fIx (.lst (encW wb)) (.int 0) = some (.lst (wb.first.map dI)) := by simp [encW]
    unfold ST7
    simp [mvar, e0, h.f2, dI]
  unfold L_law_bank_rows_5l2l2
  rw [sif_ev, t0]
  by_cases hne : f = []
  · rw [mixR_same V hj (by rw [ef]; exact hne), hne]
    simp
  · have hlen : 0 < f.length := List.length_pos_iff.mpr hne
    have hd : decide (0 < (f.length : Int)) = true := decide_eq_true (by omega)
    simp only [toO_ok, hd, if_true]
    have hne' : wb.first[j]?.getD [] ≠ [] := by rw [ef]; exact hne
    have fuel0 : ∀ j, j ≤ b → fuelL wb j ≤ 900 := fun j hj => Nat.le_trans (by
      unfold fuelL
      exact Nat.mul_le_mul_left _ (Nat.add_le_add_right (Nat.mul_le_mul_left _ (by omega)) 8)) hf
    have hrows : ((List.range b).map fun j => encR (tabB wb 900 j)).length = b ∧ ∀ r ∈ (List.range b).map fun j => encR (tabB wb 900 j), r.length = wb.marks.length := by
      refine ⟨by simp, fun r hr => ?_⟩
      obtain ⟨k, _, rfl⟩ := List.mem_map.mp hr
      rw [encR_len]
      exact rowB_len V 900 _
    have ec := law_cost_ev V (rows := (List.range b).map fun j => encR (tabB wb 900 j)) (R := encR r) (b := b) (i := j) (by omega) hj hne' (by rw [encR_len]; exact F.len) hrows p
    rw [best_is V hg hb hf hj hne' F] at ec
    have hl0 := dues0_len V
    have hd0 : (encR (dues0 wb))[j]? = some (eO ((dues0 wb)[j]?.getD none)) := by
      have e : (dues0 wb)[j]? = some (dues0 wb)[j] := List.getElem?_eq_getElem (by omega)
      simp [encR, e]
    have ed : atI ((encR (dues0 wb)).map D.int) (j : Int) = some (.int (eO ((dues0 wb)[j]?.getD none))) := atI_nat (by rw [List.getElem?_map, hd0]; rfl)
    have F2 := fallO_next V hg (good_all V hg b hf).hs F
    have hmin : min (eO ((dues0 wb)[j]?.getD none)) (eO (prO (wb.marks[j]?.getD 0) (blowI wb r j) ((hsB wb 900 b)[j]?.getD []) (bhighI wb r j))) = eO (nxO wb r (hsB wb 900 b) j) := by
      rw [dues0_get V hj]
      unfold nxO
      rw [if_neg hne']
      obtain ⟨x, hx⟩ : ∃ x, x = bdueI (wb.dues[j]?.getD none) := ⟨_, rfl⟩
      obtain ⟨y, hy⟩ : ∃ y, y = prO (wb.marks[j]?.getD 0) (blowI wb r j) ((hsB wb 900 b)[j]?.getD []) (bhighI wb r j) := ⟨_, rfl⟩
      have hxb : ∀ v, x = some v → v ≤ 1000000 := fun v e => by
        have : some v ∈ dues0 wb := by
          rw [← e, hx, ← dues0_get V hj]
          have e : (dues0 wb)[j]? = some (dues0 wb)[j] := List.getElem?_eq_getElem (by omega)
          rw [e]
          exact List.getElem_mem _
        have := dues0_bd hg v this
        omega
      have htop : eO y ≤ 1000000 := by
        have := le_bestX (wb := wb) (rows := (List.range b).map fun j => encR (tabB wb 900 j)) (R := encR r) (b := b) (i := j) (n := b + 2) (c := eO y)
        have e := best_is V hg hb hf hj hne' F
        rw [← hy] at e
        rw [e] at this
        exact (this.mp (Int.le_refl _)).1
      have hyb : ∀ v, y = some v → v ≤ 1000000 := fun v e => by rw [e] at htop; exact htop
      rw [← hx, ← hy]
      rcases min_eO (x := x) (y := y) with e | e
      · exact e
      · exact absurd ⟨hxb, hyb⟩ e
    have ha : mlend 5 (opn fMin2 (acons (op2 fIx (mvar 3) (mvar 10)) (acons (mcall D_law_bank_cost (acons (mvar 0) (acons (mvar 5) (acons (mvar 7) (acons (mvar 6) (acons (mvar 10) (acons (mvar 2) anil))))))) anil))) (ST7 wb m b ((List.range b).map fun j => encR (tabB wb 900 j)) (encR r) o4 o8 (some (.cell ((mixR wb b r j).map .int))) (dd (.int (j : Int)))) p = .ok (.int (eO (nxO wb r (hsB wb 900 b) j))) p := by
      refine mlendG_ev (ds := ((List.range b).map fun j => encR (tabB wb 900 j)).map fun r => lI r) rfl ?_ rfl
      unfold ST7
      rw [← hmin]
      simp only [opn_ev, acons_ev, op2_ev, mcall_ev, mvar, List.set_cons_succ, List.set_cons_zero, List.getElem?_cons_succ, List.getElem?_cons_zero, bind_ok, fIx_lst, ed, mlift_some, anil_ev, ec, fMin2_mn]
    have hk : mlend 5 (mvar 10) (ST7 wb m b ((List.range b).map fun j => encR (tabB wb 900 j)) (encR r) o4 o8 (some (.cell ((mixR wb b r j).map .int))) (dd (.int (j : Int)))) p = .ok (.int (j : Int)) p :=
      mlendG_ev (ds := ((List.range b).map fun j => encR (tabB wb 900 j)).map fun r => lI r) rfl (by unfold ST7; simp [mvar]) rfl
    rw [sput_ev (ds := (mixR wb b r j).map .int) (j := j) rfl ha hk (by rw [List.length_map, mixR_len]; exact hj)]
    unfold ST7
    rw [← mixR_set hj, List.map_set]
    rfl
/-- one round -/
theorem law_round7 (V : Valid wb) (hg : ∀ d ∈ wb.dues, gdI d ≤ 4) {m b : Nat} (hb : b ≤ 60) (hf : fuelL wb b ≤ 900) {r : List OI} (F : FallO wb (hsB wb 900 b) 4 b r) (o4 o8 o9 o10 : Option L) (p : List Int) :
    ∃ o9' o10', L_law_bank_rows_5l2 (ST7 wb m b ((List.range b).map fun j => encR (tabB wb 900 j)) (encR r) o4 o8 o9 o10) p = if nextO wb r (hsB wb 900 b) = r then .bk (ST7 wb m b ((List.range b).map fun j => encR (tabB wb 900 j)) (encR r) o4 o8 o9' o10') p else .nx (ST7 wb m b ((List.range b).map fun j => encR (tabB wb 900 j)) (encR (nextO wb r (hsB wb 900 b))) o4 o8 o9' o10') p := by
  have n2 := V.n2
  have F2 := fallO_next V hg (good_all V hg b hf).hs F
  have T1 : sown (mlistN (acons (mvar 3) anil)) 9 (ST7 wb m b ((List.range b).map fun j => encR (tabB wb 900 j)) (encR r) o4 o8 o9 o10) p = .nx (ST7 wb m b ((List.range b).map fun j => encR (tabB wb 900 j)) (encR r) o4 o8 (some (.cell ((mixR wb b r 0).map .int))) o10) p := by
    rw [mixR_0 V]
    unfold ST7
    simp [mvar]
  have T2 : ∃ o10', b_law_bank_rows_5l2l2 (ST7 wb m b ((List.range b).map fun j => encR (tabB wb 900 j)) (encR r) o4 o8 (some (.cell ((mixR wb b r 0).map .int))) o10) p = .nx (ST7 wb m b ((List.range b).map fun j => encR (tabB wb 900 j)) (encR r) o4 o8 (some (.cell ((mixR wb b r wb.marks.length).map .int))) o10') p := by
    obtain ⟨l', q, e, rfl, o10', rfl⟩ := loop_run (tg := gset 10) (body := L_law_bank_rows_5l2l2)
      (fun (j : Nat) (l : Den.Loc) (q : List Int) => q = p ∧ ∃ o10', l = ST7 wb m b ((List.range b).map fun j => encR (tabB wb 900 j)) (encR r) o4 o8 (some (.cell ((mixR wb b r j).map .int))) o10')
      (ds := rngD 0 wb.marks.length) (k := 0) (l := ST7 wb m b ((List.range b).map fun j => encR (tabB wb 900 j)) (encR r) o4 o8 (some (.cell ((mixR wb b r 0).map .int))) o10) (p := p) ⟨rfl, o10, rfl⟩ (fun j d l q hd hI => by
        obtain ⟨rfl, o10', rfl⟩ := hI
        rw [Nat.zero_add] at *
        obtain ⟨hj, rfl⟩ := rngD_get hd
        rw [Int.zero_add]
        exact ⟨ST7 wb m b ((List.range b).map fun j => encR (tabB wb 900 j)) (encR r) o4 o8 (some (.cell ((mixR wb b r j).map .int))) (dd (.int (j : Int))), by unfold ST7; simp, _, q, .inl (law_stand7 V hg hb hf hj F o4 o8 q), rfl, dd (.int (j : Int)), rfl⟩)
    refine ⟨o10', ?_⟩
    rw [Nat.zero_add, rngD_len] at e
    unfold b_law_bank_rows_5l2l2
    have er : rng1 [.int (((encR r).map D.int).length : Int)] = some (rngD 0 wb.marks.length) := by
      rw [rng1_int (by rw [List.length_map, encR_len, F.len]; omega), Int.toNat_natCast, List.length_map, encR_len, F.len]
    unfold ST7 at e ⊢
    simp only [sfor_ev, mbind_ev, acons_ev, opn_ev, mvar, List.getElem?_cons_succ, List.getElem?_cons_zero, bind_ok, anil_ev, fLen_lst, mlift_some, er, toO_ok]
    exact e
  obtain ⟨o10', T2⟩ := T2
  rw [mixR_all] at T2
  have T3 : b_law_bank_rows_5l2l3 (ST7 wb m b ((List.range b).map fun j => encR (tabB wb 900 j)) (encR r) o4 o8 (some (.cell ((encR (nextO wb r (hsB wb 900 b))).map .int))) o10') p = if nextO wb r (hsB wb 900 b) = r then .bk (ST7 wb m b ((List.range b).map fun j => encR (tabB wb 900 j)) (encR r) o4 o8 (some (.cell ((encR (nextO wb r (hsB wb 900 b))).map .int))) o10') p else .nx (ST7 wb m b ((List.range b).map fun j => encR (tabB wb 900 j)) (encR r) o4 o8 (some (.cell ((encR (nextO wb r (hsB wb 900 b))).map .int))) o10') p := by
    have et : mlendT 9 (mtest (op2 (fEqD false) (mvar 9) (mvar 7))) (ST7 wb m b ((List.range b).map fun j => encR (tabB wb 900 j)) (encR r) o4 o8 (some (.cell ((encR (nextO wb r (hsB wb 900 b))).map .int))) o10') p = .ok (decide (encR (nextO wb r (hsB wb 900 b)) = encR r)) p :=
      mlendG_ev (ds := (encR (nextO wb r (hsB wb 900 b))).map .int) rfl (by
        unfold ST7
        simp only [mtest_ev, op2_ev, mvar, List.set_cons_succ, List.set_cons_zero, List.getElem?_cons_succ, List.getElem?_cons_zero, bind_ok, eq_lI, mlift_some, boolOf_bl]) rfl
    have hi := encR_inj (r := nextO wb r (hsB wb 900 b)) (s := r) (by rw [nextO_len, F.len]) (rowOk_bd V hb F2) (rowOk_bd V hb F)
    unfold b_law_bank_rows_5l2l3
    rw [sif_ev, et]
    by_cases c : nextO wb r (hsB wb 900 b) = r
    · rw [if_pos c]
      have : decide (encR (nextO wb r (hsB wb 900 b)) = encR r) = true := decide_eq_true (hi.mpr c)
      simp only [toO_ok, this, if_true]
      rfl
    · rw [if_neg c]
      have : decide (encR (nextO wb r (hsB wb 900 b)) = encR r) = false := decide_eq_false fun z => c (hi.mp z)
      simp only [toO_ok, this]
      simp
  unfold L_law_bank_rows_5l2
  rw [seq_nx T1, seq_nx T2]
  by_cases c : nextO wb r (hsB wb 900 b) = r
  · rw [if_pos c] at T3
    refine ⟨some (.cell ((encR (nextO wb r (hsB wb 900 b))).map .int)), o10', ?_⟩
    rw [if_pos c, sseq_ev, T3]
    rfl
  · rw [if_neg c] at T3
    refine ⟨dd (lI (encR (nextO wb r (hsB wb 900 b)))), o10', ?_⟩
    rw [if_neg c, seq_nx T3]
    unfold ST7
    simp [sgive, mvar]
/-- all rounds of one row -/
theorem law_rounds7 (V : Valid wb) (hg : ∀ d ∈ wb.dues, gdI d ≤ 4) {m b : Nat} (hb : b ≤ 60) (hf : fuelL wb b ≤ 900) (o4 : Option L) (p : List Int) : ∀ (ds : List D) (r : List OI) (o8 o9 o10 : Option L), FallO wb (hsB wb 900 b) 4 b r →
    ∃ o8' o9' o10', loop (gset 8) L_law_bank_rows_5l2 ds (ST7 wb m b ((List.range b).map fun j => encR (tabB wb 900 j)) (encR r) o4 o8 o9 o10) p = .nx (ST7 wb m b ((List.range b).map fun j => encR (tabB wb 900 j)) (encR (fixG (fun r => nextO wb r (hsB wb 900 b)) ds.length r)) o4 o8' o9' o10') p
  | [], r, o8, o9, o10, _ => ⟨o8, o9, o10, rfl⟩
  | d :: ds, r, o8, o9, o10, F => by
    obtain ⟨o9', o10', e⟩ := law_round7 V hg (m := m) hb hf F o4 (some (.dat d)) o9 o10 p
    have e1 : gset 8 d (ST7 wb m b ((List.range b).map fun j => encR (tabB wb 900 j)) (encR r) o4 o8 o9 o10) = some (ST7 wb m b ((List.range b).map fun j => encR (tabB wb 900 j)) (encR r) o4 (some (.dat d)) o9 o10) := by unfold ST7; simp
    rw [List.length_cons]
    by_cases c : nextO wb r (hsB wb 900 b) = r
    · rw [if_pos c] at e
      have ef : fixG (fun r => nextO wb r (hsB wb 900 b)) (ds.length + 1) r = r := if_pos c
      rw [ef]
      refine ⟨some (.dat d), o9', o10', ?_⟩
      unfold loop
      rw [e1]
      simp only [e]
    · rw [if_neg c] at e
      have ef : fixG (fun r => nextO wb r (hsB wb 900 b)) (ds.length + 1) r = fixG (fun r => nextO wb r (hsB wb 900 b)) ds.length (nextO wb r (hsB wb 900 b)) := if_neg c
      rw [ef]
      obtain ⟨a, b', c', e2⟩ := law_rounds7 V hg (m := m) hb hf o4 p ds (nextO wb r (hsB wb 900 b)) (some (.dat d)) o9' o10' (fallO_next V hg (good_all V hg b hf).hs F)
      refine ⟨a, b', c', ?_⟩
      unfold loop
      rw [e1]
      simp only [e]
      exact e2
/-- the law's table -/
theorem law_table_ev (V : Valid wb) (hg : ∀ d ∈ wb.dues, gdI d ≤ 4) {m : Nat} (hm : m ≤ 60) (hf : fuelL wb m ≤ 900) (p : List Int) : D_law_bank_rows [.lst (encW wb), .int (m : Int)] p = .ok (.lst ((List.range (m + 1)).map fun b => lI (encR (tabB wb 900 b)))) p := by
  have n2 := V.n2
  have l3 := V.l3
  have fuel0 : ∀ j, j ≤ m → fuelL wb j ≤ 900 := fun j hj => Nat.le_trans (by
    unfold fuelL
    exact Nat.mul_le_mul_left _ (Nat.add_le_add_right (Nat.mul_le_mul_left _ (by omega)) 8)) hf
  unfold D_law_bank_rows
  rw [denF_ev (by rfl)]
  show outR (dn_law_bank_rows [dd (.lst (encW wb)), dd (.int (m : Int)), none, none, none, none, none, none, none, none, none] p) = _
  have e3 : fIx (.lst (encW wb)) (.int 3) = some (.lst (wb.dues.map dDue)) := by simp [encW]
  have T1 : b_law_bank_rows_1 [dd (.lst (encW wb)), dd (.int (m : Int)), none, none, none, none, none, none, none, none, none] p = .nx [dd (.lst (encW wb)), dd (.int (m : Int)), dd (.int 1000000), none, none, none, none, none, none, none, none] p := by
    have : fPow (.int 10) (.int 6) = some (.int 1000000) := by kernel_rfl
    simp [b_law_bank_rows_1, this]
  have T3 : ∃ o4, b_law_bank_rows_3 [dd (.lst (encW wb)), dd (.int (m : Int)), dd (.int 1000000), some (.cell []), none, none, none, none, none, none, none] p = .nx [dd (.lst (encW wb)), dd (.int (m : Int)), dd (.int 1000000), some (.cell ((encR (dues0 wb)).map .int)), o4, none, none, none, none, none, none] p := by
    obtain ⟨o4, e⟩ := loop_gather (i := 4) (body := L_law_bank_rows_3) (fun o ds => [dd (.lst (encW wb)), dd (.int (m : Int)), dd (.int 1000000), some (.cell ds), o, none, none, none, none, none, none]) (p := p) (fun _ _ _ => rfl) dDue (fun d => [D.int (eO (bdueI d))]) (xs := wb.dues) (acc := []) (o := none) (fun d _ acc hacc => by
      have e4 : ∀ (o : Option L) (x : M D), sappend 3 x [dd (.lst (encW wb)), dd (.int (m : Int)), dd (.int 1000000), some (.cell acc), o, none, none, none, none, none, none] p = _ := fun o x => sappend_ev (ds := acc) rfl (by omega)
      rcases d with _ | ⟨b, x⟩
      · simp [L_law_bank_rows_3, mvar, dDue, e4, bdueI, eO]
      · cases b
        · simp [L_law_bank_rows_3, mvar, dDue, e4, bdueI, eO, fEq_str, show ¬ (("less" : Str) = "chips") by decide]
        · simp [L_law_bank_rows_3, mvar, dDue, e4, bdueI, eO, fEq_str]) (fun _ => by simp) (by simp; omega)
    refine ⟨o4, ?_⟩
    unfold b_law_bank_rows_3
    simp only [sfor_ev, mbind_ev, op2_ev, mvar, mret_ev, List.getElem?_cons_succ, List.getElem?_cons_zero, bind_ok, e3, mlift_some, lstOf_lst, toO_ok]
    rw [e]
    congr 5
    rw [List.nil_append]
    have : ∀ ds : List Due, (ds.map fun d => [D.int (eO (bdueI d))]).flatten = ((ds.map bdueI).map eO).map D.int := fun ds => by
      induction ds with
      | nil => rfl
      | cons d ds ih => simp only [List.map_cons, List.flatten_cons, ih]; rfl
    exact congrArg (fun z => some (L.cell z)) (this wb.dues)
  obtain ⟨o4, T3⟩ := T3
  obtain ⟨SL, hSL⟩ : ∃ SL : Option L → Nat → Option L → Option L → Option L → Option L → Option L → Den.Loc, SL = fun o3 j o6 o7 o8 o9 o10 => [dd (.lst (encW wb)), dd (.int (m : Int)), dd (.int 1000000), o3, o4, some (.cell (((List.range j).map fun b => encR (tabB wb 900 b)).map fun r => lI r)), o6, o7, o8, o9, o10] := ⟨_, rfl⟩
  have T5 : ∃ o3 o6 o7 o8 o9 o10, b_law_bank_rows_5 (SL (some (.cell ((encR (dues0 wb)).map .int))) 0 none none none none none) p = .nx (SL o3 (m + 1) o6 o7 o8 o9 o10) p := by
    obtain ⟨l', q, e, rfl, o3, o6, o7, o8, o9, o10, rfl, _⟩ := loop_run (tg := gset 6) (body := L_law_bank_rows_5)
      (fun (j : Nat) (l : Den.Loc) (q : List Int) => q = p ∧ ∃ o3 o6 o7 o8 o9 o10, l = SL o3 j o6 o7 o8 o9 o10 ∧ (o3 = some (.cell ((encR (dues0 wb)).map .int)) ∨ o3 = dd (lI (encR (dues0 wb)))))
      (ds := rngD 0 (m + 1)) (k := 0) (l := SL (some (.cell ((encR (dues0 wb)).map .int))) 0 none none none none none) (p := p) ⟨rfl, _, none, none, none, none, none, rfl, .inl rfl⟩ (fun b d l q hd hI => by
        obtain ⟨rfl, o3, o6, o7, o8, o9, o10, rfl, ho3⟩ := hI
        rw [Nat.zero_add] at *
        obtain ⟨hb, rfl⟩ := rngD_get hd
        rw [Int.zero_add]
        have hf0 := fuel0 b (by omega)
        have G := good_all V hg b hf0
        have R := row_ok V hg hf0 G
        have S1 : b_law_bank_rows_5l1 (SL o3 b (dd (.int (b : Int))) o7 o8 o9 o10) q = .nx (ST7 wb m b ((List.range b).map fun j => encR (tabB wb 900 j)) (encR (dues0 wb)) o4 o8 o9 o10) q := by
          subst hSL
          unfold ST7
          rcases ho3 with rfl | rfl
          · simp [b_law_bank_rows_5l1, sgive, mvar]
          · simp [b_law_bank_rows_5l1, sgive, mvar]
        obtain ⟨o8', o9', o10', e⟩ := law_rounds7 V hg (m := m) (b := b) (by omega) hf0 o4 q (rngD 0 (fuelL wb b)) (dues0 wb) o8 o9 o10 (fallO_first V hg)
        rw [rngD_len, R.fuel] at e
        have S2 : b_law_bank_rows_5l2 (ST7 wb m b ((List.range b).map fun j => encR (tabB wb 900 j)) (encR (dues0 wb)) o4 o8 o9 o10) q = .nx (ST7 wb m b ((List.range b).map fun j => encR (tabB wb 900 j)) (encR (tabB wb 900 b)) o4 o8' o9' o10') q := by
          unfold b_law_bank_rows_5l2
          have hl0 : ((encR (dues0 wb)).map D.int).length = wb.marks.length := by rw [List.length_map, encR_len, dues0_len V]
          have em1 : fMul (.int (wb.marks.length : Int)) (.int ((b : Int) + 2)) = some (.int ((wb.marks.length : Int) * ((b : Int) + 2))) := fMul_int (.inl (by omega))
          have em2 : fMul (.int (wb.marks.length : Int)) (.int ((wb.marks.length : Int) * ((b : Int) + 2) + 8)) = some (.int ((wb.marks.length : Int) * ((wb.marks.length : Int) * ((b : Int) + 2) + 8))) := fMul_int (.inl (by omega))
          have ez : ((fuelL wb b : Nat) : Int) = (wb.marks.length : Int) * ((wb.marks.length : Int) * ((b : Int) + 2) + 8) := by
            unfold fuelL
            rw [Int.natCast_mul, Int.natCast_add, Int.natCast_mul, Int.natCast_add]
            rfl
          have er : rng1 [.int ((wb.marks.length : Int) * ((wb.marks.length : Int) * ((b : Int) + 2) + 8))] = some (rngD 0 (fuelL wb b)) := by
            rw [← ez, rng1_int (by omega), Int.toNat_natCast]
          unfold ST7 at e ⊢
          simp only [sfor_ev, mbind_ev, acons_ev, op2_ev, opn_ev, mvar, mret_ev, List.getElem?_cons_succ, List.getElem?_cons_zero, bind_ok, anil_ev, fLen_lst, hl0, fAdd_int, em1, em2, mlift_some, er, toO_ok]
          exact e
        have S3 : sappend 5 (mvar 7) (ST7 wb m b ((List.range b).map fun j => encR (tabB wb 900 j)) (encR (tabB wb 900 b)) o4 o8' o9' o10') q = .nx (SL (dd (lI (encR (dues0 wb)))) (b + 1) (dd (.int (b : Int))) (dd (lI (encR (tabB wb 900 b)))) o8' o9' o10') q := by
          rw [sappend_ev (ds := ((List.range b).map fun j => encR (tabB wb 900 j)).map fun r => lI r) rfl (by simp; omega)]
          subst hSL
          unfold ST7
          dsimp only
          rw [List.range_succ, List.map_append, List.map_append]
          simp [mvar]
        refine ⟨SL o3 b (dd (.int (b : Int))) o7 o8 o9 o10, by subst hSL; simp, _, q, .inl ?_, rfl, dd (lI (encR (dues0 wb))), dd (.int (b : Int)), dd (lI (encR (tabB wb 900 b))), o8', o9', o10', rfl, .inr rfl⟩
        unfold L_law_bank_rows_5
        rw [seq_nx S1, seq_nx S2, S3])
    refine ⟨o3, o6, o7, o8, o9, o10, ?_⟩
    rw [Nat.zero_add, rngD_len] at e
    unfold b_law_bank_rows_5
    have er : rng1 [.int ((m : Int) + 1)] = some (rngD 0 (m + 1)) := by
      rw [rng1_int (by omega)]
      congr 1
    subst hSL
    simp only [sfor_ev, mbind_ev, acons_ev, op2_ev, mvar, mret_ev, List.getElem?_cons_succ, List.getElem?_cons_zero, bind_ok, fAdd_int, mlift_some, anil_ev, er, toO_ok]
    exact e
  obtain ⟨o3, o6, o7, o8, o9, o10, T5⟩ := T5
  unfold dn_law_bank_rows
  have T2 : sown (mshort anil) 3 [dd (.lst (encW wb)), dd (.int (m : Int)), dd (.int 1000000), none, none, none, none, none, none, none, none] p = .nx [dd (.lst (encW wb)), dd (.int (m : Int)), dd (.int 1000000), some (.cell []), none, none, none, none, none, none, none] p := by simp
  have T4 : sown (mshort anil) 5 [dd (.lst (encW wb)), dd (.int (m : Int)), dd (.int 1000000), some (.cell ((encR (dues0 wb)).map .int)), o4, none, none, none, none, none, none] p = .nx (SL (some (.cell ((encR (dues0 wb)).map .int))) 0 none none none none none) p := by subst hSL; simp
  rw [seq_nx T1, seq_nx T2, seq_nx T3, seq_nx T4, seq_nx T5]
  subst hSL
  simp [sgive, mvar, List.map_map, Function.comp_def]
end
end PL
namespace PL
open PySem L2 Den
section
variable {wb : Wb}
/-- no due of the kind less -/
def NoLess (wb : Wb) : Prop := ∀ d ∈ wb.dues, ∀ x, d ≠ some (false, x)
theorem noDue_iff (NL : NoLess wb) (V : Valid wb) {i : Nat} (hi : i < wb.marks.length) : noDue wb i = true ↔ bdueI (wb.dues[i]?.getD none) = none := by
  have l3 := V.l3
  have e : wb.dues[i]? = some wb.dues[i] := List.getElem?_eq_getElem (by omega)
  have hd := NL wb.dues[i] (List.getElem_mem (by omega))
  unfold noDue
  rw [e]
  simp only [Option.getD_some]
  rcases h : wb.dues[i] with _ | ⟨b, x⟩
  · simp [bdueI]
  · cases b
    · exact absurd h (hd x)
    · simp [bdueI]
/-- none stays none on a set that stays -/
theorem none_on (V : Valid wb) (NL : NoLess wb) {z : Nat → Bool} (S : Stays wb z) {r : List OI} (h : ∀ i < wb.marks.length, z i = true → r[i]?.getD none = none) (hs : List (List OI)) : ∀ i < wb.marks.length, z i = true → (nextO wb r hs)[i]?.getD none = none := fun i hi hz => by
  rw [nextO_get hi]
  unfold nxO
  have h1 := (noDue_iff NL V hi).mp (S.sub i hi hz)
  have hk := S.keep i hi hz
  unfold keepB at hk
  rw [Bool.and_eq_true] at hk
  refine leastO_none fun x hx => ?_
  rcases List.mem_cons.mp hx with rfl | hx
  · exact h1
  · rw [List.mem_singleton.mp hx]
    by_cases c : wb.first[i]?.getD [] = []
    · rw [if_pos c]
    · rw [if_neg c]
      have hlow : blowI wb r i = none := by
        unfold blowI
        refine leastO_none fun y hy => ?_
        obtain ⟨x, hx, rfl⟩ := List.mem_map.mp hy
        have hx := mem_sortSet.mp hx
        have := first_in V i x hx
        exact h x.toNat (by omega) (List.all_eq_true.mp hk.1 x hx)
      cases e : prO (wb.marks[i]?.getD 0) (blowI wb r i) (hs[i]?.getD []) (bhighI wb r i) with
      | none => rfl
      | some v =>
        exfalso
        rcases prO_fin e with ⟨lo, elo⟩ | ⟨hm, w, ew⟩
        · rw [hlow] at elo; cases elo
        · have hk2 := hk.2
          have e1 : (wb.first[i]?.getD []).isEmpty = false := by
            cases hh : wb.first[i]?.getD [] with
            | nil => exact absurd hh c
            | cons a t => rfl
          rw [e1, decide_eq_false hm, Bool.or_false, Bool.false_or] at hk2
          obtain ⟨x, hx, hzx⟩ := List.any_eq_true.mp hk2
          have := second_in V i x hx
          have hn : rowO r x = none := h x.toNat (by omega) hzx
          have hin : rowO r x ∈ (sortSet (wb.second[i]?.getD [])).map (rowO r) := List.mem_map_of_mem (mem_sortSet.mpr hx)
          have := le_greatestO hin
          unfold bhighI at ew
          rw [hn, ew] at this
          exact this
theorem none_tab (V : Valid wb) (NL : NoLess wb) {z : Nat → Bool} (S : Stays wb z) (n b : Nat) : ∀ i < wb.marks.length, z i = true → (tabB wb n b)[i]?.getD none = none :=
  fixG_inv (fun r => ∀ i < wb.marks.length, z i = true → r[i]?.getD none = none) (fun r h => none_on V NL S h (hsB wb n b)) n (dues0 wb) fun i hi hz => by
    rw [dues0_get V hi]
    exact (noDue_iff NL V hi).mp (S.sub i hi hz)
/-- where there is no number, the set stays -/
theorem none_stays (V : Valid wb) (hg : ∀ d ∈ wb.dues, gdI d ≤ 4) (NL : NoLess wb) {b : Nat} (hf : fuelL wb b ≤ 900) : Stays wb fun i => decide ((tabB wb 900 b)[i]?.getD none = none) := by
  have G := good_all V hg b hf
  have R := row_ok V hg hf G
  have rest : nextO wb (tabB wb 900 b) (hsB wb 900 b) = tabB wb 900 b := R.rest
  have at_ : ∀ i < wb.marks.length, (tabB wb 900 b)[i]?.getD none = none → nxO wb (tabB wb 900 b) (hsB wb 900 b) i = none := fun i hi h => by
    rw [← nextO_get hi, rest]; exact h
  refine ⟨fun i hi hz => ?_, fun i hi hz => ?_⟩
  · have h := at_ i hi (of_decide_eq_true hz)
    have := (le_nxO (wb := wb) (r := tabB wb 900 b) (hs := hsB wb 900 b) (i := i) (c := none)).mp (by rw [h]; trivial)
    exact (noDue_iff NL V hi).mpr (leO_none this.1)
  · have h := at_ i hi (of_decide_eq_true hz)
    have h2 := (le_nxO (wb := wb) (r := tabB wb 900 b) (hs := hsB wb 900 b) (i := i) (c := none)).mp (by rw [h]; trivial)
    unfold keepB
    rw [Bool.and_eq_true]
    by_cases c : wb.first[i]?.getD [] = []
    · rw [c]; exact ⟨rfl, rfl⟩
    · have hp := leO_none (h2.2 c)
      have hii : i < (hsB wb 900 b).length := by rw [G.hs.len]; exact hi
      have eh : (hsB wb 900 b)[i]? = some (hsB wb 900 b)[i] := List.getElem?_eq_getElem hii
      have hlow : blowI wb (tabB wb 900 b) i = none := by
        cases e : blowI wb (tabB wb 900 b) i with
        | none => rfl
        | some lo =>
          have h4 := prO_low (mk := wb.marks[i]?.getD 0) (hi := bhighI wb (tabB wb 900 b) i) (G.hs.first _ (List.getElem_mem hii)) (G.hs.mv i _ eh c) (blow_nn R.fall.nn e)
          rw [eh, e] at hp
          simp only [Option.getD_some] at hp
          rw [hp] at h4
          exact h4.elim
      constructor
      · refine List.all_eq_true.mpr fun x hx => decide_eq_true ?_
        have : leO (blowI wb (tabB wb 900 b) i) (rowO (tabB wb 900 b) x) := leastO_le (List.mem_map_of_mem (mem_sortSet.mpr hx))
        rw [hlow] at this
        exact leO_none this
      · by_cases hm : wb.marks[i]?.getD 0 = 1
        · rw [decide_eq_true hm, Bool.or_true, Bool.true_or]
        · have hhi : bhighI wb (tabB wb 900 b) i = none := by
            have := prO_high (low := blowI wb (tabB wb 900 b) i) (hi := bhighI wb (tabB wb 900 b) i) (hs := (hsB wb 900 b)[i]?.getD []) hm
            rw [hp] at this
            exact leO_none this
          have ne := both_ne V hi c
          have ne2 : (sortSet (wb.second[i]?.getD [])).map (rowO (tabB wb 900 b)) ≠ [] := fun z => by
            have := sortSet_ne ne
            cases e : sortSet (wb.second[i]?.getD []) with
            | nil => exact this e
            | cons a b => rw [e] at z; cases z
          have hmem := greatestO_mem ne2
          unfold bhighI at hhi
          rw [hhi] at hmem
          obtain ⟨x, hx, e⟩ := List.mem_map.mp hmem
          have : ((wb.second[i]?.getD []).any fun x => decide ((tabB wb 900 b)[x.toNat]?.getD none = none)) = true := List.any_eq_true.mpr ⟨x, mem_sortSet.mp hx, decide_eq_true e⟩
          rw [this, Bool.or_true]
theorem none_iff (V : Valid wb) (hg : ∀ d ∈ wb.dues, gdI d ≤ 4) (NL : NoLess wb) {b : Nat} (hf : fuelL wb b ≤ 900) {z : Nat → Bool} (Gz : Greatest wb z) {i : Nat} (hi : i < wb.marks.length) : (tabB wb 900 b)[i]?.getD none = none ↔ z i = true :=
  ⟨fun h => Gz.most _ (none_stays V hg NL hf) i hi (decide_eq_true h), fun h => none_tab V NL Gz.stays 900 b i hi h⟩
def bareD : Due → Due
  | some (false, _) => none
  | d => d
def bareW (wb : Wb) : Wb := { wb with dues := wb.dues.map bareD }
theorem bareD_cases (d : Due) : bareD d = none ∨ bareD d = d := by
  rcases d with _ | ⟨b, x⟩
  · exact .inl rfl
  · cases b
    · exact .inl rfl
    · exact .inr rfl
theorem bare_valid (V : Valid wb) : Valid (bareW wb) := withD_valid V (ds := wb.dues.map bareD) (by simp [V.l3]) fun d hd => by
  obtain ⟨e, he, rfl⟩ := List.mem_map.mp hd
  rcases bareD_cases e with h | h
  · exact .inl h
  · rw [h]; exact .inr he
theorem bare_noless : NoLess (bareW wb) := fun d hd x h => by
  obtain ⟨e, _, rfl⟩ := List.mem_map.mp hd
  rcases e with _ | ⟨b, y⟩
  · cases h
  · cases b <;> cases h
theorem bdue_bare (d : Due) : bdueI (bareD d) = bdueI d := by
  rcases d with _ | ⟨b, x⟩
  · rfl
  · cases b <;> rfl
theorem dues0_bare : dues0 (bareW wb) = dues0 wb := by
  unfold dues0 bareW
  simp only [List.map_map]
  exact List.map_congr_left fun d _ => bdue_bare d
theorem nextO_bare (r : List OI) (hs : List (List OI)) : nextO (bareW wb) r hs = nextO wb r hs := by
  unfold nextO
  refine List.map_congr_left fun i _ => ?_
  have e : bdueI ((bareW wb).dues[i]?.getD none) = bdueI (wb.dues[i]?.getD none) := by
    show bdueI ((wb.dues.map bareD)[i]?.getD none) = _
    rw [List.getElem?_map]
    cases wb.dues[i]? with
    | none => rfl
    | some d => exact bdue_bare d
  rw [e]
  rfl
theorem rowB_bare (n : Nat) (hs : List (List OI)) : rowB (bareW wb) n hs = rowB wb n hs := by
  unfold rowB
  rw [dues0_bare, show (fun r => nextO (bareW wb) r hs) = fun r => nextO wb r hs from funext fun r => nextO_bare r hs]
theorem hsB_bare (n : Nat) : ∀ b, hsB (bareW wb) n b = hsB wb n b
  | 0 => rfl
  | b + 1 => by
    show withI (bareW wb) (hsB (bareW wb) n b) (rowB (bareW wb) n (hsB (bareW wb) n b)) = withI wb (hsB wb n b) (rowB wb n (hsB wb n b))
    rw [hsB_bare n b, rowB_bare]
    rfl
theorem tabB_bare (n b : Nat) : tabB (bareW wb) n b = tabB wb n b := by
  unfold tabB
  rw [hsB_bare, rowB_bare]
theorem law_bare_ev (V : Valid wb) (p : List Int) : D_law_bare [.lst (encW wb)] p = .ok (.lst (encW (bareW wb))) p := by
  have n2 := V.n2
  have l3 := V.l3
  obtain ⟨o', e⟩ := loop_gather (i := 2) (body := L_law_bare_2) (fun o ds => [dd (.lst (encW wb)), some (.cell ds), o]) (p := p) (fun _ _ _ => rfl) dDue (fun d => [dDue (bareD d)]) (xs := wb.dues) (acc := []) (o := none) (fun d _ acc hacc => by
    have e4 : ∀ (o : Option L) (x : M D), sappend 1 x [dd (.lst (encW wb)), some (.cell acc), o] p = _ := fun o x => sappend_ev (ds := acc) rfl (by omega)
    rcases d with _ | ⟨b, x⟩
    · simp [L_law_bare_2, mvar, dDue, e4, bareD]
    · cases b
      · simp [L_law_bare_2, mvar, dDue, e4, bareD, fEq_str]
      · simp [L_law_bare_2, mvar, dDue, e4, bareD, fEq_str, show ¬ (("chips" : Str) = "less") by decide]) (fun _ => by simp) (by simp; omega)
  have e2 : ∀ ds : List Due, (ds.map fun d => [dDue (bareD d)]).flatten = (ds.map bareD).map dDue := fun ds => by
    induction ds with
    | nil => rfl
    | cons d ds ih => simp only [List.map_cons, List.flatten_cons, ih]; rfl
  rw [List.nil_append, e2] at e
  have e3 : fIx (.lst (encW wb)) (.int 3) = some (.lst (wb.dues.map dDue)) := by simp [encW]
  have i0 : fIx (.lst (encW wb)) (.int 0) = some (.lst (wb.first.map dI)) := by simp [encW]
  have i1 : fIx (.lst (encW wb)) (.int 1) = some (.lst (wb.second.map dI)) := by simp [encW]
  have i2 : fIx (.lst (encW wb)) (.int 2) = some (dI wb.marks) := by simp [encW]
  unfold D_law_bare
  rw [denF_ev (by rfl)]
  show outR (dn_law_bare [dd (.lst (encW wb)), none, none] p) = _
  have T1 : sown (mshort anil) 1 [dd (.lst (encW wb)), none, none] p = .nx [dd (.lst (encW wb)), some (.cell []), none] p := by simp
  have T2 : b_law_bare_2 [dd (.lst (encW wb)), some (.cell []), none] p = .nx [dd (.lst (encW wb)), some (.cell ((wb.dues.map bareD).map dDue)), o'] p := by
    unfold b_law_bare_2
    simp only [sfor_ev, mbind_ev, op2_ev, mvar, mret_ev, List.getElem?_cons_succ, List.getElem?_cons_zero, bind_ok, e3, mlift_some, lstOf_lst, toO_ok]
    exact e
  unfold dn_law_bare
  rw [seq_nx T1, seq_nx T2]
  simp [b_law_bare_3, sgive, mvar, i0, i1, i2, -List.map_map, -List.map_map]
  rfl
def itB (wb : Wb) : Nat → Nat → Bool
  | 0 => noDue wb
  | j + 1 => stepB wb (itB wb j)
theorem itB_sub : ∀ (j i : Nat), itB wb j i = true → noDue wb i = true
  | 0, _, h => h
  | j + 1, i, h => by
    have h : (itB wb j i && keepB wb (itB wb j) i) = true := h
    rw [Bool.and_eq_true] at h
    exact itB_sub j i h.1
theorem itB_above (V : Valid wb) {y : Nat → Bool} (hy : Stays wb y) : ∀ j, ∀ i < wb.marks.length, y i = true → itB wb j i = true
  | 0, i, hi, h => hy.sub i hi h
  | j + 1, i, hi, h => stepB_above V hy (itB_above V hy j) i hi h
theorem itB_rest (V : Valid wb) : ∀ j, (∀ i < wb.marks.length, itB wb j i = true → keepB wb (itB wb j) i = true) ∨ cntB wb.marks.length (itB wb j) + j ≤ wb.marks.length
  | 0 => .inr (by have := setI_len wb.marks.length (itB wb 0); unfold cntB; omega)
  | j + 1 => by
    by_cases st : ∀ i < wb.marks.length, itB wb j i = true → keepB wb (itB wb j) i = true
    · left
      have same : ∀ i < wb.marks.length, itB wb (j + 1) i = itB wb j i := fun i hi => by
        show (itB wb j i && keepB wb (itB wb j) i) = _
        cases e : itB wb j i with
        | false => rfl
        | true => rw [st i hi e]; rfl
      intro i hi h
      rw [same i hi] at h
      rw [keepB_congr V same hi]
      exact st i hi h
    · right
      rcases itB_rest V j with h | h
      · exact absurd h st
      · have hlt : cntB wb.marks.length (itB wb (j + 1)) < cntB wb.marks.length (itB wb j) := by
          refine (cntB_le (fun i hi h => ?_)).2 ?_
          · have h : (itB wb j i && keepB wb (itB wb j) i) = true := h
            rw [Bool.and_eq_true] at h
            exact h.1
          · refine Classical.byContradiction fun hn => st fun i hi h => ?_
            cases e : keepB wb (itB wb j) i with
            | true => rfl
            | false =>
              refine absurd ⟨i, hi, h, ?_⟩ hn
              show (itB wb j i && keepB wb (itB wb j) i) = false
              rw [e, Bool.and_false]
        omega
theorem itB_greatest (V : Valid wb) : Greatest wb (itB wb wb.marks.length) := by
  refine ⟨⟨fun i _ h => itB_sub _ i h, ?_⟩, fun y hy i hi h => itB_above V hy _ i hi h⟩
  rcases itB_rest V wb.marks.length with h | h
  · exact h
  · intro i hi hz
    exfalso
    have : (i : Int) ∈ setI wb.marks.length (itB wb wb.marks.length) := setI_nat.mpr ⟨hi, hz⟩
    have := List.length_pos_of_mem this
    unfold cntB at h
    omega
end
end PL
namespace PL
open PySem L2 Den
section
variable {wb : Wb}
theorem law_kept63_ev (V : Valid wb) (p : List Int) : D_law_kept_k63 [.lst (encW wb)] p = .ok (lI (setI wb.marks.length (itB wb wb.marks.length))) p := by
  have n2 := V.n2
  have l3 := V.l3
  have i0 : fIx (.lst (encW wb)) (.int 0) = some (.lst (wb.first.map dI)) := by simp [encW]
  have i1 : fIx (.lst (encW wb)) (.int 1) = some (.lst (wb.second.map dI)) := by simp [encW]
  have i2 : fIx (.lst (encW wb)) (.int 2) = some (dI wb.marks) := by simp [encW]
  have i3 : fIx (.lst (encW wb)) (.int 3) = some (.lst (wb.dues.map dDue)) := by simp [encW]
  obtain ⟨ST, hST⟩ : ∃ ST : List Int → Option L → Option L → Option L → Option L → Option L → Option L → Den.Loc, ST = fun left o2 o3 o4 o5 o6 o7 => [dd (.lst (encW wb)), dd (lI left), o2, o3, o4, o5, o6, o7] := ⟨_, rfl⟩
  have hlen : fLen [.lst (wb.dues.map dDue)] = some (.int (wb.marks.length : Int)) := by simp [l3]
  have er : rng1 [.int (wb.marks.length : Int)] = some (rngD 0 wb.marks.length) := by rw [rng1_int (by omega), Int.toNat_natCast]
  have c1 : c_law_kept_k63_1 [dd (.lst (encW wb)), none, none, none, none, none, none, none] p = .ok ((setI wb.marks.length (noDue wb)).map .int) p := by
    unfold c_law_kept_k63_1
    rw [mcomp_ev (ds := rngD 0 wb.marks.length) (p' := p) (by simp [mvar, i3, hlen, er]) (by rw [rngD_len]; omega)]
    rw [rngD_map, comp_filterL (by simp) D.int (fun x => noDue wb x.toNat) (fun x hx => by
      obtain ⟨i, hi, _, rfl⟩ := setI_mem.mp hx
      have e : wb.dues[i]? = some wb.dues[i] := List.getElem?_eq_getElem (by omega)
      have e2 : atI (wb.dues.map dDue) (i : Int) = some (dDue wb.dues[i]) := atI_nat (by rw [List.getElem?_map, e]; rfl)
      have e3 : isNon (dDue wb.dues[i]) = wb.dues[i].isNone := by
        rcases wb.dues[i] with _ | ⟨b, x⟩
        · rfl
        · cases b <;> rfl
      simp [mvar, i3, e2, e3, noDue, e]) (fun x _ => by simp [mvar])]
    rw [setI_filter wb.marks.length (fun _ => true) (noDue wb) (fun x => noDue wb x.toNat) (fun i _ _ => rfl)]
    rfl
  have T1 : sasg (mfreeze c_law_kept_k63_1) (gset 1) [dd (.lst (encW wb)), none, none, none, none, none, none, none] p = .nx (ST (setI wb.marks.length (noDue wb)) none none none none none none) p := by
    subst hST
    simp [c1]
  have stand : ∀ (z : Nat → Bool) (i : Nat), i < wb.marks.length → z i = true → ∀ (o3 o5 o6 o7 : Option L) (acc : List D), acc.length < 900 → ∃ o5' o7', L_law_kept_k63_2l2 (ST (setI wb.marks.length z) (dd (.int (i : Int))) o3 (some (.cell acc)) o5 o6 o7) p = .nx (ST (setI wb.marks.length z) (dd (.int (i : Int))) o3 (some (.cell (acc ++ if keepB wb z i then [.int (i : Int)] else []))) o5' o6 o7') p := fun z i hi hz o3 o5 o6 o7 acc hacc => by
    obtain ⟨f, s, mk, h⟩ := here_ex V (i := (i : Int)) (by omega) (by omega)
    have ef : wb.first[i]?.getD [] = f := by have := h.hf; simp at this; simp [this]
    have es : wb.second[i]?.getD [] = s := by have := h.hs; simp at this; simp [this]
    have em : wb.marks[i]?.getD 0 = mk := by have := h.hm; simp at this; simp [this]
    have emk : fIx (dI wb.marks) (.int (i : Int)) = some (.int mk) := by show atI (wb.marks.map D.int) _ = _; exact h.m1
    have hf60 := (V.s1 f (List.mem_of_getElem? h.hf)).1
    have hs60 := (V.s2 s (List.mem_of_getElem? h.hs)).1
    obtain ⟨F, hF⟩ : ∃ F, F = f.filter fun x => !z x.toNat := ⟨_, rfl⟩
    obtain ⟨S, hS⟩ : ∃ S, S = s.filter fun x => z x.toNat := ⟨_, rfl⟩
    refine ⟨dd (lI F), dd (lI S), ?_⟩
    have c2 : c_law_kept_k63_2 (ST (setI wb.marks.length z) (dd (.int (i : Int))) o3 (some (.cell acc)) o5 o6 o7) p = .ok (F.map .int) p := by
      subst hST
      unfold c_law_kept_k63_2
      rw [mcomp_ev (ds := f.map D.int) (p' := p) (by simp [mvar, i0, h.f2, dI]) (by rw [List.length_map]; omega)]
      rw [comp_filterL (by simp) D.int (fun x => !z x.toNat) (fun x hx => by
        have := h.fin V x hx
        have e := mem_setI_in (z := z) this.1 this.2
        simp [mvar, nin_lI, e]) (fun x _ => by simp [mvar]), hF]
    have c3 : c_law_kept_k63_3 (ST (setI wb.marks.length z) (dd (.int (i : Int))) o3 (some (.cell acc)) (dd (lI F)) o6 o7) p = .ok (S.map .int) p := by
      subst hST
      unfold c_law_kept_k63_3
      rw [mcomp_ev (ds := s.map D.int) (p' := p) (by simp [mvar, i1, h.s2, dI]) (by rw [List.length_map]; omega)]
      rw [comp_filterL (by simp) D.int (fun x => z x.toNat) (fun x hx => by
        have := h.sin V x hx
        have e := mem_setI_in (z := z) this.1 this.2
        simp [mvar, in_lI, e]) (fun x _ => by simp [mvar]), hS]
    have S1 : sasg (mfreeze c_law_kept_k63_2) (gset 5) (ST (setI wb.marks.length z) (dd (.int (i : Int))) o3 (some (.cell acc)) o5 o6 o7) p = .nx (ST (setI wb.marks.length z) (dd (.int (i : Int))) o3 (some (.cell acc)) (dd (lI F)) o6 o7) p := by
      rw [sasg_ev, mfreeze_ev, c2]
      subst hST
      simp
    have S2 : sasg (mfreeze c_law_kept_k63_3) (gset 7) (ST (setI wb.marks.length z) (dd (.int (i : Int))) o3 (some (.cell acc)) (dd (lI F)) o6 o7) p = .nx (ST (setI wb.marks.length z) (dd (.int (i : Int))) o3 (some (.cell acc)) (dd (lI F)) o6 (dd (lI S))) p := by
      rw [sasg_ev, mfreeze_ev, c3]
      subst hST
      simp
    have hk : keepB wb z i = ((decide ((F.length : Int) = 0)) && (decide (mk = 1) || (decide ((f.length : Int) = 0) || decide (0 < (S.length : Int))))) := by
      unfold keepB
      rw [ef, es, em]
      have a1 : (f.all fun x => z x.toNat) = decide ((F.length : Int) = 0) := by
        cases e : f.all fun x => z x.toNat with
        | true =>
          have : F = [] := by
            rw [hF]
            refine List.filter_eq_nil_iff.mpr fun x hx => ?_
            have := List.all_eq_true.mp e x hx
            simp [this]
          rw [this]; rfl
        | false =>
          refine (decide_eq_false fun h0 => ?_).symm
          have h0 : F = [] := List.length_eq_zero_iff.mp (by omega)
          rw [hF] at h0
          have : (f.all fun x => z x.toNat) = true := List.all_eq_true.mpr fun x hx => by
            have := List.filter_eq_nil_iff.mp h0 x hx
            simpa using this
          rw [e] at this; cases this
      have a2 : f.isEmpty = decide ((f.length : Int) = 0) := by cases f with
        | nil => rfl
        | cons a t => exact (decide_eq_false (by simp; omega)).symm
      have a3 : (s.any fun x => z x.toNat) = decide (0 < (S.length : Int)) := by
        cases e : s.any fun x => z x.toNat with
        | true =>
          obtain ⟨x, hx, hzx⟩ := List.any_eq_true.mp e
          have : x ∈ S := by rw [hS]; exact List.mem_filter.mpr ⟨hx, hzx⟩
          have := List.length_pos_of_mem this
          exact (decide_eq_true (by omega)).symm
        | false =>
          refine (decide_eq_false fun h0 => ?_).symm
          have h0 : 0 < S.length := by omega
          obtain ⟨x, hx⟩ := List.exists_mem_of_length_pos h0
          rw [hS] at hx
          have hx := List.mem_filter.mp hx
          have : (s.any fun x => z x.toNat) = true := List.any_eq_true.mpr ⟨x, hx.1, hx.2⟩
          rw [e] at this; cases this
      rw [a1, a2, a3]
      cases decide ((F.length : Int) = 0) <;> cases decide (mk = 1) <;> cases decide ((f.length : Int) = 0) <;> rfl
    have S3 : b_law_kept_k63_2l2l3 (ST (setI wb.marks.length z) (dd (.int (i : Int))) o3 (some (.cell acc)) (dd (lI F)) o6 (dd (lI S))) p = .nx (ST (setI wb.marks.length z) (dd (.int (i : Int))) o3 (some (.cell (acc ++ if keepB wb z i then [.int (i : Int)] else []))) (dd (lI F)) o6 (dd (lI S))) p := by
      have et : (mand (mtest (op2 fEq (opn fLen (acons (mvar 5) anil)) (mret (D.int 0)))) (mor (mtest (op2 fEq (op2 fIx (op2 fIx (mvar 0) (mret (D.int 2))) (mvar 2)) (mret (D.int 1)))) (mor (mtest (op2 fEq (opn fLen (acons (op2 fIx (op2 fIx (mvar 0) (mret (D.int 0))) (mvar 2)) anil)) (mret (D.int 0)))) (mtest (op2 fGt (opn fLen (acons (mvar 7) anil)) (mret (D.int 0))))))) (ST (setI wb.marks.length z) (dd (.int (i : Int))) o3 (some (.cell acc)) (dd (lI F)) o6 (dd (lI S))) p = .ok (keepB wb z i) p := by
        rw [hk]
        subst hST
        have e2 : fLen [dI f] = some (.int (f.length : Int)) := by simp [dI]
        have e3 : fLen [lI F] = some (.int (F.length : Int)) := by simp
        have e4 : fLen [lI S] = some (.int (S.length : Int)) := by simp
        simp only [mand_ev, mor_ev, mtest_ev, op2_ev, opn_ev, acons_ev, anil_ev, mvar, mret_ev, List.getElem?_cons_succ, List.getElem?_cons_zero, bind_ok, i0, i2, mlift_some, emk, fIx_lst, h.f2, e2, e3, e4, fEq_int, fGt_int, boolOf_bl]
        cases decide ((F.length : Int) = 0) <;> cases decide (mk = 1) <;> cases decide ((f.length : Int) = 0) <;> simp
      unfold b_law_kept_k63_2l2l3
      rw [sif_ev, et]
      cases hkk : keepB wb z i with
      | true =>
        simp only [toO_ok, if_true]
        subst hST
        rw [sappend_ev (ds := acc) rfl (by omega)]
        simp [mvar]
      | false => simp
    unfold L_law_kept_k63_2l2
    rw [seq_nx S1, seq_nx S2, S3]
  have round : ∀ (z : Nat → Bool) (o2 o3 o4 o5 o6 o7 : Option L), ∃ o2' o4' o5' o7', L_law_kept_k63_2 (ST (setI wb.marks.length z) o2 o3 o4 o5 o6 o7) p = .nx (ST (setI wb.marks.length (stepB wb z)) o2' o3 o4' o5' o6 o7') p := fun z o2 o3 o4 o5 o6 o7 => by
    have S1 : sown (mshort anil) 4 (ST (setI wb.marks.length z) o2 o3 o4 o5 o6 o7) p = .nx (ST (setI wb.marks.length z) o2 o3 (some (.cell [])) o5 o6 o7) p := by subst hST; simp
    have walk : ∀ (xs : List Nat) (acc : List D) (o2 o5 o7 : Option L), (∀ i ∈ xs, i < wb.marks.length ∧ z i = true) → acc.length + xs.length ≤ 900 → ∃ o2' o5' o7', loop (gset 2) L_law_kept_k63_2l2 (xs.map fun i : Nat => D.int (i : Int)) (ST (setI wb.marks.length z) o2 o3 (some (.cell acc)) o5 o6 o7) p = .nx (ST (setI wb.marks.length z) o2' o3 (some (.cell (acc ++ (xs.filter fun i => keepB wb z i).map fun i : Nat => D.int (i : Int)))) o5' o6 o7') p := fun xs => by
      induction xs with
      | nil => intro acc o2 o5 o7 _ _; exact ⟨o2, o5, o7, by rw [List.filter_nil, List.map_nil, List.append_nil]; rfl⟩
      | cons i xs ih =>
        intro acc o2 o5 o7 hx hl
        have h1 := hx i List.mem_cons_self
        obtain ⟨o5', o7', e⟩ := stand z i h1.1 h1.2 o3 o5 o6 o7 acc (by simp at hl; omega)
        obtain ⟨a, b, c, e2⟩ := ih (acc ++ if keepB wb z i then [.int (i : Int)] else []) (dd (.int (i : Int))) o5' o7' (fun j hj => hx j (List.mem_cons_of_mem _ hj)) (by
          rw [List.length_append]
          simp at hl
          split <;> simp <;> omega)
        refine ⟨a, b, c, ?_⟩
        rw [List.map_cons]
        unfold loop
        have eg : gset 2 (.int (i : Int)) (ST (setI wb.marks.length z) o2 o3 (some (.cell acc)) o5 o6 o7) = some (ST (setI wb.marks.length z) (dd (.int (i : Int))) o3 (some (.cell acc)) o5 o6 o7) := by subst hST; simp
        rw [eg]
        simp only [e]
        rw [e2, List.filter_cons]
        cases hk : keepB wb z i <;> simp
    obtain ⟨o2', o5', o7', e⟩ := walk ((List.range wb.marks.length).filter z) [] o2 o5 o7 (fun i hi => by
      have := List.mem_filter.mp hi
      exact ⟨List.mem_range.mp this.1, this.2⟩) (by
      have := List.length_filter_le z (List.range wb.marks.length)
      simp at this ⊢
      omega)
    have S2 : b_law_kept_k63_2l2 (ST (setI wb.marks.length z) o2 o3 (some (.cell [])) o5 o6 o7) p = .nx (ST (setI wb.marks.length z) o2' o3 (some (.cell ((setI wb.marks.length (stepB wb z)).map .int))) o5' o6 o7') p := by
      have ew : (setI wb.marks.length z).map D.int = ((List.range wb.marks.length).filter z).map fun i : Nat => D.int (i : Int) := by unfold setI; rw [List.map_map]; rfl
      have ew2 : (setI wb.marks.length (stepB wb z)).map D.int = (((List.range wb.marks.length).filter z).filter fun i => keepB wb z i).map fun i : Nat => D.int (i : Int) := by
        unfold setI
        rw [List.map_map, List.filter_filter]
        have : (List.range wb.marks.length).filter (stepB wb z) = (List.range wb.marks.length).filter fun i => keepB wb z i && z i := List.filter_congr fun i _ => by
          show (z i && keepB wb z i) = _
          rw [Bool.and_comm]
        rw [this]
        rfl
      rw [List.nil_append, ← ew2] at e
      rw [← ew] at e
      unfold b_law_kept_k63_2l2
      subst hST
      simp only [sfor_ev, mbind_ev, mfreeze_ev, mlistN_ev, acons_ev, mvar, List.getElem?_cons_succ, List.getElem?_cons_zero, bind_ok, anil_ev, fSeq1_lst, mlift_some, lstOf_lst, toO_ok]
      exact e
    have S3 : sgive 4 (sasg (mvar 4) (gset 1)) (ST (setI wb.marks.length z) o2' o3 (some (.cell ((setI wb.marks.length (stepB wb z)).map .int))) o5' o6 o7') p = .nx (ST (setI wb.marks.length (stepB wb z)) o2' o3 (dd (lI (setI wb.marks.length (stepB wb z)))) o5' o6 o7') p := by
      subst hST
      simp [sgive, mvar]
    refine ⟨o2', dd (lI (setI wb.marks.length (stepB wb z))), o5', o7', ?_⟩
    unfold L_law_kept_k63_2
    rw [seq_nx S1, seq_nx S2, S3]
  have T2 : ∃ o2 o3 o4 o5 o6 o7, b_law_kept_k63_2 (ST (setI wb.marks.length (noDue wb)) none none none none none none) p = .nx (ST (setI wb.marks.length (itB wb wb.marks.length)) o2 o3 o4 o5 o6 o7) p := by
    obtain ⟨l', q, e, rfl, o2, o3, o4, o5, o6, o7, rfl⟩ := loop_run (tg := gset 3) (body := L_law_kept_k63_2)
      (fun (j : Nat) (l : Den.Loc) (q : List Int) => q = p ∧ ∃ o2 o3 o4 o5 o6 o7, l = ST (setI wb.marks.length (itB wb j)) o2 o3 o4 o5 o6 o7)
      (ds := rngD 0 wb.marks.length) (k := 0) (l := ST (setI wb.marks.length (noDue wb)) none none none none none none) (p := p) ⟨rfl, none, none, none, none, none, none, rfl⟩ (fun j d l q hd hI => by
        obtain ⟨rfl, o2, o3, o4, o5, o6, o7, rfl⟩ := hI
        rw [Nat.zero_add] at *
        obtain ⟨o2', o4', o5', o7', e⟩ := round (itB wb j) o2 (some (.dat d)) o4 o5 o6 o7
        exact ⟨ST (setI wb.marks.length (itB wb j)) o2 (some (.dat d)) o4 o5 o6 o7, by subst hST; simp, _, q, .inl e, rfl, o2', some (.dat d), o4', o5', o6, o7', rfl⟩)
    refine ⟨o2, o3, o4, o5, o6, o7, ?_⟩
    rw [Nat.zero_add, rngD_len] at e
    unfold b_law_kept_k63_2
    subst hST
    simp only [sfor_ev, mbind_ev, acons_ev, op2_ev, opn_ev, mvar, mret_ev, List.getElem?_cons_succ, List.getElem?_cons_zero, bind_ok, i3, hlen, mlift_some, anil_ev, er, toO_ok]
    exact e
  obtain ⟨o2, o3, o4, o5, o6, o7, T2⟩ := T2
  unfold D_law_kept_k63
  rw [denF_ev (by rfl)]
  show outR (dn_law_kept_k63 [dd (.lst (encW wb)), none, none, none, none, none, none, none] p) = _
  unfold dn_law_kept_k63
  rw [seq_nx T1, seq_nx T2]
  subst hST
  simp [mvar]
theorem pdL_tabs : ∀ l : List (List OI), pdL (l.map tO) = some (l.map fun r => .tuple (r.map pO))
  | [] => rfl
  | r :: l => by
    have e : pd (tO r) = some (.tuple (r.map pO)) := by simp [tO, pd, pdL_oi]
    simp [pdL, e, pdL_tabs l]
theorem depth_tabs : ∀ l : List (List OI), PyData.depthAll (l.map fun r => .tuple (r.map pO)) ≤ 2
  | [] => by simp [PyData.depthAll]
  | r :: l => by
    have := depth_tabs l
    have := depth_oi r
    simp only [List.map_cons, PyData.depthAll, PyData.depth]
    omega
theorem eqvAll_tabs : ∀ l : List (List OI), PyData.eqvAll (l.map fun r => .tuple (r.map pO)) (l.map fun r => .tuple (r.map pO)) = true
  | [] => by simp [PyData.eqvAll]
  | r :: l => by
    have h := eqvAll_tabs l
    simp only [List.map_cons, PyData.eqvAll, PyData.eqv, h, eqvAll_oi]
    simp
theorem ne_tabs (l : List (List OI)) : fEqD true (.tup (l.map tO)) (.tup (l.map tO)) = some (.bl false) := by
  have e : pd (.tup (l.map tO)) = some (.tuple (l.map fun r => .tuple (r.map pO))) := by simp [pd, pdL_tabs]
  unfold fEqD
  rw [e]
  dsimp only
  have h1 := depth_tabs l
  rw [if_pos (by simp only [PyData.depth]; omega)]
  simp [PyData.eqv, eqvAll_tabs]
/-- the greatest number of a due -/
def dueN (d : Due) : Option Int := d.map Prod.snd
def greatI (wb : Wb) : Int := maxL 0 (wb.dues.filterMap dueN)
theorem great_ge (wb : Wb) : ∀ d ∈ wb.dues, gdI d ≤ greatI wb := fun d hd => by
  have h := le_maxL (wb.dues.filterMap dueN) 0
  rcases d with _ | ⟨b, x⟩
  · exact h.1
  · exact h.2 x (List.mem_filterMap.mpr ⟨some (b, x), hd, rfl⟩)
end
theorem law_k63_run (A : CA) (p : List Int) : ∃ q, dn_law_k63 A [none, dd .pot, none, none, none, none, none, none, none, none, none, none, none, none, none, none] p = .rt (.bl true) q := by
  obtain ⟨x, p1, e1, x0, x1⟩ := draw_ev 2 (by decide) p
  obtain ⟨wb, p2, e2, V, hn, _, hdue⟩ := web_ev4 6 (by decide) (decide (x = 0)) p1
  have n1 := V.n1
  have n2 := V.n2
  have l1 := V.l1
  have l3 := V.l3
  have VB := bare_valid V
  have T1 : b_law_k63_01 [none, dd .pot, none, none, none, none, none, none, none, none, none, none, none, none, none, none] p = .nx [none, dd .pot, dd (.lst (encW wb)), none, none, none, none, none, none, none, none, none, none, none, none, none] p2 := by simp [b_law_k63_01, mvar, e1, e2]
  have i0 : fIx (.lst (encW wb)) (.int 0) = some (.lst (wb.first.map dI)) := by simp [encW]
  have i3 : fIx (.lst (encW wb)) (.int 3) = some (.lst (wb.dues.map dDue)) := by simp [encW]
  have hl0 : fLen [.lst (wb.first.map dI)] = some (.int (wb.marks.length : Int)) := by simp [l1]
  have T2 : b_law_k63_02 [none, dd .pot, dd (.lst (encW wb)), none, none, none, none, none, none, none, none, none, none, none, none, none] p2 = .nx [none, dd .pot, dd (.lst (encW wb)), dd (.int (wb.marks.length : Int)), none, none, none, none, none, none, none, none, none, none, none, none] p2 := by simp [b_law_k63_02, mvar, i0, hl0]
  have e3 := law_bare_ev V p2
  have T3 : b_law_k63_03 [none, dd .pot, dd (.lst (encW wb)), dd (.int (wb.marks.length : Int)), none, none, none, none, none, none, none, none, none, none, none, none] p2 = .nx [none, dd .pot, dd (.lst (encW wb)), dd (.int (wb.marks.length : Int)), dd (.lst (encW (bareW wb))), none, none, none, none, none, none, none, none, none, none, none] p2 := by simp [b_law_k63_03, mvar, e3]
  have e4 := law_kept63_ev VB p2
  obtain ⟨K, hK⟩ : ∃ K, K = setI wb.marks.length (itB (bareW wb) wb.marks.length) := ⟨_, rfl⟩
  have e4' : D_law_kept_k63 [.lst (encW (bareW wb))] p2 = .ok (lI K) p2 := by rw [hK]; exact e4
  have Gz : Greatest (bareW wb) (itB (bareW wb) wb.marks.length) := itB_greatest VB
  have T4 : b_law_k63_04 [none, dd .pot, dd (.lst (encW wb)), dd (.int (wb.marks.length : Int)), dd (.lst (encW (bareW wb))), none, none, none, none, none, none, none, none, none, none, none] p2 = .nx [none, dd .pot, dd (.lst (encW wb)), dd (.int (wb.marks.length : Int)), dd (.lst (encW (bareW wb))), dd (lI K), none, none, none, none, none, none, none, none, none, none] p2 := by simp [b_law_k63_04, mvar, e4']
  have b1 := built9_ev A VB p2
  obtain ⟨z, Gz', e5⟩ := kept_off_ev A VB p2
  have eK : setI wb.marks.length z = K := by rw [hK]; exact Gz'.uniq Gz
  have e5' : D_kept_off A [insW A (bareW wb)] p2 = .ok (tI K) p2 := by rw [← eK]; exact e5
  have T5 : b_law_k63_05 A [none, dd .pot, dd (.lst (encW wb)), dd (.int (wb.marks.length : Int)), dd (.lst (encW (bareW wb))), dd (lI K), none, none, none, none, none, none, none, none, none, none] p2 = .nx [none, dd .pot, dd (.lst (encW wb)), dd (.int (wb.marks.length : Int)), dd (.lst (encW (bareW wb))), dd (lI K), dd (tI K), none, none, none, none, none, none, none, none, none] p2 := by simp [b_law_k63_05, mvar, b1, e5']
  have T6 : b_law_k63_06 [none, dd .pot, dd (.lst (encW wb)), dd (.int (wb.marks.length : Int)), dd (.lst (encW (bareW wb))), dd (lI K), dd (tI K), none, none, none, none, none, none, none, none, none] p2 = .nx [none, dd .pot, dd (.lst (encW wb)), dd (.int (wb.marks.length : Int)), dd (.lst (encW (bareW wb))), dd (lI K), dd (tI K), none, none, none, none, none, none, none, none, none] p2 := by
    have ei : fIs1 [tI K, .ty .tup] = some (.bl true) := by simp [fIs1, tyN, isTy]
    simp only [b_law_k63_06, sif_ev, mor_ev, mnot_ev, mtru_ev, opn_ev, acons_ev, mret_ev, anil_ev, mtest_ev, op2_ev, mfreeze_ev, mlistN_ev, mvar, List.getElem?_cons_succ, List.getElem?_cons_zero, bind_ok, ei, fSeq1_tup, mlift_some, truOf_bl, ne_lI, decide_true, Bool.not_true, boolOf_bl, Bool.false_eq_true, if_false, toO_ok, sskip_ev]
  obtain ⟨m', p3, e6, m0, m1⟩ := draw_ev 5 (by decide) p2
  obtain ⟨m, rfl⟩ : ∃ m : Nat, m' = (m : Int) := ⟨m'.toNat, by omega⟩
  have T7 : b_law_k63_07 [none, dd .pot, dd (.lst (encW wb)), dd (.int (wb.marks.length : Int)), dd (.lst (encW (bareW wb))), dd (lI K), dd (tI K), none, none, none, none, none, none, none, none, none] p2 = .nx [none, dd .pot, dd (.lst (encW wb)), dd (.int (wb.marks.length : Int)), dd (.lst (encW (bareW wb))), dd (lI K), dd (tI K), dd (.int (m : Int)), none, none, none, none, none, none, none, none] p3 := by simp [b_law_k63_07, mvar, e6]
  have c8 : c_law_k63_1 [none, dd .pot, dd (.lst (encW wb)), dd (.int (wb.marks.length : Int)), dd (.lst (encW (bareW wb))), dd (lI K), dd (tI K), dd (.int (m : Int)), none, none, none, none, none, none, none, none] p3 = .ok ((wb.dues.filterMap dueN).map .int) p3 := by
    unfold c_law_k63_1
    rw [mcomp_ev (ds := wb.dues.map dDue) (p' := p3) (by simp [mvar, i3]) (by rw [List.length_map]; omega)]
    rw [comp_run (by simp) (fun d => match d with | .tup [_, x] => some x | _ => none) (fun d hd => by
      obtain ⟨e, _, rfl⟩ := List.mem_map.mp hd
      rcases e with _ | ⟨b, x⟩
      · simp [turn, mvar, dDue]
      · cases b <;> simp [turn, mvar, dDue])]
    congr 1
    rw [List.filterMap_map, List.map_filterMap]
    refine congrArg (fun f => List.filterMap f wb.dues) (funext fun d => ?_)
    rcases d with _ | ⟨b, x⟩
    · rfl
    · cases b <;> rfl
  have T8 : b_law_k63_08 [none, dd .pot, dd (.lst (encW wb)), dd (.int (wb.marks.length : Int)), dd (.lst (encW (bareW wb))), dd (lI K), dd (tI K), dd (.int (m : Int)), none, none, none, none, none, none, none, none] p3 = .nx [none, dd .pot, dd (.lst (encW wb)), dd (.int (wb.marks.length : Int)), dd (.lst (encW (bareW wb))), dd (lI K), dd (tI K), dd (.int (m : Int)), dd (.int (greatI wb)), none, none, none, none, none, none, none] p3 := by
    have hlf : (wb.dues.filterMap dueN).length ≤ 60 := Nat.le_trans (List.length_filterMap_le _ _) (by omega)
    have ec : fCat (.lst [.int 0]) (.lst ((wb.dues.filterMap dueN).map .int)) = some (.lst ((0 :: wb.dues.filterMap dueN).map .int)) := by
      show (if _ then _ else _) = _
      rw [if_pos (by simp; omega)]
      rfl
    have em : fMaxL [.lst ((0 :: wb.dues.filterMap dueN).map .int)] = some (.int (greatI wb)) := by
      show (intsOf ((0 :: wb.dues.filterMap dueN).map .int)).bind mostOf = _
      rw [intsOf_map]
      rfl
    simp only [b_law_k63_08, sasg_ev, opn_ev, acons_ev, op2_ev, mfreeze_ev, mshort_ev, mret_ev, anil_ev, bind_ok, List.length_cons, List.length_nil, Nat.reduceAdd, Nat.reduceLeDiff, if_true, c8, ec, em, mlift_some, toO_ok]
    rfl
  have hg4 : ∀ d ∈ wb.dues, gdI d ≤ 4 := fun d hd => by
    have := hdue d hd
    rcases d with _ | ⟨b, x⟩
    · decide
    · exact (this b x rfl).2
  have hg4B : ∀ d ∈ (bareW wb).dues, gdI d ≤ 4 := fun d hd => by
    obtain ⟨e, he, rfl⟩ := List.mem_map.mp hd
    rcases bareD_cases e with h | h
    · rw [h]; decide
    · rw [h]; exact hg4 e he
  have fuel : ∀ b, b ≤ m → fuelL wb b ≤ 900 := fun b hb => by
    unfold fuelL
    have h1 : wb.marks.length * (b + 2) ≤ 6 * 6 := Nat.mul_le_mul (by omega) (by omega)
    exact Nat.le_trans (Nat.mul_le_mul (show wb.marks.length ≤ 6 by omega) (Nat.add_le_add_right h1 8)) (by decide)
  have b2 := built9_ev A V p3
  have b3 := built9_ev A VB p3
  obtain ⟨TB, hTB⟩ : ∃ TB : List (List OI), TB = (List.range (m + 1)).map fun b => tabB wb 900 b := ⟨_, rfl⟩
  have e9 := bank_rows_ev V A (m := m) (n := 900) (by omega) (by omega) (fun d hd => by have := hg4 d hd; omega) (fun b hb => (row_ok V hg4 (fuel b hb) (good_all V hg4 b (fuel b hb))).rest) p3
  have e10 := bank_rows_ev VB A (m := m) (n := 900) (by omega) (by omega) (fun d hd => by have := hg4B d hd; omega) (fun b hb => by
    unfold Rests
    rw [tabB_bare, hsB_bare, nextO_bare]
    exact (row_ok V hg4 (fuel b hb) (good_all V hg4 b (fuel b hb))).rest) p3
  have e9' : D_bank_rows A [insW A wb, .int (m : Int)] p3 = .ok (.tup (TB.map tO)) p3 := by rw [e9, hTB, List.map_map]; rfl
  have e10' : D_bank_rows A [insW A (bareW wb), .int (m : Int)] p3 = .ok (.tup (TB.map tO)) p3 := by
    rw [e10, hTB, List.map_map]
    congr 2
    refine List.map_congr_left fun b _ => ?_
    rw [tabB_bare]
    rfl
  obtain ⟨ST, hST⟩ : ∃ ST : Option L → Option L → Option L → Option L → Option L → Option L → Option L → Den.Loc, ST = fun o9 o10 o11 o12 o13 o14 o15 => [none, dd .pot, dd (.lst (encW wb)), dd (.int (wb.marks.length : Int)), dd (.lst (encW (bareW wb))), dd (lI K), dd (tI K), dd (.int (m : Int)), dd (.int (greatI wb)), o9, o10, o11, o12, o13, o14, o15] := ⟨_, rfl⟩
  have T9 : b_law_k63_09 A (ST none none none none none none none) p3 = .nx (ST none (dd (.tup (TB.map tO))) none none none none none) p3 := by
    subst hST
    simp [b_law_k63_09, mvar, b2, e9']
  have T10 : b_law_k63_10 A (ST none (dd (.tup (TB.map tO))) none none none none none) p3 = .nx (ST none (dd (.tup (TB.map tO))) (dd (.tup (TB.map tO))) none none none none) p3 := by
    subst hST
    simp [b_law_k63_10, mvar, b3, e10']
  have T11 : b_law_k63_11 (ST none (dd (.tup (TB.map tO))) (dd (.tup (TB.map tO))) none none none none) p3 = .nx (ST none (dd (.tup (TB.map tO))) (dd (.tup (TB.map tO))) none none none none) p3 := by
    have en := ne_tabs TB
    have el : fLen [.tup (TB.map tO)] = some (.int ((m : Int) + 1)) := by
      rw [fLen_tup, List.length_map, hTB]
      simp
    subst hST
    simp only [b_law_k63_11, sif_ev, mor_ev, mtest_ev, op2_ev, opn_ev, acons_ev, anil_ev, mvar, mret_ev, List.getElem?_cons_succ, List.getElem?_cons_zero, bind_ok, en, el, mlift_some, boolOf_bl, Bool.false_eq_true, if_false, fAdd_int, fNe_int, decide_true, Bool.not_true, toO_ok, sskip_ev]
  have e12 := law_table_ev V hg4 (m := m) (by omega) (fuel m (Nat.le_refl m)) p3
  obtain ⟨TL, hTL⟩ : ∃ TL : List D, TL = (List.range (m + 1)).map fun b => lI (encR (tabB wb 900 b)) := ⟨_, rfl⟩
  rw [← hTL] at e12
  have T12 : b_law_k63_12 (ST none (dd (.tup (TB.map tO))) (dd (.tup (TB.map tO))) none none none none) p3 = .nx (ST none (dd (.tup (TB.map tO))) (dd (.tup (TB.map tO))) (dd (.lst TL)) none none none) p3 := by
    subst hST
    simp [b_law_k63_12, mvar, e12]
  have stand : ∀ (b : Nat), b ≤ m → ∀ (i : Nat), i < wb.marks.length → ∀ o15 : Option L, ∃ o15', L_law_k63_13l1 (ST none (dd (.tup (TB.map tO))) (dd (.tup (TB.map tO))) (dd (.lst TL)) (dd (.int (b : Int))) (dd (.int (i : Int))) o15) p3 = .nx (ST none (dd (.tup (TB.map tO))) (dd (.tup (TB.map tO))) (dd (.lst TL)) (dd (.int (b : Int))) (dd (.int (i : Int))) o15') p3 := fun b hb i hi o15 => by
    obtain ⟨v, hv⟩ : ∃ v, v = (tabB wb 900 b)[i]?.getD none := ⟨_, rfl⟩
    have hlb : (tabB wb 900 b).length = wb.marks.length := rowB_len V 900 _
    have a1 : atI (TB.map tO) (b : Int) = some (tO (tabB wb 900 b)) := atI_nat (by rw [hTB, List.getElem?_map, List.getElem?_map, List.getElem?_range (by omega)]; rfl)
    have a2 : fIx (tO (tabB wb 900 b)) (.int (i : Int)) = some (dO v) := by
      refine atI_nat ?_
      have e : (tabB wb 900 b)[i]? = some (tabB wb 900 b)[i] := List.getElem?_eq_getElem (by omega)
      rw [List.getElem?_map, hv, e]
      rfl
    have a3 : atI TL (b : Int) = some (lI (encR (tabB wb 900 b))) := atI_nat (by rw [hTL, List.getElem?_map, List.getElem?_range (by omega)]; rfl)
    have a4 : fIx (lI (encR (tabB wb 900 b))) (.int (i : Int)) = some (.int (eO v)) := by
      refine atI_nat ?_
      have e : (tabB wb 900 b)[i]? = some (tabB wb 900 b)[i] := List.getElem?_eq_getElem (by omega)
      unfold encR
      rw [List.getElem?_map, List.getElem?_map, hv, e]
      rfl
    have hin : fInB false (.int (i : Int)) (lI K) = some (.bl v.isNone) := by
      rw [in_lI, hK]
      have e := mem_setI_in (n := wb.marks.length) (z := itB (bareW wb) wb.marks.length) (x := (i : Int)) (by omega) (by omega)
      rw [e, Int.toNat_natCast]
      have hb2 : fuelL (bareW wb) b ≤ 900 := fuel b hb
      have := none_iff VB hg4B bare_noless hb2 Gz (i := i) hi
      rw [tabB_bare, ← hv] at this
      cases hz : itB (bareW wb) wb.marks.length i with
      | true => rw [this.mpr hz]; rfl
      | false =>
        cases hvv : v with
        | none => rw [this.mp hvv] at hz; cases hz
        | some u => rfl
    have S1 : b_law_k63_13l1l1 (ST none (dd (.tup (TB.map tO))) (dd (.tup (TB.map tO))) (dd (.lst TL)) (dd (.int (b : Int))) (dd (.int (i : Int))) o15) p3 = .nx (ST none (dd (.tup (TB.map tO))) (dd (.tup (TB.map tO))) (dd (.lst TL)) (dd (.int (b : Int))) (dd (.int (i : Int))) (dd (dO v))) p3 := by
      subst hST
      simp [b_law_k63_13l1l1, mvar, a1, a2]
    have S2 : b_law_k63_13l1l2 (ST none (dd (.tup (TB.map tO))) (dd (.tup (TB.map tO))) (dd (.lst TL)) (dd (.int (b : Int))) (dd (.int (i : Int))) (dd (dO v))) p3 = .nx (ST none (dd (.tup (TB.map tO))) (dd (.tup (TB.map tO))) (dd (.lst TL)) (dd (.int (b : Int))) (dd (.int (i : Int))) (dd (dO v))) p3 := by
      have en : fNe (.bl v.isNone) (.bl v.isNone) = some (.bl false) := by
        show (if scal (L2.V.bl v.isNone) (L2.V.bl v.isNone) = true then some (D.bl (!decide (L2.V.bl v.isNone = L2.V.bl v.isNone))) else none) = _
        simp [scal]
      subst hST
      simp only [b_law_k63_13l1l2, sif_ev, mtest_ev, op2_ev, mvar, mret_ev, List.getElem?_cons_succ, List.getElem?_cons_zero, bind_ok, fIsN_ev, isNon_dO, mlift_some, hin, en, boolOf_bl, Bool.false_eq_true, if_false, toO_ok, sskip_ev]
    have S3 : b_law_k63_13l1l3 (ST none (dd (.tup (TB.map tO))) (dd (.tup (TB.map tO))) (dd (.lst TL)) (dd (.int (b : Int))) (dd (.int (i : Int))) (dd (dO v))) p3 = .nx (ST none (dd (.tup (TB.map tO))) (dd (.tup (TB.map tO))) (dd (.lst TL)) (dd (.int (b : Int))) (dd (.int (i : Int))) (dd (dO v))) p3 := by
      cases hvv : v with
      | none =>
        have ep : fPow (.int 10) (.int 6) = some (.int 1000000) := by kernel_rfl
        have e0 : eO none = 1000000 := rfl
        rw [hvv, e0] at a4
        subst hST
        simp [b_law_k63_13l1l3, mvar, dO, a3, a4, ep]
      | some u =>
        have hmem : some u ∈ tabB wb 900 b := by
          have e : (tabB wb 900 b)[i]? = some (tabB wb 900 b)[i] := List.getElem?_eq_getElem (by omega)
          rw [e] at hv
          have : (tabB wb 900 b)[i] = some u := by rw [← hvv, hv]; rfl
          rw [← this]
          exact List.getElem_mem _
        have G := good_all V hg4 b (fuel b hb)
        have FF : FallO wb (hsB wb 900 b) (greatI wb) b (tabB wb 900 b) := fixG_inv (g := fun r => nextO wb r (hsB wb 900 b)) (fun r => FallO wb (hsB wb 900 b) (greatI wb) b r) (fun r h => fallO_next V (great_ge wb) G.hs h) 900 (dues0 wb) (fallO_first V (great_ge wb))
        have hu0 := FF.nn u hmem
        have hu1 := FF.bd u hmem
        have hfc := finC_le (tabB wb 900 b)
        rw [hlb] at hfc
        have hmul : (finC (tabB wb 900 b) : Int) * ((b : Int) + 1) ≤ (wb.marks.length : Int) * ((b : Int) + 1) := Int.mul_le_mul_of_nonneg_right (by omega) (by omega)
        have hu2 : ¬ (greatI wb + (wb.marks.length : Int) * ((b : Int) + 1) < u) := by omega
        have em : fMul (.int (wb.marks.length : Int)) (.int ((b : Int) + 1)) = some (.int ((wb.marks.length : Int) * ((b : Int) + 1))) := fMul_int (.inl (by omega))
        have ei := is_integer_int u p3
        have e0 : eO (some u) = u := rfl
        rw [hvv, e0] at a4
        have hu0' : ¬ (u < 0) := by omega
        subst hST
        simp [b_law_k63_13l1l3, b_law_k63_13l1l3t1, b_law_k63_13l1l3t2, mvar, dO, ei, hu0', em, hu2, a3, a4]
    refine ⟨dd (dO v), ?_⟩
    unfold L_law_k63_13l1
    rw [seq_nx S1, seq_nx S2, S3]
  have T13 : ∃ o13 o14 o15, b_law_k63_13 (ST none (dd (.tup (TB.map tO))) (dd (.tup (TB.map tO))) (dd (.lst TL)) none none none) p3 = .nx (ST none (dd (.tup (TB.map tO))) (dd (.tup (TB.map tO))) (dd (.lst TL)) o13 o14 o15) p3 := by
    obtain ⟨l', q, e, rfl, o13, o14, o15, rfl⟩ := loop_run (tg := gset 13) (body := L_law_k63_13)
      (fun (j : Nat) (l : Den.Loc) (q : List Int) => q = p3 ∧ ∃ o13 o14 o15, l = ST none (dd (.tup (TB.map tO))) (dd (.tup (TB.map tO))) (dd (.lst TL)) o13 o14 o15)
      (ds := rngD 0 (m + 1)) (k := 0) (l := ST none (dd (.tup (TB.map tO))) (dd (.tup (TB.map tO))) (dd (.lst TL)) none none none) (p := p3) ⟨rfl, none, none, none, rfl⟩ (fun b d l q hd hI => by
        obtain ⟨rfl, o13, o14, o15, rfl⟩ := hI
        obtain ⟨hb, rfl⟩ := rngD_get hd
        rw [Int.zero_add]
        obtain ⟨l', q', e, rfl, o14', o15', rfl⟩ := loop_run (tg := gset 14) (body := L_law_k63_13l1)
          (fun (j : Nat) (l : Den.Loc) (q' : List Int) => q' = q ∧ ∃ o14 o15, l = ST none (dd (.tup (TB.map tO))) (dd (.tup (TB.map tO))) (dd (.lst TL)) (dd (.int (b : Int))) o14 o15)
          (ds := rngD 0 wb.marks.length) (k := 0) (l := ST none (dd (.tup (TB.map tO))) (dd (.tup (TB.map tO))) (dd (.lst TL)) (dd (.int (b : Int))) o14 o15) (p := q) ⟨rfl, o14, o15, rfl⟩ (fun i d l q' hd hI => by
            obtain ⟨rfl, o14, o15, rfl⟩ := hI
            obtain ⟨hi, rfl⟩ := rngD_get hd
            rw [Int.zero_add]
            obtain ⟨o15', e⟩ := stand b (by omega) i hi o15
            exact ⟨ST none (dd (.tup (TB.map tO))) (dd (.tup (TB.map tO))) (dd (.lst TL)) (dd (.int (b : Int))) (dd (.int (i : Int))) o15, by subst hST; simp, _, q', .inl e, rfl, dd (.int (i : Int)), o15', rfl⟩)
        refine ⟨ST none (dd (.tup (TB.map tO))) (dd (.tup (TB.map tO))) (dd (.lst TL)) (dd (.int (b : Int))) o14 o15, by subst hST; simp, ST none (dd (.tup (TB.map tO))) (dd (.tup (TB.map tO))) (dd (.lst TL)) (dd (.int (b : Int))) o14' o15', q', .inl ?_, rfl, dd (.int (b : Int)), o14', o15', rfl⟩
        have er : rng1 [.int (wb.marks.length : Int)] = some (rngD 0 wb.marks.length) := by rw [rng1_int (by omega), Int.toNat_natCast]
        unfold L_law_k63_13
        subst hST
        simp only [sfor_ev, mbind_ev, acons_ev, mvar, List.getElem?_cons_succ, List.getElem?_cons_zero, bind_ok, anil_ev, er, mlift_some, toO_ok]
        exact e)
    refine ⟨o13, o14, o15, ?_⟩
    unfold b_law_k63_13
    have er : rng1 [.int ((m : Int) + 1)] = some (rngD 0 (m + 1)) := by
      rw [rng1_int (by omega)]
      congr 1
    subst hST
    simp only [sfor_ev, mbind_ev, acons_ev, op2_ev, mvar, mret_ev, List.getElem?_cons_succ, List.getElem?_cons_zero, bind_ok, fAdd_int, mlift_some, anil_ev, er, toO_ok]
    exact e
  obtain ⟨o13, o14, o15, T13⟩ := T13
  obtain ⟨z0, Gz0, e14⟩ := kept_off_ev A V p3
  have sub : ∀ x ∈ setI wb.marks.length z0, x ∈ K := fun x hx => by
    obtain ⟨i, hi, hz, rfl⟩ := setI_mem.mp hx
    rw [hK]
    refine setI_nat.mpr ⟨hi, ?_⟩
    refine Gz.most z0 ⟨fun j hj hzj => ?_, fun j hj hzj => Gz0.stays.keep j hj hzj⟩ i hi hz
    have h := Gz0.stays.sub j hj hzj
    unfold noDue at h ⊢
    show (((wb.dues.map bareD)[j]?.getD none)).isNone = true
    rw [List.getElem?_map]
    cases hd : wb.dues[j]? with
    | none => rfl
    | some d =>
      rw [hd] at h
      cases d with
      | none => rfl
      | some y => cases h
  have T14 : ∃ o14', b_law_k63_14 A (ST none (dd (.tup (TB.map tO))) (dd (.tup (TB.map tO))) (dd (.lst TL)) o13 o14 o15) p3 = .nx (ST none (dd (.tup (TB.map tO))) (dd (.tup (TB.map tO))) (dd (.lst TL)) o13 o14' o15) p3 := by
    obtain ⟨o', e⟩ := loop_env (i := 14) (body := L_law_k63_14) (fun o => ST none (dd (.tup (TB.map tO))) (dd (.tup (TB.map tO))) (dd (.lst TL)) o13 o o15) (p := p3) (fun o d => by subst hST; rfl) (ds := (setI wb.marks.length z0).map .int) (fun d hd => by
      obtain ⟨x, hx, rfl⟩ := List.mem_map.mp hd
      have hin := nin_lI x K
      have : decide (x ∈ K) = true := decide_eq_true (sub x hx)
      rw [this] at hin
      subst hST
      simp only [L_law_k63_14, sif_ev, mtest_ev, op2_ev, mvar, List.getElem?_cons_succ, List.getElem?_cons_zero, bind_ok, hin, mlift_some, boolOf_bl, Bool.not_true, Bool.false_eq_true, if_false, toO_ok, sskip_ev]) o14
    refine ⟨o', ?_⟩
    unfold b_law_k63_14
    subst hST
    simp only [sfor_ev, mbind_ev, mcall_ev, acons_ev, anil_ev, mvar, List.getElem?_cons_succ, List.getElem?_cons_zero, bind_ok, b2, e14, tupOf_tup, mlift_some, toO_ok]
    exact e
  obtain ⟨o14', T14⟩ := T14
  refine ⟨p3, ?_⟩
  subst hST
  unfold dn_law_k63
  rw [seq_nx T1, seq_nx T2, seq_nx T3, seq_nx T4, seq_nx T5, seq_nx T6, seq_nx T7, seq_nx T8, seq_nx T9, seq_nx T10, seq_nx T11, seq_nx T12, seq_nx T13, seq_nx T14]
  simp
end PL
namespace K63
open PySem L2 Den PL FX
noncomputable section
variable {c : Cfg} {K : PySem.W.Frag} {ec : Nat → Addr} {P : Program} {w : World} {mg : Str → Option Value} {base : Heap} {A : Adr}
theorem pss_pot (nr : mg "range" = none) (nmin : mg "min" = none) (nlen : mg "len" = none) (nint : mg "int" = none) (f : Addr) (cdv : Value) (A_ : Around) (outer : List Env) (sh : Shared) (H : Hp) (E' : XK) :
    PSs (cxOf (L2.CX P w) P w c.K mg base Nn_law_pot "_law_pot" (defScope s_law_pot) f cdv A_ outer sh H E') (defBody s_law_pot) (qPot c) :=
  (pss_cons (ps_asg (pe_lst pa_nil) (pg_name (i := 1) sc_law_pot.nd rfl (by first | exact Or.inl rfl | exact Or.inr rfl)))
    (pss_cons (ps_for (passes_of rfl) rfl (pi_range1 (by rfl) nr (pa_cons (pe_callB (call_min2 rfl) (by rfl) nmin (by decide +kernel) (pa_cons (pe_callB call_len_seq (by rfl) nlen (by decide +kernel) (pa_cons (pv 0) pa_nil)) (pa_cons pe_int pa_nil))) pa_nil)) (pg_name (i := 2) sc_law_pot.nd rfl (by first | exact Or.inl rfl | exact Or.inr rfl)) (pss_cons (ps_asg (pe_callTy call_int1 (by rfl) nint (by decide +kernel) (pa_cons (pe_ix ix_seq (pv 0) (pv 2) (fun _ _ => rfl)) pa_nil)) (pg_name (i := 3) sc_law_pot.nd rfl (by first | exact Or.inl rfl | exact Or.inr rfl)))
    (pss_cons (ps_asg pe_int (pg_name (i := 4) sc_law_pot.nd rfl (by first | exact Or.inl rfl | exact Or.inr rfl)))
    (pss_cons (ps_if (pt_cmpR op_lt (pv 3) pe_int (nomark _)) (pss_cons (ps_asg (pe_op op_sub pe_int (pv 3)) (pg_name (i := 3) sc_law_pot.nd rfl (by first | exact Or.inl rfl | exact Or.inr rfl)))
    (pss_one (ps_asg pe_int (pg_name (i := 4) sc_law_pot.nd rfl (by first | exact Or.inl rfl | exact Or.inr rfl))))) pss_nil)
    (pss_one (ps_if (pt_cmpR op_ge (pv 3) (pe_op op_pow pe_int pe_int) (nomark _)) (pss_one (ps_for (passes_of rfl) rfl (pi_range1 (by rfl) nr (pa_cons pe_int pa_nil)) (pg_name (i := 5) sc_law_pot.nd rfl (by first | exact Or.inl rfl | exact Or.inr rfl)) (pss_one (ps_if (pt_cmpR op_gt (pv 3) pe_int (nomark _)) (pss_cons (ps_expr (pe_bm PySem.F.plainAttrs_list PySem.F.slot_list_append PySem.F.type_list_append mt_append (pv 1) (pa_cons (pe_op op_mod (pe_callTy call_int1 (by rfl) nint (by decide +kernel) (pa_cons (pv 3) pa_nil)) pe_int) pa_nil)))
    (pss_one (ps_asg (pe_op op_fdiv (pv 3) pe_int) (pg_name (i := 3) sc_law_pot.nd rfl (by first | exact Or.inl rfl | exact Or.inr rfl))))) pss_nil)))) (pss_cons (ps_asg (pe_op op_mod (pe_callTy call_int1 (by rfl) nint (by decide +kernel) (pa_cons (pe_op op_add (pe_op op_add (pe_op op_mul (pv 3) pe_int) (pe_op op_mul (pv 2) pe_int)) (pv 4)) pa_nil)) pe_int) (pg_name (i := 6) sc_law_pot.nd rfl (by first | exact Or.inl rfl | exact Or.inr rfl)))
    (pss_one (ps_for (passes_of rfl) rfl (pi_range1 (by rfl) nr (pa_cons pe_int pa_nil)) (pg_name (i := 5) sc_law_pot.nd rfl (by first | exact Or.inl rfl | exact Or.inr rfl)) (pss_cons (ps_asg (pe_op op_mod (pe_callTy call_int1 (by rfl) nint (by decide +kernel) (pa_cons (pe_op op_add (pe_op op_add (pe_op op_add (pe_op op_mul (pv 6) (pv 6)) (pe_op op_mul (pv 5) pe_int)) (pe_op op_mul (pv 2) pe_int)) pe_int) pa_nil)) pe_int) (pg_name (i := 6) sc_law_pot.nd rfl (by first | exact Or.inl rfl | exact Or.inr rfl)))
    (pss_one (ps_expr (pe_bm PySem.F.plainAttrs_list PySem.F.slot_list_append PySem.F.type_list_append mt_append (pv 1) (pa_cons (pv 6) pa_nil))))))))))))))
    (pss_cons (ps_expr (pe_bm0 PySem.F.plainAttrs_list PySem.F.slot_list_reverse PySem.F.type_list_reverse mt_reverse (pv 1)))
    (pss_one (ps_ret (pv 1))))))
theorem ok_law_pot {f : Addr} {fd : FuncData} (F : Fun c.K "_law_pot" "_law_pot" s_law_pot f fd) (nr : mg "range" = none) (nmin : mg "min" = none) (nlen : mg "len" = none) (nint : mg "int" = none) : FnR P w c.K mg base (L2.CX P w) 1 f (spPot c.K) := by
  have ok : FnOk P w c.K mg base (L2.CX P w) 1 f fd ["_law_script"] (spPot c.K) := by
    refine F.okX sc_law_pot (fun vs H Q E h => ?_) (fun cdv A outer sh H vs Q E hr h => ?_)
    · obtain ⟨a, ns, rfl, _⟩ := h
      rfl
    · obtain ⟨a, ns, rfl, hS, hl, k⟩ := h
      exact ⟨_, pss_pot nr nmin nlen nint f cdv A outer sh H E, pot_run hS hl k⟩
  have raw := ok.raw (F.binds (ps := ["_law_script"]) fun _ _ _ _ _ _ us hl => match us, hl with | [_], _ => rfl) .nil
  exact raw.imp fun vs H Q E h => by rw [List.append_nil]; exact h
theorem ok_law {f fP : Addr} {fd fdP : FuncData} (T : ∀ p, Txt (potCfg K p ec) mg A) (F : Fun K "law" "law" s_law f fd) (FP : Fun K "_law_pot" "_law_pot" s_law_pot fP fdP) (mP : mg "_law_pot" = some (.ref fP)) : FnOk P w K mg base (L2.CX P w) 9 f fd ["_law_script"] (spLaw K) := by
  refine F.okX sc_law (fun vs H Q E h => ?_) (fun cdv A_ outer sh H vs Q E hr h => ?_)
  · obtain ⟨a, ns, rfl, _⟩ := h
    rfl
  · obtain ⟨a, ns, rfl, hS, hl, k⟩ := h
    have T0 := T 0
    have G0 : FnR P w K mg base (L2.CX P w) 1 fP (spPot K) := ok_law_pot (c := (potCfg K 0 ec)) FP T0.n_range T0.n_min T0.n_len T0.n_int
    refine ⟨_, pss_cons (ps_asg (pe_callRS (E := fun _ => E) G0 (hr.mono (by decide)) (by rfl) mP FP.kp (passE (takes_of rfl rfl rfl rfl)) (pa_cons (pv 0) pa_nil)) (pg_name (i := 1) sc_law.nd rfl (by first | exact Or.inl rfl | exact Or.inr rfl))) (pss_any (st := (defBody s_law).drop 1)), ?_⟩
    refine ⟨_, rfl, a, ns, rfl, hS, hl, fun p pot H' hp => ?_⟩
    obtain ⟨t, ht, hs⟩ := rest_law (P := P) (w := w) (base := base) (T p) f cdv A_ outer sh H E hr
    refine ⟨t, ht, hs (fun _ => none) H' (fun _ => none) H' _ (potLoc 14) pot (pot_rel hp) _ ?_⟩
    obtain ⟨q, e⟩ := law_k63_run A.ca pot
    have e' : dn_law_k63 A.ca (potLoc 14) pot = .rt (.bl true) q := e
    rw [e']
    intro v G1 H1 σ1 l1 _ _ a1
    cases a1
    exact k H1
theorem all_mk {l : PySem.W.OpenLaw} {w : World} {K : PySem.W.Frag} {h : Heap} {mg : Str → Option Value} {fa : Addr} {f_is_integer f_check_whole f_whole_list f_check_range f_check_least f_check_most f_as_stands f_is_due f_due_in_range f_due_too_great f_check_due f_check_kinds f_check_steps f_check_parts f_check_web f_stays_off f_kept_off f_bank_due_of f_least_of f_greatest_of f_bank_high f_bank_price_of f_next_bank_row f_with_highs f_rounds_by_highs f_bank_rows f_law_draw f_law_whole f_law_lot f_law_due f_law_marks f_law_path f_law_web f_law_low f_law_high f_law_made f_law_bank_cost f_law_bank_rows f_law_bare f_law_kept C_Web f_Web_init f_Web_dues p_Web_dues f_Web_first p_Web_first f_Web_greatest_due p_Web_greatest_due f_Web_marks p_Web_marks f_Web_second p_Web_second f_Web_size p_Web_size e0 e1 e2 e3 f_law_pot f_law : Addr} (X : K.In h) (G : h.Ns mainGlobals mg) (hfa : mg "law" = some (.ref fa))
    (a_is_integer : PySem.W.nsIn K mainGlobals "is_integer" = some (some (.ref f_is_integer))) (b_is_integer : FnIn K "is_integer" "is_integer" s_is_integer f_is_integer)
    (a_check_whole : PySem.W.nsIn K mainGlobals "check_whole" = some (some (.ref f_check_whole))) (b_check_whole : FnIn K "check_whole" "check_whole" s_check_whole f_check_whole)
    (a_whole_list : PySem.W.nsIn K mainGlobals "whole_list" = some (some (.ref f_whole_list))) (b_whole_list : FnIn K "whole_list" "whole_list" s_whole_list f_whole_list)
    (a_check_range : PySem.W.nsIn K mainGlobals "check_range" = some (some (.ref f_check_range))) (b_check_range : FnIn K "check_range" "check_range" s_check_range f_check_range)
    (a_check_least : PySem.W.nsIn K mainGlobals "check_least" = some (some (.ref f_check_least))) (b_check_least : FnIn K "check_least" "check_least" s_check_least f_check_least)
    (a_check_most : PySem.W.nsIn K mainGlobals "check_most" = some (some (.ref f_check_most))) (b_check_most : FnIn K "check_most" "check_most" s_check_most f_check_most)
    (a_as_stands : PySem.W.nsIn K mainGlobals "as_stands" = some (some (.ref f_as_stands))) (b_as_stands : FnIn K "as_stands" "as_stands" s_as_stands f_as_stands)
    (a_is_due : PySem.W.nsIn K mainGlobals "is_due" = some (some (.ref f_is_due))) (b_is_due : FnIn K "is_due" "is_due" s_is_due f_is_due)
    (a_due_in_range : PySem.W.nsIn K mainGlobals "due_in_range" = some (some (.ref f_due_in_range))) (b_due_in_range : FnIn K "due_in_range" "due_in_range" s_due_in_range f_due_in_range)
    (a_due_too_great : PySem.W.nsIn K mainGlobals "due_too_great" = some (some (.ref f_due_too_great))) (b_due_too_great : FnIn K "due_too_great" "due_too_great" s_due_too_great f_due_too_great)
    (a_check_due : PySem.W.nsIn K mainGlobals "check_due" = some (some (.ref f_check_due))) (b_check_due : FnIn K "check_due" "check_due" s_check_due f_check_due)
    (a_check_kinds : PySem.W.nsIn K mainGlobals "check_kinds" = some (some (.ref f_check_kinds))) (b_check_kinds : FnIn K "check_kinds" "check_kinds" s_check_kinds f_check_kinds)
    (a_check_steps : PySem.W.nsIn K mainGlobals "check_steps" = some (some (.ref f_check_steps))) (b_check_steps : FnIn K "check_steps" "check_steps" s_check_steps f_check_steps)
    (a_check_parts : PySem.W.nsIn K mainGlobals "check_parts" = some (some (.ref f_check_parts))) (b_check_parts : FnIn K "check_parts" "check_parts" s_check_parts f_check_parts)
    (a_check_web : PySem.W.nsIn K mainGlobals "check_web" = some (some (.ref f_check_web))) (b_check_web : FnIn K "check_web" "check_web" s_check_web f_check_web)
    (a_stays_off : PySem.W.nsIn K mainGlobals "stays_off" = some (some (.ref f_stays_off))) (b_stays_off : FnIn K "stays_off" "stays_off" s_stays_off f_stays_off)
    (a_kept_off : PySem.W.nsIn K mainGlobals "kept_off" = some (some (.ref f_kept_off))) (b_kept_off : FnIn K "kept_off" "kept_off" s_kept_off f_kept_off)
    (a_bank_due_of : PySem.W.nsIn K mainGlobals "bank_due_of" = some (some (.ref f_bank_due_of))) (b_bank_due_of : FnIn K "bank_due_of" "bank_due_of" s_bank_due_of f_bank_due_of)
    (a_least_of : PySem.W.nsIn K mainGlobals "least_of" = some (some (.ref f_least_of))) (b_least_of : FnIn K "least_of" "least_of" s_least_of f_least_of)
    (a_greatest_of : PySem.W.nsIn K mainGlobals "greatest_of" = some (some (.ref f_greatest_of))) (b_greatest_of : FnIn K "greatest_of" "greatest_of" s_greatest_of f_greatest_of)
    (a_bank_high : PySem.W.nsIn K mainGlobals "bank_high" = some (some (.ref f_bank_high))) (b_bank_high : FnIn K "bank_high" "bank_high" s_bank_high f_bank_high)
    (a_bank_price_of : PySem.W.nsIn K mainGlobals "bank_price_of" = some (some (.ref f_bank_price_of))) (b_bank_price_of : FnIn K "bank_price_of" "bank_price_of" s_bank_price_of f_bank_price_of)
    (a_next_bank_row : PySem.W.nsIn K mainGlobals "next_bank_row" = some (some (.ref f_next_bank_row))) (b_next_bank_row : FnIn K "next_bank_row" "next_bank_row" s_next_bank_row f_next_bank_row)
    (a_with_highs : PySem.W.nsIn K mainGlobals "with_highs" = some (some (.ref f_with_highs))) (b_with_highs : FnIn K "with_highs" "with_highs" s_with_highs f_with_highs)
    (a_rounds_by_highs : PySem.W.nsIn K mainGlobals "rounds_by_highs" = some (some (.ref f_rounds_by_highs))) (b_rounds_by_highs : FnIn K "rounds_by_highs" "rounds_by_highs" s_rounds_by_highs f_rounds_by_highs)
    (a_bank_rows : PySem.W.nsIn K mainGlobals "bank_rows" = some (some (.ref f_bank_rows))) (b_bank_rows : FnIn K "bank_rows" "bank_rows" s_bank_rows f_bank_rows)
    (a_law_draw : PySem.W.nsIn K mainGlobals "_law_draw" = some (some (.ref f_law_draw))) (b_law_draw : FnIn K "_law_draw" "_law_draw" s_law_draw f_law_draw)
    (a_law_whole : PySem.W.nsIn K mainGlobals "_law_whole" = some (some (.ref f_law_whole))) (b_law_whole : FnIn K "_law_whole" "_law_whole" s_law_whole f_law_whole)
    (a_law_lot : PySem.W.nsIn K mainGlobals "_law_lot" = some (some (.ref f_law_lot))) (b_law_lot : FnIn K "_law_lot" "_law_lot" s_law_lot f_law_lot)
    (a_law_due : PySem.W.nsIn K mainGlobals "_law_due" = some (some (.ref f_law_due))) (b_law_due : FnIn K "_law_due" "_law_due" s_law_due f_law_due)
    (a_law_marks : PySem.W.nsIn K mainGlobals "_law_marks" = some (some (.ref f_law_marks))) (b_law_marks : FnIn K "_law_marks" "_law_marks" s_law_marks f_law_marks)
    (a_law_path : PySem.W.nsIn K mainGlobals "_law_path" = some (some (.ref f_law_path))) (b_law_path : FnIn K "_law_path" "_law_path" s_law_path f_law_path)
    (a_law_web : PySem.W.nsIn K mainGlobals "_law_web" = some (some (.ref f_law_web))) (b_law_web : FnIn K "_law_web" "_law_web" s_law_web f_law_web)
    (a_law_low : PySem.W.nsIn K mainGlobals "_law_low" = some (some (.ref f_law_low))) (b_law_low : FnIn K "_law_low" "_law_low" s_law_low f_law_low)
    (a_law_high : PySem.W.nsIn K mainGlobals "_law_high" = some (some (.ref f_law_high))) (b_law_high : FnIn K "_law_high" "_law_high" s_law_high f_law_high)
    (a_law_made : PySem.W.nsIn K mainGlobals "_law_made" = some (some (.ref f_law_made))) (b_law_made : FnIn K "_law_made" "_law_made" s_law_made f_law_made)
    (a_law_bank_cost : PySem.W.nsIn K mainGlobals "_law_bank_cost" = some (some (.ref f_law_bank_cost))) (b_law_bank_cost : FnIn K "_law_bank_cost" "_law_bank_cost" s_law_bank_cost f_law_bank_cost)
    (a_law_bank_rows : PySem.W.nsIn K mainGlobals "_law_bank_rows" = some (some (.ref f_law_bank_rows))) (b_law_bank_rows : FnIn K "_law_bank_rows" "_law_bank_rows" s_law_bank_rows f_law_bank_rows)
    (a_law_bare : PySem.W.nsIn K mainGlobals "_law_bare" = some (some (.ref f_law_bare))) (b_law_bare : FnIn K "_law_bare" "_law_bare" s_law_bare f_law_bare)
    (a_law_kept : PySem.W.nsIn K mainGlobals "_law_kept" = some (some (.ref f_law_kept))) (b_law_kept : FnIn K "_law_kept" "_law_kept" s_law_kept f_law_kept)
    (a_Web : PySem.W.nsIn K mainGlobals "Web" = some (some (.ref C_Web)))
    (i_Web : PySem.W.findIn K (.ref C_Web) "__init__" = some (some (.ref f_Web_init))) (j_Web : PySem.W.isFn K (.ref f_Web_init) = true) (b_Web_init : FnIn K "__init__" "Web.__init__" s_Web_init f_Web_init) (q_Web : PySem.W.makesIn K C_Web = true) (k_Web : PySem.W.keepIn K (.ref C_Web) = true) (g_Web : ClsF K C_Web)
    (t_Web_dues : PropOf K C_Web "dues" p_Web_dues f_Web_dues) (b_Web_dues : FnIn K "dues" "Web.dues" s_Web_dues f_Web_dues)
    (t_Web_first : PropOf K C_Web "first" p_Web_first f_Web_first) (b_Web_first : FnIn K "first" "Web.first" s_Web_first f_Web_first)
    (t_Web_greatest_due : PropOf K C_Web "greatest_due" p_Web_greatest_due f_Web_greatest_due) (b_Web_greatest_due : FnIn K "greatest_due" "Web.greatest_due" s_Web_greatest_due f_Web_greatest_due)
    (t_Web_marks : PropOf K C_Web "marks" p_Web_marks f_Web_marks) (b_Web_marks : FnIn K "marks" "Web.marks" s_Web_marks f_Web_marks)
    (t_Web_second : PropOf K C_Web "second" p_Web_second f_Web_second) (b_Web_second : FnIn K "second" "Web.second" s_Web_second f_Web_second)
    (t_Web_size : PropOf K C_Web "size" p_Web_size f_Web_size) (b_Web_size : FnIn K "size" "Web.size" s_Web_size f_Web_size)
    (n_Web__dues : PySem.W.findIn K (.ref C_Web) "_dues" = some none)
    (n_Web__ends : PySem.W.findIn K (.ref C_Web) "_ends" = some none)
    (n_Web__even : PySem.W.findIn K (.ref C_Web) "_even" = some none)
    (n_Web__first : PySem.W.findIn K (.ref C_Web) "_first" = some none)
    (n_Web__greatest_due : PySem.W.findIn K (.ref C_Web) "_greatest_due" = some none)
    (n_Web__marks : PySem.W.findIn K (.ref C_Web) "_marks" = some none)
    (n_Web__moving : PySem.W.findIn K (.ref C_Web) "_moving" = some none)
    (n_Web__second : PySem.W.findIn K (.ref C_Web) "_second" = some none)
    (n_Web__size : PySem.W.findIn K (.ref C_Web) "_size" = some none)
    (v_GREATEST : ∃ t, PySem.W.nsIn K mainGlobals "GREATEST" = some (some (.int 10000000000000000000000000000000000000000 t)))
    (v_MOST_STANDS : ∃ t, PySem.W.nsIn K mainGlobals "MOST_STANDS" = some (some (.int 60 t)))
    (v_MOST_CHIPS : ∃ t, PySem.W.nsIn K mainGlobals "MOST_CHIPS" = some (some (.int 60 t)))
    (v_MOST_DUE : ∃ t, PySem.W.nsIn K mainGlobals "MOST_DUE" = some (some (.int 1000000 t)))
    (z_bool : PySem.W.nsIn K mainGlobals "bool" = some none)
    (z_enumerate : PySem.W.nsIn K mainGlobals "enumerate" = some none)
    (z_int : PySem.W.nsIn K mainGlobals "int" = some none)
    (z_isinstance : PySem.W.nsIn K mainGlobals "isinstance" = some none)
    (z_len : PySem.W.nsIn K mainGlobals "len" = some none)
    (z_list : PySem.W.nsIn K mainGlobals "list" = some none)
    (z_max : PySem.W.nsIn K mainGlobals "max" = some none)
    (z_min : PySem.W.nsIn K mainGlobals "min" = some none)
    (z_range : PySem.W.nsIn K mainGlobals "range" = some none)
    (z_set : PySem.W.nsIn K mainGlobals "set" = some none)
    (z_sorted : PySem.W.nsIn K mainGlobals "sorted" = some none)
    (z_str : PySem.W.nsIn K mainGlobals "str" = some none)
    (z_tuple : PySem.W.nsIn K mainGlobals "tuple" = some none)
    (eA0 : PySem.W.nsIn K mainGlobals "WrongKind" = some (some (.ref e0))) (eX0 : PySem.W.excIn K e0 [.type "Exception", .type "BaseException", .type "object"] "Exception.__new__" = true) (eK0 : PySem.W.keepIn K (.ref e0) = true) (eB0 : PySem.W.subIn K (.ref e0) (.type "BaseException") = some true) (eT0 : PySem.W.typeIn K (.ref e0) = some (.type "type"))
    (eA1 : PySem.W.nsIn K mainGlobals "WrongNumber" = some (some (.ref e1))) (eX1 : PySem.W.excIn K e1 [.type "Exception", .type "BaseException", .type "object"] "Exception.__new__" = true) (eK1 : PySem.W.keepIn K (.ref e1) = true) (eB1 : PySem.W.subIn K (.ref e1) (.type "BaseException") = some true) (eT1 : PySem.W.typeIn K (.ref e1) = some (.type "type"))
    (eA2 : PySem.W.nsIn K mainGlobals "WrongWeb" = some (some (.ref e2))) (eX2 : PySem.W.excIn K e2 [.type "Exception", .type "BaseException", .type "object"] "Exception.__new__" = true) (eK2 : PySem.W.keepIn K (.ref e2) = true) (eB2 : PySem.W.subIn K (.ref e2) (.type "BaseException") = some true) (eT2 : PySem.W.typeIn K (.ref e2) = some (.type "type"))
    (eA3 : PySem.W.nsIn K mainGlobals "TooMuch" = some (some (.ref e3))) (eX3 : PySem.W.excIn K e3 [.type "Exception", .type "BaseException", .type "object"] "Exception.__new__" = true) (eK3 : PySem.W.keepIn K (.ref e3) = true) (eB3 : PySem.W.subIn K (.ref e3) (.type "BaseException") = some true) (eT3 : PySem.W.typeIn K (.ref e3) = some (.type "type"))
    (ap00 : PySem.W.exmOne K (.ref e0) (.ref e0) = some true)
    (ap01 : PySem.W.exmOne K (.ref e0) (.ref e1) = some false)
    (ap02 : PySem.W.exmOne K (.ref e0) (.ref e2) = some false)
    (ap03 : PySem.W.exmOne K (.ref e0) (.ref e3) = some false)
    (ap10 : PySem.W.exmOne K (.ref e1) (.ref e0) = some false)
    (ap11 : PySem.W.exmOne K (.ref e1) (.ref e1) = some true)
    (ap12 : PySem.W.exmOne K (.ref e1) (.ref e2) = some false)
    (ap13 : PySem.W.exmOne K (.ref e1) (.ref e3) = some false)
    (ap20 : PySem.W.exmOne K (.ref e2) (.ref e0) = some false)
    (ap21 : PySem.W.exmOne K (.ref e2) (.ref e1) = some false)
    (ap22 : PySem.W.exmOne K (.ref e2) (.ref e2) = some true)
    (ap23 : PySem.W.exmOne K (.ref e2) (.ref e3) = some false)
    (ap30 : PySem.W.exmOne K (.ref e3) (.ref e0) = some false)
    (ap31 : PySem.W.exmOne K (.ref e3) (.ref e1) = some false)
    (ap32 : PySem.W.exmOne K (.ref e3) (.ref e2) = some false)
    (ap33 : PySem.W.exmOne K (.ref e3) (.ref e3) = some true)
    (a_law_pot : PySem.W.nsIn K mainGlobals "_law_pot" = some (some (.ref f_law_pot)))
    (a_law : PySem.W.nsIn K mainGlobals "law" = some (some (.ref f_law)))
    (b_law_pot : FnIn K "_law_pot" "_law_pot" s_law_pot f_law_pot)
    {oc : Value} {od an : Option Addr} {osl : Array (Option Value)} {kV doc pm cdv ct : Value} (l_law : K.lookup f_law = some ⟨oc, od, .func (PySem.W.fnOf "law" "law" (defArgs s_law) (defBody s_law) (defScope s_law) .none kV doc pm an cdv ct), osl⟩) (c_law : PySem.W.codeIn K cdv "law" = true) (k_law : PySem.W.keepIn K (.ref f_law) = true) :
    ∃ fd : FuncData, (∀ (s : Shared) (v : Value), BindsTo s fd ⟨[v], []⟩ [("_law_script", v)]) ∧ ∀ base : Heap, K.In base → base.Ns mainGlobals mg → FnOk l.prog w K mg base (L2.CX l.prog w) 9 fa fd ["_law_script"] (spLaw K) := by
  have e := hfa.symm.trans (PySem.W.mg_of X G a_law)
  cases e
  obtain ⟨fd_is_integer, F_is_integer⟩ := b_is_integer
  obtain ⟨fd_check_whole, F_check_whole⟩ := b_check_whole
  obtain ⟨fd_whole_list, F_whole_list⟩ := b_whole_list
  obtain ⟨fd_check_range, F_check_range⟩ := b_check_range
  obtain ⟨fd_check_least, F_check_least⟩ := b_check_least
  obtain ⟨fd_check_most, F_check_most⟩ := b_check_most
  obtain ⟨fd_as_stands, F_as_stands⟩ := b_as_stands
  obtain ⟨fd_is_due, F_is_due⟩ := b_is_due
  obtain ⟨fd_due_in_range, F_due_in_range⟩ := b_due_in_range
  obtain ⟨fd_due_too_great, F_due_too_great⟩ := b_due_too_great
  obtain ⟨fd_check_due, F_check_due⟩ := b_check_due
  obtain ⟨fd_check_kinds, F_check_kinds⟩ := b_check_kinds
  obtain ⟨fd_check_steps, F_check_steps⟩ := b_check_steps
  obtain ⟨fd_check_parts, F_check_parts⟩ := b_check_parts
  obtain ⟨fd_check_web, F_check_web⟩ := b_check_web
  obtain ⟨fd_stays_off, F_stays_off⟩ := b_stays_off
  obtain ⟨fd_kept_off, F_kept_off⟩ := b_kept_off
  obtain ⟨fd_bank_due_of, F_bank_due_of⟩ := b_bank_due_of
  obtain ⟨fd_least_of, F_least_of⟩ := b_least_of
  obtain ⟨fd_greatest_of, F_greatest_of⟩ := b_greatest_of
  obtain ⟨fd_bank_high, F_bank_high⟩ := b_bank_high
  obtain ⟨fd_bank_price_of, F_bank_price_of⟩ := b_bank_price_of
  obtain ⟨fd_next_bank_row, F_next_bank_row⟩ := b_next_bank_row
  obtain ⟨fd_with_highs, F_with_highs⟩ := b_with_highs
  obtain ⟨fd_rounds_by_highs, F_rounds_by_highs⟩ := b_rounds_by_highs
  obtain ⟨fd_bank_rows, F_bank_rows⟩ := b_bank_rows
  obtain ⟨fd_law_draw, F_law_draw⟩ := b_law_draw
  obtain ⟨fd_law_whole, F_law_whole⟩ := b_law_whole
  obtain ⟨fd_law_lot, F_law_lot⟩ := b_law_lot
  obtain ⟨fd_law_due, F_law_due⟩ := b_law_due
  obtain ⟨fd_law_marks, F_law_marks⟩ := b_law_marks
  obtain ⟨fd_law_path, F_law_path⟩ := b_law_path
  obtain ⟨fd_law_web, F_law_web⟩ := b_law_web
  obtain ⟨fd_law_low, F_law_low⟩ := b_law_low
  obtain ⟨fd_law_high, F_law_high⟩ := b_law_high
  obtain ⟨fd_law_made, F_law_made⟩ := b_law_made
  obtain ⟨fd_law_bank_cost, F_law_bank_cost⟩ := b_law_bank_cost
  obtain ⟨fd_law_bank_rows, F_law_bank_rows⟩ := b_law_bank_rows
  obtain ⟨fd_law_bare, F_law_bare⟩ := b_law_bare
  obtain ⟨fd_law_kept, F_law_kept⟩ := b_law_kept
  obtain ⟨fd_Web_init, F_Web_init⟩ := b_Web_init
  obtain ⟨fd_Web_dues, F_Web_dues⟩ := b_Web_dues
  obtain ⟨fd_Web_first, F_Web_first⟩ := b_Web_first
  obtain ⟨fd_Web_greatest_due, F_Web_greatest_due⟩ := b_Web_greatest_due
  obtain ⟨fd_Web_marks, F_Web_marks⟩ := b_Web_marks
  obtain ⟨fd_Web_second, F_Web_second⟩ := b_Web_second
  obtain ⟨fd_Web_size, F_Web_size⟩ := b_Web_size
  obtain ⟨fd_law_pot, F_law_pot⟩ := b_law_pot
  have F_law := fun_mk (st := s_law) l_law c_law k_law
  let ec : Nat → Addr := fun n => match n with
    | 0 => e0
    | 1 => e1
    | 2 => e2
    | 3 => e3
    | _ => e0
  have apart : ∀ p, Apart (potCfg K p ec) := fun p => fun n m hn hm => match n, m, hn, hm with
    | 0, 0, _, _ => ap00
    | 0, 1, _, _ => ap01
    | 0, 2, _, _ => ap02
    | 0, 3, _, _ => ap03
    | 1, 0, _, _ => ap10
    | 1, 1, _, _ => ap11
    | 1, 2, _, _ => ap12
    | 1, 3, _, _ => ap13
    | 2, 0, _, _ => ap20
    | 2, 1, _, _ => ap21
    | 2, 2, _, _ => ap22
    | 2, 3, _, _ => ap23
    | 3, 0, _, _ => ap30
    | 3, 1, _, _ => ap31
    | 3, 2, _, _ => ap32
    | 3, 3, _, _ => ap33
    | n + 4, _, h, _ => absurd h (by omega)
    | 0, m + 4, _, h => absurd h (by omega)
    | 1, m + 4, _, h => absurd h (by omega)
    | 2, m + 4, _, h => absurd h (by omega)
    | 3, m + 4, _, h => absurd h (by omega)
  let A : Adr := { is_integer := f_is_integer, fd_is_integer := fd_is_integer, check_whole := f_check_whole, fd_check_whole := fd_check_whole, whole_list := f_whole_list, fd_whole_list := fd_whole_list, check_range := f_check_range, fd_check_range := fd_check_range, check_least := f_check_least, fd_check_least := fd_check_least, check_most := f_check_most, fd_check_most := fd_check_most, as_stands := f_as_stands, fd_as_stands := fd_as_stands, is_due := f_is_due, fd_is_due := fd_is_due, due_in_range := f_due_in_range, fd_due_in_range := fd_due_in_range, due_too_great := f_due_too_great, fd_due_too_great := fd_due_too_great, check_due := f_check_due, fd_check_due := fd_check_due, check_kinds := f_check_kinds, fd_check_kinds := fd_check_kinds, check_steps := f_check_steps, fd_check_steps := fd_check_steps, check_parts := f_check_parts, fd_check_parts := fd_check_parts, check_web := f_check_web, fd_check_web := fd_check_web, stays_off := f_stays_off, fd_stays_off := fd_stays_off, kept_off := f_kept_off, fd_kept_off := fd_kept_off, bank_due_of := f_bank_due_of, fd_bank_due_of := fd_bank_due_of, least_of := f_least_of, fd_least_of := fd_least_of, greatest_of := f_greatest_of, fd_greatest_of := fd_greatest_of, bank_high := f_bank_high, fd_bank_high := fd_bank_high, bank_price_of := f_bank_price_of, fd_bank_price_of := fd_bank_price_of, next_bank_row := f_next_bank_row, fd_next_bank_row := fd_next_bank_row, with_highs := f_with_highs, fd_with_highs := fd_with_highs, rounds_by_highs := f_rounds_by_highs, fd_rounds_by_highs := fd_rounds_by_highs, bank_rows := f_bank_rows, fd_bank_rows := fd_bank_rows, law_draw := f_law_draw, fd_law_draw := fd_law_draw, law_whole := f_law_whole, fd_law_whole := fd_law_whole, law_lot := f_law_lot, fd_law_lot := fd_law_lot, law_due := f_law_due, fd_law_due := fd_law_due, law_marks := f_law_marks, fd_law_marks := fd_law_marks, law_path := f_law_path, fd_law_path := fd_law_path, law_web := f_law_web, fd_law_web := fd_law_web, law_low := f_law_low, fd_law_low := fd_law_low, law_high := f_law_high, fd_law_high := fd_law_high, law_made := f_law_made, fd_law_made := fd_law_made, law_bank_cost := f_law_bank_cost, fd_law_bank_cost := fd_law_bank_cost, law_bank_rows := f_law_bank_rows, fd_law_bank_rows := fd_law_bank_rows, law_bare := f_law_bare, fd_law_bare := fd_law_bare, law_kept := f_law_kept, fd_law_kept := fd_law_kept, Web_init := f_Web_init, fd_Web_init := fd_Web_init, Web_dues := f_Web_dues, fd_Web_dues := fd_Web_dues, pr_Web_dues := p_Web_dues, Web_first := f_Web_first, fd_Web_first := fd_Web_first, pr_Web_first := p_Web_first, Web_greatest_due := f_Web_greatest_due, fd_Web_greatest_due := fd_Web_greatest_due, pr_Web_greatest_due := p_Web_greatest_due, Web_marks := f_Web_marks, fd_Web_marks := fd_Web_marks, pr_Web_marks := p_Web_marks, Web_second := f_Web_second, fd_Web_second := fd_Web_second, pr_Web_second := p_Web_second, Web_size := f_Web_size, fd_Web_size := fd_Web_size, pr_Web_size := p_Web_size, ca := { Web := C_Web, Heights := 0, Verdict := 0, Paper := 0, Plan := 0, FirstPlan := 0, SecondPlan := 0, Play := 0, Share := 0, Table := 0, TokenPlan := 0 } }
  have T : ∀ p, Txt (potCfg K p ec) mg A := fun p => { pl := potCfg_pot K p ec, F_is_integer := F_is_integer, m_is_integer := PySem.W.mg_of X G a_is_integer, F_check_whole := F_check_whole, m_check_whole := PySem.W.mg_of X G a_check_whole, F_whole_list := F_whole_list, m_whole_list := PySem.W.mg_of X G a_whole_list, F_check_range := F_check_range, m_check_range := PySem.W.mg_of X G a_check_range, F_check_least := F_check_least, m_check_least := PySem.W.mg_of X G a_check_least, F_check_most := F_check_most, m_check_most := PySem.W.mg_of X G a_check_most, F_as_stands := F_as_stands, m_as_stands := PySem.W.mg_of X G a_as_stands, F_is_due := F_is_due, m_is_due := PySem.W.mg_of X G a_is_due, F_due_in_range := F_due_in_range, m_due_in_range := PySem.W.mg_of X G a_due_in_range, F_due_too_great := F_due_too_great, m_due_too_great := PySem.W.mg_of X G a_due_too_great, F_check_due := F_check_due, m_check_due := PySem.W.mg_of X G a_check_due, F_check_kinds := F_check_kinds, m_check_kinds := PySem.W.mg_of X G a_check_kinds, F_check_steps := F_check_steps, m_check_steps := PySem.W.mg_of X G a_check_steps, F_check_parts := F_check_parts, m_check_parts := PySem.W.mg_of X G a_check_parts, F_check_web := F_check_web, m_check_web := PySem.W.mg_of X G a_check_web, F_stays_off := F_stays_off, m_stays_off := PySem.W.mg_of X G a_stays_off, F_kept_off := F_kept_off, m_kept_off := PySem.W.mg_of X G a_kept_off, F_bank_due_of := F_bank_due_of, m_bank_due_of := PySem.W.mg_of X G a_bank_due_of, F_least_of := F_least_of, m_least_of := PySem.W.mg_of X G a_least_of, F_greatest_of := F_greatest_of, m_greatest_of := PySem.W.mg_of X G a_greatest_of, F_bank_high := F_bank_high, m_bank_high := PySem.W.mg_of X G a_bank_high, F_bank_price_of := F_bank_price_of, m_bank_price_of := PySem.W.mg_of X G a_bank_price_of, F_next_bank_row := F_next_bank_row, m_next_bank_row := PySem.W.mg_of X G a_next_bank_row, F_with_highs := F_with_highs, m_with_highs := PySem.W.mg_of X G a_with_highs, F_rounds_by_highs := F_rounds_by_highs, m_rounds_by_highs := PySem.W.mg_of X G a_rounds_by_highs, F_bank_rows := F_bank_rows, m_bank_rows := PySem.W.mg_of X G a_bank_rows, F_law_draw := F_law_draw, m_law_draw := PySem.W.mg_of X G a_law_draw, F_law_whole := F_law_whole, m_law_whole := PySem.W.mg_of X G a_law_whole, F_law_lot := F_law_lot, m_law_lot := PySem.W.mg_of X G a_law_lot, F_law_due := F_law_due, m_law_due := PySem.W.mg_of X G a_law_due, F_law_marks := F_law_marks, m_law_marks := PySem.W.mg_of X G a_law_marks, F_law_path := F_law_path, m_law_path := PySem.W.mg_of X G a_law_path, F_law_web := F_law_web, m_law_web := PySem.W.mg_of X G a_law_web, F_law_low := F_law_low, m_law_low := PySem.W.mg_of X G a_law_low, F_law_high := F_law_high, m_law_high := PySem.W.mg_of X G a_law_high, F_law_made := F_law_made, m_law_made := PySem.W.mg_of X G a_law_made, F_law_bank_cost := F_law_bank_cost, m_law_bank_cost := PySem.W.mg_of X G a_law_bank_cost, F_law_bank_rows := F_law_bank_rows, m_law_bank_rows := PySem.W.mg_of X G a_law_bank_rows, F_law_bare := F_law_bare, m_law_bare := PySem.W.mg_of X G a_law_bare, F_law_kept := F_law_kept, m_law_kept := PySem.W.mg_of X G a_law_kept, F_Web_init := F_Web_init, m_Web := PySem.W.mg_of X G a_Web, f_Web := g_Web, mk_Web := ⟨q_Web, i_Web, j_Web, k_Web⟩, F_Web_dues := F_Web_dues, p_Web_dues := t_Web_dues, F_Web_first := F_Web_first, p_Web_first := t_Web_first, F_Web_greatest_due := F_Web_greatest_due, p_Web_greatest_due := t_Web_greatest_due, F_Web_marks := F_Web_marks, p_Web_marks := t_Web_marks, F_Web_second := F_Web_second, p_Web_second := t_Web_second, F_Web_size := F_Web_size, p_Web_size := t_Web_size, a_Web__dues := n_Web__dues, a_Web__ends := n_Web__ends, a_Web__even := n_Web__even, a_Web__first := n_Web__first, a_Web__greatest_due := n_Web__greatest_due, a_Web__marks := n_Web__marks, a_Web__moving := n_Web__moving, a_Web__second := n_Web__second, a_Web__size := n_Web__size, c_GREATEST := v_GREATEST.imp fun t e => PySem.W.mg_of X G e, c_MOST_STANDS := v_MOST_STANDS.imp fun t e => PySem.W.mg_of X G e, c_MOST_CHIPS := v_MOST_CHIPS.imp fun t e => PySem.W.mg_of X G e, c_MOST_DUE := v_MOST_DUE.imp fun t e => PySem.W.mg_of X G e, n_bool := PySem.W.mg_none_of X G z_bool, n_enumerate := PySem.W.mg_none_of X G z_enumerate, n_int := PySem.W.mg_none_of X G z_int, n_isinstance := PySem.W.mg_none_of X G z_isinstance, n_len := PySem.W.mg_none_of X G z_len, n_list := PySem.W.mg_none_of X G z_list, n_max := PySem.W.mg_none_of X G z_max, n_min := PySem.W.mg_none_of X G z_min, n_range := PySem.W.mg_none_of X G z_range, n_set := PySem.W.mg_none_of X G z_set, n_sorted := PySem.W.mg_none_of X G z_sorted, n_str := PySem.W.mg_none_of X G z_str, n_tuple := PySem.W.mg_none_of X G z_tuple, mE0 := PySem.W.mg_of X G eA0, xE0 := eX0, kE0 := eK0, bE0 := eB0, tE0 := eT0, mE1 := PySem.W.mg_of X G eA1, xE1 := eX1, kE1 := eK1, bE1 := eB1, tE1 := eT1, mE2 := PySem.W.mg_of X G eA2, xE2 := eX2, kE2 := eK2, bE2 := eB2, tE2 := eT2, mE3 := PySem.W.mg_of X G eA3, xE3 := eX3, kE3 := eK3, bE3 := eB3, tE3 := eT3, apart := apart p }
  exact ⟨PySem.W.fnOf "law" "law" (defArgs s_law) (defBody s_law) (defScope s_law) .none kV doc pm an cdv ct, fun s v => .of_eq rfl, fun base _ _ => ok_law (A := A) (ec := ec) T F_law F_law_pot (PySem.W.mg_of X G a_law_pot)⟩
theorem walk {l : PySem.W.OpenLaw} {q : Program} {loose : List Str} {XP : (Str → Option Value) → Heap → Prop} {YP : World → Heap → Prop} {d : DefRec} {K : Params → PySem.W.Frag} (hn : l.most = some 63) (hdf : d.params.defaults = [])
    (hY : ∀ (w : World) (h : Heap), YP w h → (K w.params).In h)
    (F : ∀ (w : World) (mg : Str → Option Value) (fa : Addr) (h : Heap), (K w.params).In h → h.Ns mainGlobals mg → mg d.name = some (.ref fa) →
      ∃ fd : FuncData, (∀ (s : Shared) (u : Value), BindsTo s fd ⟨[u], []⟩ [("_law_script", u)]) ∧ ∀ base : Heap, (K w.params).In base → base.Ns mainGlobals mg → FnOk l.prog w (K w.params) mg base (L2.CX l.prog w) 9 fa fd ["_law_script"] (spLaw (K w.params))) :
    PySem.W.WalkO q loose XP YP l.row.toRowW d [] (fun f vs => PySem.call f vs) :=
  L2.walk_of (n := 63) (k := 9) (x := "_law_script") (CX := fun w => L2.CX l.prog w) (sp := fun w => spLaw (K w.params)) hn (by decide) hdf ⟨rfl, by decide, by decide⟩ hY F (fun _ _ a ns hl _ hS => ⟨a, ns, rfl, hS, hl, fun _ => rfl⟩) fun w H s e s' z => by
    obtain ⟨_, _, _, _, _, _, _, _, _, _, _, _, h⟩ := z
    exact h
end
end K63
open PySem PySem.W PyProof.Rows
set_option maxRecDepth 100000 in
set_option maxHeartbeats 0 in
theorem PySem.Challenge.cw_pursewebs_k63_where_the_bank_has_no_numb_holds : PySem.Challenge.rw_pursewebs_k63_where_the_bank_has_no_numb.Holds := by
  w_on; o_law; k_head; (case hw => w_witness2)
  k_fill
  refine K63.walk (l := PySem.Challenge.rw_pursewebs_k63_where_the_bank_has_no_numb) rfl rfl (fun w h Y => PySem.W.kIn_of Y) ?F
  case F =>
    intro w mg fa h KX G hmg
    refine' K63.all_mk KX G hmg ?a_is_integer ?b_is_integer ?a_check_whole ?b_check_whole ?a_whole_list ?b_whole_list ?a_check_range ?b_check_range ?a_check_least ?b_check_least ?a_check_most ?b_check_most ?a_as_stands ?b_as_stands ?a_is_due ?b_is_due ?a_due_in_range ?b_due_in_range ?a_due_too_great ?b_due_too_great ?a_check_due ?b_check_due ?a_check_kinds ?b_check_kinds ?a_check_steps ?b_check_steps ?a_check_parts ?b_check_parts ?a_check_web ?b_check_web ?a_stays_off ?b_stays_off ?a_kept_off ?b_kept_off ?a_bank_due_of ?b_bank_due_of ?a_least_of ?b_least_of ?a_greatest_of ?b_greatest_of ?a_bank_high ?b_bank_high ?a_bank_price_of ?b_bank_price_of ?a_next_bank_row ?b_next_bank_row ?a_with_highs ?b_with_highs ?a_rounds_by_highs ?b_rounds_by_highs ?a_bank_rows ?b_bank_rows ?a_law_draw ?b_law_draw ?a_law_whole ?b_law_whole ?a_law_lot ?b_law_lot ?a_law_due ?b_law_due ?a_law_marks ?b_law_marks ?a_law_path ?b_law_path ?a_law_web ?b_law_web ?a_law_low ?b_law_low ?a_law_high ?b_law_high ?a_law_made ?b_law_made ?a_law_bank_cost ?b_law_bank_cost ?a_law_bank_rows ?b_law_bank_rows ?a_law_bare ?b_law_bare ?a_law_kept ?b_law_kept ?a_Web ?i_Web ?j_Web ?b_Web_init ?q_Web ?k_Web ?g_Web ?t_Web_dues ?b_Web_dues ?t_Web_first ?b_Web_first ?t_Web_greatest_due ?b_Web_greatest_due ?t_Web_marks ?b_Web_marks ?t_Web_second ?b_Web_second ?t_Web_size ?b_Web_size ?n_Web__dues ?n_Web__ends ?n_Web__even ?n_Web__first ?n_Web__greatest_due ?n_Web__marks ?n_Web__moving ?n_Web__second ?n_Web__size ?v_GREATEST ?v_MOST_STANDS ?v_MOST_CHIPS ?v_MOST_DUE ?z_bool ?z_enumerate ?z_int ?z_isinstance ?z_len ?z_list ?z_max ?z_min ?z_range ?z_set ?z_sorted ?z_str ?z_tuple ?eA0 ?eX0 ?eK0 ?eB0 ?eT0 ?eA1 ?eX1 ?eK1 ?eB1 ?eT1 ?eA2 ?eX2 ?eK2 ?eB2 ?eT2 ?eA3 ?eX3 ?eK3 ?eB3 ?eT3 ?ap00 ?ap01 ?ap02 ?ap03 ?ap10 ?ap11 ?ap12 ?ap13 ?ap20 ?ap21 ?ap22 ?ap23 ?ap30 ?ap31 ?ap32 ?ap33 ?a_law_pot ?a_law ?b_law_pot ?l_law ?c_law ?k_law
    (case a_is_integer => k_is)
    (case b_is_integer => (refine' FX.fnIn_mk ?l ?c ?k; (case l => k_is); (case c => k_is); (case k => k_is)))
    (case a_check_whole => k_is)
    (case b_check_whole => (refine' FX.fnIn_mk ?l ?c ?k; (case l => k_is); (case c => k_is); (case k => k_is)))
    (case a_whole_list => k_is)
    (case b_whole_list => (refine' FX.fnIn_mk ?l ?c ?k; (case l => k_is); (case c => k_is); (case k => k_is)))
    (case a_check_range => k_is)
    (case b_check_range => (refine' FX.fnIn_mk ?l ?c ?k; (case l => k_is); (case c => k_is); (case k => k_is)))
    (case a_check_least => k_is)
    (case b_check_least => (refine' FX.fnIn_mk ?l ?c ?k; (case l => k_is); (case c => k_is); (case k => k_is)))
    (case a_check_most => k_is)
    (case b_check_most => (refine' FX.fnIn_mk ?l ?c ?k; (case l => k_is); (case c => k_is); (case k => k_is)))
    (case a_as_stands => k_is)
    (case b_as_stands => (refine' FX.fnIn_mk ?l ?c ?k; (case l => k_is); (case c => k_is); (case k => k_is)))
    (case a_is_due => k_is)
    (case b_is_due => (refine' FX.fnIn_mk ?l ?c ?k; (case l => k_is); (case c => k_is); (case k => k_is)))
    (case a_due_in_range => k_is)
    (case b_due_in_range => (refine' FX.fnIn_mk ?l ?c ?k; (case l => k_is); (case c => k_is); (case k => k_is)))
    (case a_due_too_great => k_is)
    (case b_due_too_great => (refine' FX.fnIn_mk ?l ?c ?k; (case l => k_is); (case c => k_is); (case k => k_is)))
    (case a_check_due => k_is)
    (case b_check_due => (refine' FX.fnIn_mk ?l ?c ?k; (case l => k_is); (case c => k_is); (case k => k_is)))
    (case a_check_kinds => k_is)
    (case b_check_kinds => (refine' FX.fnIn_mk ?l ?c ?k; (case l => k_is); (case c => k_is); (case k => k_is)))
    (case a_check_steps => k_is)
    (case b_check_steps => (refine' FX.fnIn_mk ?l ?c ?k; (case l => k_is); (case c => k_is); (case k => k_is)))
    (case a_check_parts => k_is)
    (case b_check_parts => (refine' FX.fnIn_mk ?l ?c ?k; (case l => k_is); (case c => k_is); (case k => k_is)))
    (case a_check_web => k_is)
    (case b_check_web => (refine' FX.fnIn_mk ?l ?c ?k; (case l => k_is); (case c => k_is); (case k => k_is)))
    (case a_stays_off => k_is)
    (case b_stays_off => (refine' FX.fnIn_mk ?l ?c ?k; (case l => k_is); (case c => k_is); (case k => k_is)))
    (case a_kept_off => k_is)
    (case b_kept_off => (refine' FX.fnIn_mk ?l ?c ?k; (case l => k_is); (case c => k_is); (case k => k_is)))
    (case a_bank_due_of => k_is)
    (case b_bank_due_of => (refine' FX.fnIn_mk ?l ?c ?k; (case l => k_is); (case c => k_is); (case k => k_is)))
    (case a_least_of => k_is)
    (case b_least_of => (refine' FX.fnIn_mk ?l ?c ?k; (case l => k_is); (case c => k_is); (case k => k_is)))
    (case a_greatest_of => k_is)
    (case b_greatest_of => (refine' FX.fnIn_mk ?l ?c ?k; (case l => k_is); (case c => k_is); (case k => k_is)))
    (case a_bank_high => k_is)
    (case b_bank_high => (refine' FX.fnIn_mk ?l ?c ?k; (case l => k_is); (case c => k_is); (case k => k_is)))
    (case a_bank_price_of => k_is)
    (case b_bank_price_of => (refine' FX.fnIn_mk ?l ?c ?k; (case l => k_is); (case c => k_is); (case k => k_is)))
    (case a_next_bank_row => k_is)
    (case b_next_bank_row => (refine' FX.fnIn_mk ?l ?c ?k; (case l => k_is); (case c => k_is); (case k => k_is)))
    (case a_with_highs => k_is)
    (case b_with_highs => (refine' FX.fnIn_mk ?l ?c ?k; (case l => k_is); (case c => k_is); (case k => k_is)))
    (case a_rounds_by_highs => k_is)
    (case b_rounds_by_highs => (refine' FX.fnIn_mk ?l ?c ?k; (case l => k_is); (case c => k_is); (case k => k_is)))
    (case a_bank_rows => k_is)
    (case b_bank_rows => (refine' FX.fnIn_mk ?l ?c ?k; (case l => k_is); (case c => k_is); (case k => k_is)))
    (case a_law_draw => k_is)
    (case b_law_draw => (refine' FX.fnIn_mk ?l ?c ?k; (case l => k_is); (case c => k_is); (case k => k_is)))
    (case a_law_whole => k_is)
    (case b_law_whole => (refine' FX.fnIn_mk ?l ?c ?k; (case l => k_is); (case c => k_is); (case k => k_is)))
    (case a_law_lot => k_is)
    (case b_law_lot => (refine' FX.fnIn_mk ?l ?c ?k; (case l => k_is); (case c => k_is); (case k => k_is)))
    (case a_law_due => k_is)
    (case b_law_due => (refine' FX.fnIn_mk ?l ?c ?k; (case l => k_is); (case c => k_is); (case k => k_is)))
    (case a_law_marks => k_is)
    (case b_law_marks => (refine' FX.fnIn_mk ?l ?c ?k; (case l => k_is); (case c => k_is); (case k => k_is)))
    (case a_law_path => k_is)
    (case b_law_path => (refine' FX.fnIn_mk ?l ?c ?k; (case l => k_is); (case c => k_is); (case k => k_is)))
    (case a_law_web => k_is)
    (case b_law_web => (refine' FX.fnIn_mk ?l ?c ?k; (case l => k_is); (case c => k_is); (case k => k_is)))
    (case a_law_low => k_is)
    (case b_law_low => (refine' FX.fnIn_mk ?l ?c ?k; (case l => k_is); (case c => k_is); (case k => k_is)))
    (case a_law_high => k_is)
    (case b_law_high => (refine' FX.fnIn_mk ?l ?c ?k; (case l => k_is); (case c => k_is); (case k => k_is)))
    (case a_law_made => k_is)
    (case b_law_made => (refine' FX.fnIn_mk ?l ?c ?k; (case l => k_is); (case c => k_is); (case k => k_is)))
    (case a_law_bank_cost => k_is)
    (case b_law_bank_cost => (refine' FX.fnIn_mk ?l ?c ?k; (case l => k_is); (case c => k_is); (case k => k_is)))
    (case a_law_bank_rows => k_is)
    (case b_law_bank_rows => (refine' FX.fnIn_mk ?l ?c ?k; (case l => k_is); (case c => k_is); (case k => k_is)))
    (case a_law_bare => k_is)
    (case b_law_bare => (refine' FX.fnIn_mk ?l ?c ?k; (case l => k_is); (case c => k_is); (case k => k_is)))
    (case a_law_kept => k_is)
    (case b_law_kept => (refine' FX.fnIn_mk ?l ?c ?k; (case l => k_is); (case c => k_is); (case k => k_is)))
    (case a_Web => k_is)
    (case i_Web => k_is)
    (case j_Web => k_is)
    (case b_Web_init => (refine' FX.fnIn_mk ?l ?c ?k; (case l => k_is); (case c => k_is); (case k => k_is)))
    (case q_Web => k_is)
    (case k_Web => k_is)
    (case g_Web => (refine' FX.clsF_at ⟨?x1, ?x2, ?x3, ?x4⟩ ?x5 ?x6 ?x7 ?x8; (case x1 => k_is); (case x2 => k_is); (case x3 => k_is); (case x4 => k_is); (case x5 => k_is); (case x6 => k_is); (case x7 => k_is); (case x8 => k_is)))
    (case t_Web_dues => (refine' FX.prop_at ?x1 ?x2 ?x3; (case x1 => k_is); (case x2 => k_is); (case x3 => rfl)))
    (case b_Web_dues => (refine' FX.fnIn_mk ?l ?c ?k; (case l => k_is); (case c => k_is); (case k => k_is)))
    (case t_Web_first => (refine' FX.prop_at ?x1 ?x2 ?x3; (case x1 => k_is); (case x2 => k_is); (case x3 => rfl)))
    (case b_Web_first => (refine' FX.fnIn_mk ?l ?c ?k; (case l => k_is); (case c => k_is); (case k => k_is)))
    (case t_Web_greatest_due => (refine' FX.prop_at ?x1 ?x2 ?x3; (case x1 => k_is); (case x2 => k_is); (case x3 => rfl)))
    (case b_Web_greatest_due => (refine' FX.fnIn_mk ?l ?c ?k; (case l => k_is); (case c => k_is); (case k => k_is)))
    (case t_Web_marks => (refine' FX.prop_at ?x1 ?x2 ?x3; (case x1 => k_is); (case x2 => k_is); (case x3 => rfl)))
    (case b_Web_marks => (refine' FX.fnIn_mk ?l ?c ?k; (case l => k_is); (case c => k_is); (case k => k_is)))
    (case t_Web_second => (refine' FX.prop_at ?x1 ?x2 ?x3; (case x1 => k_is); (case x2 => k_is); (case x3 => rfl)))
    (case b_Web_second => (refine' FX.fnIn_mk ?l ?c ?k; (case l => k_is); (case c => k_is); (case k => k_is)))
    (case t_Web_size => (refine' FX.prop_at ?x1 ?x2 ?x3; (case x1 => k_is); (case x2 => k_is); (case x3 => rfl)))
    (case b_Web_size => (refine' FX.fnIn_mk ?l ?c ?k; (case l => k_is); (case c => k_is); (case k => k_is)))
    (case n_Web__dues => k_is)
    (case n_Web__ends => k_is)
    (case n_Web__even => k_is)
    (case n_Web__first => k_is)
    (case n_Web__greatest_due => k_is)
    (case n_Web__marks => k_is)
    (case n_Web__moving => k_is)
    (case n_Web__second => k_is)
    (case n_Web__size => k_is)
    (case v_GREATEST => exact ⟨_, rfl⟩)
    (case v_MOST_STANDS => exact ⟨_, rfl⟩)
    (case v_MOST_CHIPS => exact ⟨_, rfl⟩)
    (case v_MOST_DUE => exact ⟨_, rfl⟩)
    (case z_bool => k_is)
    (case z_enumerate => k_is)
    (case z_int => k_is)
    (case z_isinstance => k_is)
    (case z_len => k_is)
    (case z_list => k_is)
    (case z_max => k_is)
    (case z_min => k_is)
    (case z_range => k_is)
    (case z_set => k_is)
    (case z_sorted => k_is)
    (case z_str => k_is)
    (case z_tuple => k_is)
    (case eA0 => k_is)
    (case eX0 => k_exc)
    (case eK0 => k_is)
    (case eB0 => k_is)
    (case eT0 => k_is)
    (case eA1 => k_is)
    (case eX1 => k_exc)
    (case eK1 => k_is)
    (case eB1 => k_is)
    (case eT1 => k_is)
    (case eA2 => k_is)
    (case eX2 => k_exc)
    (case eK2 => k_is)
    (case eB2 => k_is)
    (case eT2 => k_is)
    (case eA3 => k_is)
    (case eX3 => k_exc)
    (case eK3 => k_is)
    (case eB3 => k_is)
    (case eT3 => k_is)
    (case ap00 => (refine' FX.exm_at ?x1 ?x2 ?x3 ?x4; (case x1 => k_is); (case x2 => k_is); (case x3 => k_is); (case x4 => first | rfl | k_is)))
    (case ap01 => (refine' FX.exm_at ?x1 ?x2 ?x3 ?x4; (case x1 => k_is); (case x2 => k_is); (case x3 => k_is); (case x4 => first | rfl | k_is)))
    (case ap02 => (refine' FX.exm_at ?x1 ?x2 ?x3 ?x4; (case x1 => k_is); (case x2 => k_is); (case x3 => k_is); (case x4 => first | rfl | k_is)))
    (case ap03 => (refine' FX.exm_at ?x1 ?x2 ?x3 ?x4; (case x1 => k_is); (case x2 => k_is); (case x3 => k_is); (case x4 => first | rfl | k_is)))
    (case ap10 => (refine' FX.exm_at ?x1 ?x2 ?x3 ?x4; (case x1 => k_is); (case x2 => k_is); (case x3 => k_is); (case x4 => first | rfl | k_is)))
    (case ap11 => (refine' FX.exm_at ?x1 ?x2 ?x3 ?x4; (case x1 => k_is); (case x2 => k_is); (case x3 => k_is); (case x4 => first | rfl | k_is)))
    (case ap12 => (refine' FX.exm_at ?x1 ?x2 ?x3 ?x4; (case x1 => k_is); (case x2 => k_is); (case x3 => k_is); (case x4 => first | rfl | k_is)))
    (case ap13 => (refine' FX.exm_at ?x1 ?x2 ?x3 ?x4; (case x1 => k_is); (case x2 => k_is); (case x3 => k_is); (case x4 => first | rfl | k_is)))
    (case ap20 => (refine' FX.exm_at ?x1 ?x2 ?x3 ?x4; (case x1 => k_is); (case x2 => k_is); (case x3 => k_is); (case x4 => first | rfl | k_is)))
    (case ap21 => (refine' FX.exm_at ?x1 ?x2 ?x3 ?x4; (case x1 => k_is); (case x2 => k_is); (case x3 => k_is); (case x4 => first | rfl | k_is)))
    (case ap22 => (refine' FX.exm_at ?x1 ?x2 ?x3 ?x4; (case x1 => k_is); (case x2 => k_is); (case x3 => k_is); (case x4 => first | rfl | k_is)))
    (case ap23 => (refine' FX.exm_at ?x1 ?x2 ?x3 ?x4; (case x1 => k_is); (case x2 => k_is); (case x3 => k_is); (case x4 => first | rfl | k_is)))
    (case ap30 => (refine' FX.exm_at ?x1 ?x2 ?x3 ?x4; (case x1 => k_is); (case x2 => k_is); (case x3 => k_is); (case x4 => first | rfl | k_is)))
    (case ap31 => (refine' FX.exm_at ?x1 ?x2 ?x3 ?x4; (case x1 => k_is); (case x2 => k_is); (case x3 => k_is); (case x4 => first | rfl | k_is)))
    (case ap32 => (refine' FX.exm_at ?x1 ?x2 ?x3 ?x4; (case x1 => k_is); (case x2 => k_is); (case x3 => k_is); (case x4 => first | rfl | k_is)))
    (case ap33 => (refine' FX.exm_at ?x1 ?x2 ?x3 ?x4; (case x1 => k_is); (case x2 => k_is); (case x3 => k_is); (case x4 => first | rfl | k_is)))
    (case a_law_pot => k_is)
    (case a_law => k_is)
    (case b_law_pot => (refine' FX.fnIn_mk ?l ?c ?k; (case l => k_is); (case c => k_is); (case k => k_is)))
    (case l_law => k_is)
    (case c_law => k_is)
    (case k_law => k_is)
