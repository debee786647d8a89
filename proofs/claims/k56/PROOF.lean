import PyProof.Rows.All
import Wide.All
import OpenK.AllK
import Wide.FinOn
import HandS.ForMost
import HandS.ForExc
import HandS.TryMany
import HandS.Star
import HandS.Strs
import HandS.SetFor
import HandS.IsInst
import HandS.Property
import HandS.Conv
import HandS.Small
import HandS.RevRange
import KE.GoesEnum
import KE.GoesMore
import KE.KOpsOwn
import HandS.More
import HandS.SlotsOwn
import PyProof.InstNe
import HandS.IterVal
import HandS.OwnEq
import HandS.Flow
import HandS.OwnIter
import HandS.DictComp
import HandS.WideBits
import HandS.List
import HandS.Gcd
import HandS.ClsMeth
import HandS.Wide
import HandS.Defaults
import Flt.RightSqrt
import KE.DataMinMax
import HandS.SortKw
import HandS.Style
import PySem.Challenge.RW_pursewebs_k56_token_bids
set_option Elab.async false
set_option linter.all false
set_option maxRecDepth 100000
set_option maxHeartbeats 4000000
namespace Den
open PySem L2
inductive Ty where
  | non | bl | int | str | lst | tup
  deriving DecidableEq
def Ty.name : Ty → String
  | .non => "NoneType"
  | .bl => "bool"
  | .int => "int"
  | .str => "str"
  | .lst => "list"
  | .tup => "tuple"
inductive D where
  | non | bl (b : Bool) | int (i : Int) | str (x : Str) | lst (ds : List D) | tup (ds : List D) | ins (C : Addr) (ns : List Str) (ds : List D) | pot | ty (n : Ty) | cls (C : Addr) | dct (kvs : List (Key × V))

mutual
/-- the value v is the datum d, as far as the standing part G of the heap tells -/
inductive At (P : Addr) (G : Hp) : V → D → Prop
  | non : At P G .non .non
  | bl (b : Bool) : At P G (.bl b) (.bl b)
  | int (i : Int) : At P G (.int i) (.int i)
  | str (x : Str) : At P G (.str x) (.str x)
  | lst {p : Addr} {vs : List V} {ds : List D} (h : G p = some (.lst vs)) (a : AtL P G vs ds) : At P G (.ref p) (.lst ds)
  | tup {p : Addr} {vs : List V} {ds : List D} (h : G p = some (.tup vs)) (a : AtL P G vs ds) : At P G (.ref p) (.tup ds)
  | ins {p dx C : Addr} {ns : List Str} {vs : List V} {ds : List D} (h : G p = some (.ins C dx (ns.zip vs))) (a : AtL P G vs ds) : At P G (.ref p) (.ins C ns ds)
  | pot : At P G (.ref P) .pot
  | ty (n : Ty) : At P G (.ty n.name) (.ty n)
  | cls (C : Addr) : At P G (.ref C) (.cls C)
  | dct {p : Addr} {o : Obj} {kvs : List (Key × V)} (h : G p = some (.frz o (.dK kvs))) : At P G (.ref p) (.dct kvs)
inductive AtL (P : Addr) (G : Hp) : List V → List D → Prop
  | nil : AtL P G [] []
  | cons {v : V} {d : D} {vs : List V} {ds : List D} (h : At P G v d) (t : AtL P G vs ds) : AtL P G (v :: vs) (d :: ds)
end
def Ex (H H' : Hp) : Prop := ∀ a o, H a = some o → H' a = some o
theorem Ex.refl (H : Hp) : Ex H H := fun _ _ h => h
theorem Ex.trans {H H1 H2 : Hp} (a : Ex H H1) (b : Ex H1 H2) : Ex H H2 := fun x o h => b x o (a x o h)
theorem Ex.new {H : Hp} {p : Addr} {o : HO} (h : H p = none) : Ex H (upd H p o) := fun a u e => by
  rw [upd_ne (ne_of_none e h)]
  exact e

mutual
theorem At.mono {P : Addr} {G G' : Hp} (e : Ex G G') : ∀ {v : V} {d : D}, At P G v d → At P G' v d
  | _, _, .non => .non
  | _, _, .bl b => .bl b
  | _, _, .int i => .int i
  | _, _, .str x => .str x
  | _, _, .lst h a => .lst (e _ _ h) (AtL.mono e a)
  | _, _, .tup h a => .tup (e _ _ h) (AtL.mono e a)
  | _, _, .ins h a => .ins (e _ _ h) (AtL.mono e a)
  | _, _, .pot => .pot
  | _, _, .ty n => .ty n
  | _, _, .cls C => .cls C
  | _, _, .dct h => .dct (e _ _ h)
theorem AtL.mono {P : Addr} {G G' : Hp} (e : Ex G G') : ∀ {vs : List V} {ds : List D}, AtL P G vs ds → AtL P G' vs ds
  | _, _, .nil => .nil
  | _, _, .cons h t => .cons (At.mono e h) (AtL.mono e t)
end
section
variable {P : Addr} {G : Hp}
theorem AtL.length : ∀ {vs : List V} {ds : List D}, AtL P G vs ds → vs.length = ds.length
  | _, _, .nil => rfl
  | _, _, .cons _ t => by simp [AtL.length t]
theorem AtL.get : ∀ {vs : List V} {ds : List D} {i : Nat} {d : D}, AtL P G vs ds → ds[i]? = some d → ∃ v, vs[i]? = some v ∧ At P G v d
  | _, _, _, _, .nil, e => by simp at e
  | _, _, 0, _, .cons h _, e => by simp at e; subst e; exact ⟨_, rfl, h⟩
  | _, _, i + 1, d, .cons _ t, e => by
    obtain ⟨v, h1, h2⟩ := AtL.get (i := i) (d := d) t (by simpa using e)
    exact ⟨v, by simpa using h1, h2⟩
theorem AtL.getV : ∀ {vs : List V} {ds : List D} {i : Nat} {v : V}, AtL P G vs ds → vs[i]? = some v → ∃ d, ds[i]? = some d ∧ At P G v d
  | _, _, _, _, .nil, e => by simp at e
  | _, _, 0, _, .cons h _, e => by simp at e; subst e; exact ⟨_, rfl, h⟩
  | _, _, i + 1, v, .cons _ t, e => by
    obtain ⟨d, h1, h2⟩ := AtL.getV (i := i) (v := v) t (by simpa using e)
    exact ⟨d, by simpa using h1, h2⟩
theorem AtL.append : ∀ {vs ws : List V} {ds es : List D}, AtL P G vs ds → AtL P G ws es → AtL P G (vs ++ ws) (ds ++ es)
  | _, _, _, _, .nil, s => s
  | _, _, _, _, .cons h t, s => .cons h (AtL.append t s)
theorem AtL.take : ∀ {vs : List V} {ds : List D} (n : Nat), AtL P G vs ds → AtL P G (vs.take n) (ds.take n)
  | _, _, 0, _ => .nil
  | _, _, _ + 1, .nil => .nil
  | _, _, n + 1, .cons h t => .cons h (AtL.take n t)
theorem AtL.drop : ∀ {vs : List V} {ds : List D} (n : Nat), AtL P G vs ds → AtL P G (vs.drop n) (ds.drop n)
  | _, _, 0, a => a
  | _, _, _ + 1, .nil => .nil
  | _, _, n + 1, .cons h t => AtL.drop n t
theorem AtL.set {v : V} {d : D} (h : At P G v d) : ∀ {vs : List V} {ds : List D} (i : Nat), AtL P G vs ds → AtL P G (vs.set i v) (ds.set i d)
  | _, _, _, .nil => .nil
  | _, _, 0, .cons _ t => .cons h t
  | _, _, i + 1, .cons q t => .cons q (AtL.set h i t)
theorem AtL.ints : ∀ {ns : List Int}, AtL P G (ns.map V.int) (ns.map D.int)
  | [] => .nil
  | n :: ns => .cons (.int n) AtL.ints
end
/-- from (G, H) on: the standing part grows, what stood stands (but the pot), what is new was free -/
structure Stp (B : Addr → Prop) (G H G' H' : Hp) : Prop where
  gg : Ex G G'
  gh : Ex G' H'
  keep : ∀ q o, H q = some o → ¬ B q → H' q = some o
  there : ∀ q, H' q = none → H q = none
  new : ∀ p o, G' p = some o → G p = some o ∨ H p = none
theorem Stp.refl {B : Addr → Prop} {G H : Hp} (gh : Ex G H) : Stp B G H G H := ⟨Ex.refl G, gh, fun _ _ h _ => h, fun _ h => h, fun _ _ h => .inl h⟩
theorem Stp.trans {B : Addr → Prop} {G H G1 H1 G2 H2 : Hp} (a : Stp B G H G1 H1) (b : Stp B G1 H1 G2 H2) : Stp B G H G2 H2 :=
  ⟨a.gg.trans b.gg, b.gh, fun q o h n => b.keep q o (a.keep q o h n) n, fun q h => a.there q (b.there q h), fun p o h => (b.new p o h).elim (fun z => a.new p o z) fun z => .inr (a.there p z)⟩
/-- a new object, standing from now on -/
theorem Stp.lay {B : Addr → Prop} {G H : Hp} {p : Addr} {o : HO} (gh : Ex G H) (h : H p = none) : Stp B G H (upd G p o) (upd H p o) := by
  refine ⟨fun a u e => ?_, fun a u e => ?_, fun q u e _ => ?_, fun q e => ?_, fun a u e => ?_⟩
  · rw [upd_ne (ne_of_none (gh a u e) h)]; exact e
  · by_cases z : a = p
    · subst z; rw [upd_same] at e; rw [upd_same]; exact e
    · rw [upd_ne z] at e; rw [upd_ne z]; exact gh a u e
  · rw [upd_ne (ne_of_none e h)]; exact e
  · by_cases z : q = p
    · subst z; exact h
    · rw [upd_ne z] at e; exact e
  · by_cases z : a = p
    · subst z; exact .inr h
    · rw [upd_ne z] at e; exact .inl e
/-- a new object that does not stand yet -/
theorem Stp.lay0 {B : Addr → Prop} {G H : Hp} {p : Addr} {o : HO} (gh : Ex G H) (h : H p = none) : Stp B G H G (upd H p o) := by
  refine ⟨Ex.refl G, fun a u e => ?_, fun q u e _ => ?_, fun q e => ?_, fun a u e => .inl e⟩
  · rw [upd_ne (ne_of_none (gh a u e) h)]; exact gh a u e
  · rw [upd_ne (ne_of_none e h)]; exact e
  · by_cases z : q = p
    · subst z; exact h
    · rw [upd_ne z] at e; exact e

/-- what a slot holds: a datum, a list of one's own, an instance that is being made -/
inductive L where
  | dat (d : D) | cell (ds : List D) | obj (a C : Addr) (ns : List Str) (ds : List D)
abbrev Loc := List (Option L)

/-- P: the place of what the reading changes (the pot); B: all places that belong to it; inv: what it holds -/
structure Cfg where
  K : PySem.W.Frag
  P : Addr
  ec : Nat → Addr
  B : Addr → Prop
  inv : List Int → Hp → Prop
  full : ∀ {p : List Int} {H : Hp}, inv p H → ∀ a, B a → H a ≠ none
  ext : ∀ {p : List Int} {H H' : Hp}, (∀ a, B a → H' a = H a) → inv p H → inv p H'

def SlotAt (c : Cfg) (H0 G H : Hp) : Option (Option V) → L → Prop
  | some (some v), .dat d => At c.P G v d
  | some (some (.ref p)), .cell ds => ∃ vs, H p = some (.lst vs) ∧ AtL c.P G vs ds ∧ G p = none ∧ H0 p = none
  | some (some (.ref p)), .obj a C ns ds => p = a ∧ ∃ vs dx, H p = some (.ins C dx (ns.zip vs)) ∧ AtL c.P G vs ds ∧ G p = none ∧ H0 p = none ∧ ¬ c.B p
  | _, _ => False
def owned : L → Bool
  | .dat _ => false
  | _ => true

structure Rel (c : Cfg) (G0 H0 G H : Hp) (σ : St) (l : Loc) (pot : List Int) : Prop where
  stp : Stp c.B G0 H0 G H
  pot : c.inv pot H
  gP : ∀ a, c.B a → G a = none
  hP : ∀ a, c.B a → H0 a ≠ none
  len : σ.length = l.length
  slot : ∀ (i : Nat) (x : L), l[i]? = some (some x) → SlotAt c H0 G H σ[i]? x
  dist : ∀ (i j : Nat) (x y : L), l[i]? = some (some x) → l[j]? = some (some y) → owned x = true → owned y = true → i ≠ j → σ[i]? ≠ σ[j]?

inductive R (α : Type) where
  | ok (a : α) (pot : List Int) | err (n : Nat) (pot : List Int) | bad
def R.bind {α β : Type} : R α → (α → List Int → R β) → R β
  | .ok a p, k => k a p
  | .err n p, _ => .err n p
  | .bad, _ => .bad
abbrev M (α : Type) := Loc → List Int → R α

section
variable {c : Cfg} {G0 H0 G H G' H' : Hp} {σ : St} {l : Loc} {pot pot' : List Int}
theorem SlotAt.step {x : L} {o : Option (Option V)} (hh : ∀ a, c.B a → H0 a ≠ none) (s : Stp c.B G H G' H') (a : SlotAt c H0 G H o x) : SlotAt c H0 G' H' o x := by
  have pres : ∀ {p : Addr} {u : HO}, H p = some u → G p = none → G' p = none := fun {p u} h1 h2 => by
    cases e : G' p with
    | none => rfl
    | some w =>
      rcases s.new p w e with z | z
      · rw [h2] at z; cases z
      · rw [h1] at z; cases z
  match o, x, a with
  | some (some v), .dat d, a => exact At.mono s.gg a
  | some (some (.ref p)), .cell ds, ⟨vs, h1, h2, h3, h4⟩ =>
    exact ⟨vs, s.keep p _ h1 (fun z => hh p z h4), AtL.mono s.gg h2, pres h1 h3, h4⟩
  | some (some (.ref p)), .obj a C ns ds, ⟨ea, vs, dx, h1, h2, h3, h4, h5⟩ => exact ⟨ea, vs, dx, s.keep p _ h1 h5, AtL.mono s.gg h2, pres h1 h3, h4, h5⟩
theorem Rel.hp (r : Rel c G0 H0 G H σ l pot) : ∀ a, c.B a → H a ≠ none := fun a b z => r.hP a b (r.stp.there a z)
/-- the state behind an expression -/
theorem Rel.step (r : Rel c G0 H0 G H σ l pot) (s : Stp c.B G H G' H') (hp : c.inv pot' H') : Rel c G0 H0 G' H' σ l pot' := by
  refine ⟨r.stp.trans s, hp, fun a b => ?_, r.hP, r.len, fun i x e => (r.slot i x e).step r.hP s, r.dist⟩
  cases e : G' a with
  | none => rfl
  | some w =>
    rcases s.new _ w e with z | z
    · rw [r.gP a b] at z; cases z
    · exact absurd z (r.hp a b)
/-- nothing that belongs to the pot is touched -/
theorem Rel.same (r : Rel c G0 H0 G H σ l pot) (s : Stp c.B G H G' H') (hp : ∀ a, c.B a → H' a = H a) : Rel c G0 H0 G' H' σ l pot := r.step s (c.ext hp r.pot)
end
/-- what is changed is a list of ints: the pot -/
structure Cfg.Pot (c : Cfg) : Prop where
  b : ∀ a, c.B a ↔ a = c.P
  i : ∀ p H, c.inv p H ↔ H c.P = some (.lst (p.map V.int))
def potCfg (K : PySem.W.Frag) (P : Addr) (ec : Nat → Addr) : Cfg := ⟨K, P, ec, fun a => a = P, fun p H => H P = some (.lst (p.map V.int)), (fun {p H} h a b z => by rw [b, h] at z; cases z), (fun {p H H'} e h => by rw [e P rfl]; exact h)⟩
theorem potCfg_pot (K : PySem.W.Frag) (P : Addr) (ec : Nat → Addr) : (potCfg K P ec).Pot := ⟨fun _ => Iff.rfl, fun _ _ => Iff.rfl⟩

/-- what is wanted behind a reading that comes to r -/
def Post (c : Cfg) (E : St → XK) {α β : Type} (rel : Hp → α → β → Prop) (G0 H0 G H : Hp) (σ : St) (l : Loc) : R β → (α → Hp → Prop) → Prop
  | .ok b p, Q => ∀ a G' H', Stp c.B G H G' H' → Rel c G0 H0 G' H' σ l p → rel G' a b → Q a H'
  | .err n p, _ => ∀ G' H', Ex G G' → Rel c G0 H0 G' H' σ l p → E σ (.ref (c.ec n)) none H'
  | .bad, _ => False
/-- what an expression's (a test's, an argument list's) reading owes to its function -/
def Sn (c : Cfg) (E : St → XK) {α β : Type} (rel : Hp → α → β → Prop) (t : St → Hp → (α → Hp → Prop) → Prop) (e : M β) : Prop :=
  ∀ G0 H0 G H σ l pot, Rel c G0 H0 G H σ l pot → ∀ Q : α → Hp → Prop, Post c E rel G0 H0 G H σ l (e l pot) Q → t σ H Q
abbrev rD (c : Cfg) : Hp → V → D → Prop := fun G v d => At c.P G v d
abbrev rB : Hp → Bool → Bool → Prop := fun _ a b => a = b
abbrev rA (c : Cfg) : Hp → List V → List D → Prop := fun G v d => AtL c.P G v d
abbrev SE (c : Cfg) (E : St → XK) (t : TE) (e : M D) : Prop := Sn c E (rD c) t e
abbrev ST (c : Cfg) (E : St → XK) (t : TT) (e : M Bool) : Prop := Sn c E rB t e
abbrev SA (c : Cfg) (E : St → XK) (t : TA) (e : M (List D)) : Prop := Sn c E (rA c) t e
def mbind {α β : Type} (a : M α) (k : α → M β) : M β := fun l p => (a l p).bind fun x p' => k x l p'
def mret {α : Type} (a : α) : M α := fun _ p => .ok a p
def mlift {α : Type} : Option α → M α
  | some a => mret a
  | none => fun _ _ => .bad

section
variable {c : Cfg} {E : St → XK} {α β : Type} {rel : Hp → α → β → Prop} {G0 H0 G H G' H' : Hp} {σ : St} {l : Loc} {pot pot' : List Int}
theorem Post.mono {r : R β} {Q : α → Hp → Prop} (p : Post c E rel G0 H0 G H σ l r Q) (s : Stp c.B G H G' H') : Post c E rel G0 H0 G' H' σ l r Q := by
  cases r with
  | ok b q => exact fun a G2 H2 s2 r2 ra => p a G2 H2 (s.trans s2) r2 ra
  | err n q => exact fun G2 H2 e2 r2 => p G2 H2 (s.gg.trans e2) r2
  | bad => exact p
theorem Post.ok {b : β} {Q : α → Hp → Prop} {a : α} (p : Post c E rel G0 H0 G H σ l (.ok b pot) Q) (r : Rel c G0 H0 G H σ l pot) (h : rel G a b) : Q a H := p a G H (Stp.refl r.stp.gh) r h
theorem Sn.go {γ δ : Type} {rel' : Hp → γ → δ → Prop} {t1 : St → Hp → (γ → Hp → Prop) → Prop} {e1 : M δ} (h1 : Sn c E rel' t1 e1) (r : Rel c G0 H0 G H σ l pot) {k : δ → M β} {Q : α → Hp → Prop} {X : γ → Hp → Prop}
    (post : Post c E rel G0 H0 G H σ l (mbind e1 k l pot) Q)
    (h2 : ∀ a b p G' H', Stp c.B G H G' H' → Rel c G0 H0 G' H' σ l p → rel' G' a b → Post c E rel G0 H0 G' H' σ l (k b l p) Q → X a H') : t1 σ H X := by
  refine h1 G0 H0 G H σ l pot r _ ?_
  unfold mbind at post
  cases e : e1 l pot with
  | ok b p =>
    rw [e] at post
    exact fun a G' H' s r' ra => h2 a b p G' H' s r' ra (Post.mono post s)
  | err n p =>
    rw [e] at post
    exact post
  | bad =>
    rw [e] at post
    exact post
end
end Den
namespace Den
open PySem L2
section
variable {c : Cfg} {E : St → XK}
def mvar (i : Nat) : M D := fun l p => match l[i]? with
  | some (some (.dat d)) => .ok d p
  | _ => .bad
theorem se_var {i : Nat} : SE c E (tVar i) (mvar i) := by
  intro G0 H0 G H σ l pot r Q post
  unfold mvar at post
  split at post
  · rename_i d e
    have a := r.slot i _ e
    cases e2 : σ[i]? with
    | none => rw [e2] at a; exact a.elim
    | some o =>
      cases o with
      | none => rw [e2] at a; exact a.elim
      | some v =>
        rw [e2] at a
        exact ⟨v, e2, Post.ok post r a⟩
  · exact post.elim
theorem se_c {v : V} {d : D} (h : ∀ P G, At P G v d) : SE c E (tC v) (mret d) := fun G0 H0 G H σ l pot r Q post => Post.ok post r (h _ _)
theorem se_int {i : Int} : SE c E (tC (.int i)) (mret (.int i)) := se_c fun _ _ => .int i
theorem se_str {x : Str} : SE c E (tC (.str x)) (mret (.str x)) := se_c fun _ _ => .str x
theorem se_bl {b : Bool} : SE c E (tC (.bl b)) (mret (.bl b)) := se_c fun _ _ => .bl b
theorem se_non : SE c E (tC .non) (mret .non) := se_c fun _ _ => .non

/-- behind an operation: perhaps something new, the pot as it was -/
def OpS (c : Cfg) (t : Hp → VK → Prop) (G H : Hp) (d : D) : Prop := ∀ Q : VK, (∀ v G' H', Stp c.B G H G' H' → (∀ a, c.B a → H' a = H a) → At c.P G' v d → Q v H') → t H Q
structure S2 (c : Cfg) (r : R2) (f : D → D → Option D) : Prop where
  run : ∀ G H x y dx dy d, Ex G H → (∀ a, c.B a → H a ≠ none) → At c.P G x dx → At c.P G y dy → f dx dy = some d → OpS c (r x y) G H d
structure S1 (c : Cfg) (r : V → Hp → VK → Prop) (f : D → Option D) : Prop where
  run : ∀ G H x dx d, Ex G H → (∀ a, c.B a → H a ≠ none) → At c.P G x dx → f dx = some d → OpS c (r x) G H d
structure SN (c : Cfg) (r : List V → Hp → VK → Prop) (f : List D → Option D) : Prop where
  run : ∀ G H xs ds d, Ex G H → (∀ a, c.B a → H a ≠ none) → AtL c.P G xs ds → f ds = some d → OpS c (r xs) G H d
def op2 (f : D → D → Option D) (a b : M D) : M D := mbind a fun x => mbind b fun y => mlift (f x y)
def op1 (f : D → Option D) (a : M D) : M D := mbind a fun x => mlift (f x)
def opn (f : List D → Option D) (a : M (List D)) : M D := mbind a fun x => mlift (f x)
theorem post_op {G0 H0 G H : Hp} {σ : St} {l : Loc} {pot : List Int} {o : Option D} {t : Hp → VK → Prop} {Q : VK} (r : Rel c G0 H0 G H σ l pot) (post : Post c E (rD c) G0 H0 G H σ l (mlift o l pot) Q)
    (h : ∀ d, o = some d → OpS c t G H d) : t H Q := by
  cases o with
  | none => exact post.elim
  | some d => exact h d rfl Q fun v G' H' s hp a => post v G' H' s (r.same s hp) a
theorem se_op2 {r : R2} {f : D → D → Option D} {ta tb : TE} {a b : M D} (hr : S2 c r f) (ha : SE c E ta a) (hb : SE c E tb b) : SE c E (tOp r ta tb) (op2 f a b) := by
  intro G0 H0 G H σ l pot rl Q post
  refine Sn.go ha rl post fun x dx p G1 H1 s1 r1 hx post1 => ?_
  refine Sn.go hb r1 post1 fun y dy p2 G2 H2 s2 r2 hy post2 => ?_
  exact post_op (t := r x y) r2 post2 fun d e => hr.run G2 H2 x y dx dy d r2.stp.gh r2.hp (At.mono s2.gg hx) hy e
theorem se_op1 {r : V → Hp → VK → Prop} {f : D → Option D} {ta : TE} {a : M D} (hr : S1 c r f) (ha : SE c E ta a) : SE c E (tUn r ta) (op1 f a) := by
  intro G0 H0 G H σ l pot rl Q post
  refine Sn.go ha rl post fun x dx p G1 H1 s1 r1 hx post1 => ?_
  exact post_op (t := r x) r1 post1 fun d e => hr.run G1 H1 x dx d r1.stp.gh r1.hp hx e
theorem se_cb {r : List V → Hp → VK → Prop} {f : List D → Option D} {ta : TA} {a : M (List D)} (hr : SN c r f) (ha : SA c E ta a) : SE c E (tCB r ta) (opn f a) := by
  intro G0 H0 G H σ l pot rl Q post
  refine Sn.go ha rl post fun x dx p G1 H1 s1 r1 hx post1 => ?_
  exact post_op (t := r x) r1 post1 fun d e => hr.run G1 H1 x dx d r1.stp.gh r1.hp hx e
def anil : M (List D) := mret []
def acons (a : M D) (b : M (List D)) : M (List D) := mbind a fun x => mbind b fun ys => mret (x :: ys)
theorem sa_nil : SA c E tNil anil := fun G0 H0 G H σ l pot r Q post => Post.ok post r .nil
theorem sa_cons {te : TE} {t : TA} {a : M D} {b : M (List D)} (ha : SE c E te a) (hb : SA c E t b) : SA c E (tCons te t) (acons a b) := by
  intro G0 H0 G H σ l pot rl Q post
  refine Sn.go ha rl post fun x dx p G1 H1 s1 r1 hx post1 => ?_
  refine Sn.go hb r1 post1 fun ys dys p2 G2 H2 s2 r2 hy post2 => ?_
  exact Post.ok post2 r2 (.cons (At.mono s2.gg hx) hy)
def seqOf : D → Option (List D)
  | .lst ds => some ds
  | .tup ds => some ds
  | _ => none
theorem seq_at {P : Addr} {G : Hp} {x : V} {d : D} {ds : List D} (h : At P G x d) (e : seqOf d = some ds) : ∃ p vs, x = .ref p ∧ (G p = some (.lst vs) ∨ G p = some (.tup vs)) ∧ AtL P G vs ds := by
  cases h with
  | lst h a => cases e; exact ⟨_, _, rfl, .inl h, a⟩
  | tup h a => cases e; exact ⟨_, _, rfl, .inr h, a⟩
  | _ => cases e
theorem sqLT {K : PySem.W.Frag} {G H : Hp} {p : Addr} {vs : List V} (e : Ex G H) (h : G p = some (.lst vs) ∨ G p = some (.tup vs)) : SqL K H p vs ∨ SqT K H p vs := h.elim (fun z => .inl (.inl (.inl (e _ _ z)))) fun z => .inr (.inl (.inl (e _ _ z)))
def astar (a : M D) (b : M (List D)) : M (List D) := mbind a fun x => mbind (mlift (seqOf x)) fun ds => mbind b fun ys => mret (ds ++ ys)
theorem post_lift {α β : Type} {rel : Hp → α → β → Prop} {G0 H0 G H : Hp} {σ : St} {l : Loc} {pot : List Int} {γ : Type} {o : Option γ} {k : γ → M β} {Q : α → Hp → Prop} (post : Post c E rel G0 H0 G H σ l (mbind (mlift o) k l pot) Q) :
    ∃ g, o = some g ∧ Post c E rel G0 H0 G H σ l (k g l pot) Q := by
  cases o with
  | none => exact post.elim
  | some g => exact ⟨g, rfl, post⟩
theorem sa_star {te : TE} {t : TA} {a : M D} {b : M (List D)} (ha : SE c E te a) (hb : SA c E t b) : SA c E (StX.tStar c.K te t) (astar a b) := by
  intro G0 H0 G H σ l pot rl Q post
  refine Sn.go ha rl post fun x dx p G1 H1 s1 r1 hx post1 => ?_
  obtain ⟨ds, e, post2⟩ := post_lift post1
  obtain ⟨q, vs, rfl, h, a⟩ := seq_at hx e
  refine ⟨_, _, rfl, (sqLT r1.stp.gh h).symm, ?_⟩
  refine Sn.go hb r1 post2 fun ys dys p2 G2 H2 s2 r2 hy post2 => ?_
  exact Post.ok post2 r2 (AtL.append (AtL.mono s2.gg a) hy)

theorem ops_pure {t : Hp → VK → Prop} {G H : Hp} {d : D} {v : V} (gh : Ex G H) (a : At c.P G v d) (h : ∀ Q : VK, Q v H → t H Q) : OpS c t G H d := fun Q q => h Q (q v G H (Stp.refl gh) (fun _ _ => rfl) a)
theorem ops_new {t : Hp → VK → Prop} {G H : Hp} {d : D} (o : HO) (gh : Ex G H) (hP : (∀ a, c.B a → H a ≠ none)) (a : ∀ p, H p = none → At c.P (upd G p o) (.ref p) d) (h : ∀ Q : VK, (∀ p, H p = none → Q (.ref p) (upd H p o)) → t H Q) : OpS c t G H d := fun Q q =>
  h Q fun p hp => q _ _ _ (Stp.lay gh hp) (fun b hb => upd_ne (fun z => hP b hb (by rw [z]; exact hp))) (a p hp)
theorem at_new_l {P : Addr} {G H : Hp} {p : Addr} {vs : List V} {ds : List D} (gh : Ex G H) (h : H p = none) (a : AtL P G vs ds) : At P (upd G p (.lst vs)) (.ref p) (.lst ds) := .lst upd_same (AtL.mono (fun b o e => by rw [upd_ne (ne_of_none (gh b o e) h)]; exact e) a)
theorem at_new_t {P : Addr} {G H : Hp} {p : Addr} {vs : List V} {ds : List D} (gh : Ex G H) (h : H p = none) (a : AtL P G vs ds) : At P (upd G p (.tup vs)) (.ref p) (.tup ds) := .tup upd_same (AtL.mono (fun b o e => by rw [upd_ne (ne_of_none (gh b o e) h)]; exact e) a)
def fI (g : Int → Int → Option D) : D → D → Option D
  | .int i, .int j => g i j
  | _, _ => none
theorem fI_at {g : Int → Int → Option D} {P : Addr} {G : Hp} {x y : V} {dx dy d : D} (hx : At P G x dx) (hy : At P G y dy) (e : fI g dx dy = some d) : ∃ i j, x = .int i ∧ y = .int j ∧ g i j = some d := by
  cases hx with
  | int i =>
    cases hy with
    | int j => exact ⟨i, j, rfl, rfl, e⟩
    | _ => cases e
  | _ => cases e
def fAdd : D → D → Option D := fI fun i j => some (.int (i + j))
def fSub : D → D → Option D := fI fun i j => some (.int (i - j))
def fMul : D → D → Option D := fI fun i j => if i.natAbs < 18446744073709551616 ∨ j.natAbs < 18446744073709551616 then some (.int (i * j)) else none
def fDiv : D → D → Option D := fI fun i j => if 0 < j ∧ j.natAbs < 1073741824 then some (.int (i / j)) else none
def fMod : D → D → Option D := fI fun i j => if 0 < j then some (.int (i % j)) else none
def fLt : D → D → Option D := fI fun i j => some (.bl (decide (i < j)))
def fLe : D → D → Option D := fI fun i j => some (.bl (decide (i ≤ j)))
def fGt : D → D → Option D := fI fun i j => some (.bl (decide (j < i)))
def fGe : D → D → Option D := fI fun i j => some (.bl (decide (j ≤ i)))
theorem s2_add : S2 c (rI0 fun i j => .int (i + j)) fAdd := ⟨fun G H x y dx dy d gh _ hx hy e => by
  obtain ⟨i, j, rfl, rfl, e⟩ := fI_at hx hy e
  cases e
  exact ops_pure gh (.int _) fun Q q => ⟨i, j, rfl, rfl, q⟩⟩
theorem s2_sub : S2 c (rI0 fun i j => .int (i - j)) fSub := ⟨fun G H x y dx dy d gh _ hx hy e => by
  obtain ⟨i, j, rfl, rfl, e⟩ := fI_at hx hy e
  cases e
  exact ops_pure gh (.int _) fun Q q => ⟨i, j, rfl, rfl, q⟩⟩
theorem s2_mul : S2 c (rI CMul fun i j => .int (i * j)) fMul := ⟨fun G H x y dx dy d gh _ hx hy e => by
  obtain ⟨i, j, rfl, rfl, e⟩ := fI_at hx hy e
  split at e
  · rename_i z
    cases e
    exact ops_pure gh (.int _) fun Q q => ⟨i, j, rfl, rfl, (by unfold CMul; omega), q⟩
  · cases e⟩
theorem s2_div : S2 c (rI CDiv fun i j => .int (i / j)) fDiv := ⟨fun G H x y dx dy d gh _ hx hy e => by
  obtain ⟨i, j, rfl, rfl, e⟩ := fI_at hx hy e
  split at e
  · rename_i z
    cases e
    exact ops_pure gh (.int _) fun Q q => ⟨i, j, rfl, rfl, (by unfold CDiv; omega), q⟩
  · cases e⟩
theorem s2_mod : S2 c (rI (fun _ j => 0 < j) fun i j => .int (i % j)) fMod := ⟨fun G H x y dx dy d gh _ hx hy e => by
  obtain ⟨i, j, rfl, rfl, e⟩ := fI_at hx hy e
  split at e
  · rename_i z
    cases e
    exact ops_pure gh (.int _) fun Q q => ⟨i, j, rfl, rfl, z, q⟩
  · cases e⟩
theorem s2_lt : S2 c (rI0 fun i j => .bl (decide (i < j))) fLt := ⟨fun G H x y dx dy d gh _ hx hy e => by
  obtain ⟨i, j, rfl, rfl, e⟩ := fI_at hx hy e
  cases e
  exact ops_pure gh (.bl _) fun Q q => ⟨i, j, rfl, rfl, q⟩⟩
theorem s2_le : S2 c (rI0 fun i j => .bl (decide (i ≤ j))) fLe := ⟨fun G H x y dx dy d gh _ hx hy e => by
  obtain ⟨i, j, rfl, rfl, e⟩ := fI_at hx hy e
  cases e
  exact ops_pure gh (.bl _) fun Q q => ⟨i, j, rfl, rfl, q⟩⟩
theorem s2_gt : S2 c (rI0 fun i j => .bl (decide (j < i))) fGt := ⟨fun G H x y dx dy d gh _ hx hy e => by
  obtain ⟨i, j, rfl, rfl, e⟩ := fI_at hx hy e
  cases e
  exact ops_pure gh (.bl _) fun Q q => ⟨i, j, rfl, rfl, q⟩⟩
theorem s2_ge : S2 c (rI0 fun i j => .bl (decide (j ≤ i))) fGe := ⟨fun G H x y dx dy d gh _ hx hy e => by
  obtain ⟨i, j, rfl, rfl, e⟩ := fI_at hx hy e
  cases e
  exact ops_pure gh (.bl _) fun Q q => ⟨i, j, rfl, rfl, q⟩⟩
def fNeg : D → Option D
  | .int i => some (.int (-i))
  | _ => none
theorem s1_neg : S1 c (rU fun i => .int (-i)) fNeg := ⟨fun G H x dx d gh _ hx e => by
  cases hx with
  | int i => cases e; exact ops_pure gh (.int _) fun Q q => ⟨i, rfl, q⟩
  | _ => cases e⟩
/-- == of the scalars -/
def sc : D → Option V
  | .non => some .non
  | .int i => some (.int i)
  | .str x => some (.str x)
  | .bl b => some (.bl b)
  | _ => none
theorem sc_at {P : Addr} {G : Hp} {x : V} {d : D} {v : V} (h : At P G x d) (e : sc d = some v) : x = v := by
  cases h with
  | non => cases e; rfl
  | bl b => cases e; rfl
  | int i => cases e; rfl
  | str s => cases e; rfl
  | _ => cases e
def fEq (a b : D) : Option D := match sc a, sc b with
  | some v, some w => if scal v w = true then some (.bl (decide (v = w))) else none
  | _, _ => none
def fNe (a b : D) : Option D := match sc a, sc b with
  | some v, some w => if scal v w = true then some (.bl (!decide (v = w))) else none
  | _, _ => none
theorem s2_eq : S2 c rEq fEq := ⟨fun G H x y dx dy d gh _ hx hy e => by
  unfold fEq at e
  split at e
  · rename_i v w e1 e2
    have q1 := sc_at hx e1
    have q2 := sc_at hy e2
    subst q1 q2
    split at e
    · rename_i z
      cases e
      exact ops_pure gh (.bl _) fun Q q => ⟨z, q⟩
    · cases e
  · cases e⟩
theorem s2_ne : S2 c rNe fNe := ⟨fun G H x y dx dy d gh _ hx hy e => by
  unfold fNe at e
  split at e
  · rename_i v w e1 e2
    have q1 := sc_at hx e1
    have q2 := sc_at hy e2
    subst q1 q2
    split at e
    · rename_i z
      cases e
      exact ops_pure gh (.bl _) fun Q q => ⟨z, q⟩
    · cases e
  · cases e⟩
def isNon : D → Bool
  | .non => true
  | _ => false
theorem isNon_at {P : Addr} {G : Hp} {x : V} {d : D} (h : At P G x d) : decide (x = .non) = isNon d := by
  cases h <;> rfl
def fIsN (a b : D) : Option D := if isNon b then some (.bl (isNon a)) else none
def fNotN (a b : D) : Option D := if isNon b then some (.bl (!isNon a)) else none
theorem s2_isN : S2 c (fun x y H Q => y = .non ∧ Q (.bl (decide (x = .non))) H) fIsN := ⟨fun G H x y dx dy d gh _ hx hy e => by
  unfold fIsN at e
  split at e
  · rename_i z
    cases e
    rw [← isNon_at hy] at z
    exact ops_pure gh (.bl _) fun Q q => ⟨of_decide_eq_true z, by rw [isNon_at hx]; exact q⟩
  · cases e⟩
theorem s2_notN : S2 c (fun x y H Q => y = .non ∧ Q (.bl (!decide (x = .non))) H) fNotN := ⟨fun G H x y dx dy d gh _ hx hy e => by
  unfold fNotN at e
  split at e
  · rename_i z
    cases e
    rw [← isNon_at hy] at z
    exact ops_pure gh (.bl _) fun Q q => ⟨of_decide_eq_true z, by rw [isNon_at hx]; exact q⟩
  · cases e⟩

def mand (a b : M Bool) : M Bool := mbind a fun x => if x = true then b else mret false
def mor (a b : M Bool) : M Bool := mbind a fun x => if x = true then mret true else b
def mnot (a : M Bool) : M Bool := mbind a fun x => mret (!x)
def mif {α : Type} (t : M Bool) (a b : M α) : M α := mbind t fun x => if x = true then a else b
def boolOf : D → Option Bool
  | .bl b => some b
  | _ => none
theorem bool_at {P : Addr} {G : Hp} {x : V} {d : D} {b : Bool} (h : At P G x d) (e : boolOf d = some b) : x = .bl b := by
  cases h with
  | bl b => cases e; rfl
  | _ => cases e
def mtest (a : M D) : M Bool := mbind a fun x => mlift (boolOf x)
theorem st_test {t : TE} {a : M D} (ha : SE c E t a) : ST c E (tTest t) (mtest a) := by
  intro G0 H0 G H σ l pot rl Q post
  refine Sn.go ha rl post fun x dx p G1 H1 s1 r1 hx post1 => ?_
  cases e : boolOf dx with
  | none => rw [e] at post1; exact post1.elim
  | some b =>
    rw [e] at post1
    exact ⟨b, bool_at hx e, Post.ok post1 r1 rfl⟩
theorem st_and {t u : TT} {a b : M Bool} (ha : ST c E t a) (hb : ST c E u b) : ST c E (tAnd t u) (mand a b) := by
  intro G0 H0 G H σ l pot rl Q post
  refine Sn.go ha rl post fun x dx p G1 H1 s1 r1 hx post1 => ?_
  subst hx
  cases x with
  | true => rw [if_pos rfl]; exact hb _ _ _ _ _ _ _ r1 Q post1
  | false => rw [if_neg Bool.false_ne_true]; exact Post.ok post1 r1 rfl
theorem st_or {t u : TT} {a b : M Bool} (ha : ST c E t a) (hb : ST c E u b) : ST c E (tOr t u) (mor a b) := by
  intro G0 H0 G H σ l pot rl Q post
  refine Sn.go ha rl post fun x dx p G1 H1 s1 r1 hx post1 => ?_
  subst hx
  cases x with
  | true => rw [if_pos rfl]; exact Post.ok post1 r1 rfl
  | false => rw [if_neg Bool.false_ne_true]; exact hb _ _ _ _ _ _ _ r1 Q post1
theorem st_not {t : TT} {a : M Bool} (ha : ST c E t a) : ST c E (tNot t) (mnot a) := by
  intro G0 H0 G H σ l pot rl Q post
  refine Sn.go ha rl post fun x dx p G1 H1 s1 r1 hx post1 => ?_
  subst hx
  exact Post.ok post1 r1 rfl
def vand (a b : M D) : M D := mbind (mtest a) fun x => if x = true then b else mret (.bl false)
def vor (a b : M D) : M D := mbind (mtest a) fun x => if x = true then mret (.bl true) else b
def vnot (a : M D) : M D := mbind (mtest a) fun x => mret (.bl (!x))
theorem se_and {ta tb : TE} {a b : M D} (ha : SE c E ta a) (hb : SE c E tb b) : SE c E (tAndV ta tb) (vand a b) := by
  intro G0 H0 G H σ l pot rl Q post
  refine Sn.go (X := fun x H1 => ∃ c, x = .bl c ∧ if c = true then tb σ H1 Q else Q (.bl false) H1) ha rl (k := fun x => mbind (mlift (boolOf x)) fun x => if x = true then b else mret (.bl false)) (by unfold vand mtest at post; unfold mbind at post ⊢; cases e : a l pot <;> simp only [e, R.bind] at post ⊢ <;> exact post) fun x dx p G1 H1 s1 r1 hx post1 => ?_
  obtain ⟨k, e, post2⟩ := post_lift post1
  refine ⟨k, bool_at hx e, ?_⟩
  cases k with
  | true => rw [if_pos rfl]; exact hb _ _ _ _ _ _ _ r1 Q post2
  | false => rw [if_neg Bool.false_ne_true]; exact Post.ok post2 r1 (.bl false)
theorem se_or {ta tb : TE} {a b : M D} (ha : SE c E ta a) (hb : SE c E tb b) : SE c E (tOrV ta tb) (vor a b) := by
  intro G0 H0 G H σ l pot rl Q post
  refine Sn.go (X := fun x H1 => ∃ c, x = .bl c ∧ if c = true then Q (.bl true) H1 else tb σ H1 Q) ha rl (k := fun x => mbind (mlift (boolOf x)) fun x => if x = true then mret (.bl true) else b) (by unfold vor mtest at post; unfold mbind at post ⊢; cases e : a l pot <;> simp only [e, R.bind] at post ⊢ <;> exact post) fun x dx p G1 H1 s1 r1 hx post1 => ?_
  obtain ⟨k, e, post2⟩ := post_lift post1
  refine ⟨k, bool_at hx e, ?_⟩
  cases k with
  | true => rw [if_pos rfl]; exact Post.ok post2 r1 (.bl true)
  | false => rw [if_neg Bool.false_ne_true]; exact hb _ _ _ _ _ _ _ r1 Q post2
theorem se_not {ta : TE} {a : M D} (ha : SE c E ta a) : SE c E (tNotV ta) (vnot a) := by
  intro G0 H0 G H σ l pot rl Q post
  refine Sn.go (β := D) (rel := rD c) (Q := Q) (X := fun x H1 => ∃ c, x = V.bl c ∧ Q (V.bl (!c)) H1) ha rl (k := fun x => mbind (mlift (boolOf x)) fun x => mret (D.bl (!x))) (by unfold vnot mtest at post; unfold mbind at post ⊢; cases e : a l pot <;> simp only [e, R.bind] at post ⊢ <;> exact post) fun x dx p G1 H1 s1 r1 hx post1 => ?_
  obtain ⟨k, e, post2⟩ := post_lift post1
  exact ⟨k, bool_at hx e, Post.ok post2 r1 (.bl _)⟩
theorem se_if {t : TT} {ta tb : TE} {q : M Bool} {a b : M D} (hq : ST c E t q) (ha : SE c E ta a) (hb : SE c E tb b) : SE c E (tIf t ta tb) (mif q a b) := by
  intro G0 H0 G H σ l pot rl Q post
  refine Sn.go hq rl post fun x dx p G1 H1 s1 r1 hx post1 => ?_
  subst hx
  cases x with
  | true => rw [if_pos rfl]; exact ha _ _ _ _ _ _ _ r1 Q post1
  | false => rw [if_neg Bool.false_ne_true]; exact hb _ _ _ _ _ _ _ r1 Q post1
/-- truth -/
def truOf : D → Option Bool
  | .non => some false
  | .bl b => some b
  | .int i => some (i != 0)
  | .lst ds => some (!ds.isEmpty)
  | .tup ds => some (!ds.isEmpty)
  | _ => none
theorem isEmpty_at {P : Addr} {G : Hp} {vs : List V} {ds : List D} (a : AtL P G vs ds) : vs.isEmpty = ds.isEmpty := by
  cases a <;> rfl
theorem tru_at {K : PySem.W.Frag} {P : Addr} {G H : Hp} {x : V} {d : D} {b : Bool} (gh : Ex G H) (h : At P G x d) (e : truOf d = some b) : TruV K x H b := by
  cases h with
  | non => cases e; rfl
  | bl b => cases e; rfl
  | int i => cases e; rfl
  | lst h a => cases e; exact .inl ⟨_, .inl (.inl (gh _ _ h)), by rw [isEmpty_at a]⟩
  | tup h a => cases e; exact .inr (.inl ⟨_, .inl (.inl (gh _ _ h)), by rw [isEmpty_at a]⟩)
  | _ => cases e
def mtru (a : M D) : M Bool := mbind a fun x => mlift (truOf x)
theorem st_tru {t : TE} {a : M D} (ha : SE c E t a) : ST c E (fun σ H Q => t σ H fun x H' => ∃ k, TruV c.K x H' k ∧ Q k H') (mtru a) := by
  intro G0 H0 G H σ l pot rl Q post
  refine Sn.go ha rl post fun x dx p G1 H1 s1 r1 hx post1 => ?_
  cases e : truOf dx with
  | none => rw [e] at post1; exact post1.elim
  | some b =>
    rw [e] at post1
    exact ⟨b, tru_at r1.stp.gh hx e, Post.ok post1 r1 rfl⟩

def rLenS (K : PySem.W.Frag) : List V → Hp → VK → Prop := fun xs H Q => ∃ p ys, xs = [.ref p] ∧ (SqL K H p ys ∨ SqT K H p ys) ∧ Q (.int ys.length) H
def fLen : List D → Option D
  | [.lst ds] => some (.int ds.length)
  | [.tup ds] => some (.int ds.length)
  | _ => none
theorem sn_len : SN c (rLenS c.K) fLen := ⟨fun G H xs ds d gh _ hx e => by
  cases hx with
  | nil => cases e
  | cons h t =>
    cases h with
    | lst h a =>
      cases t with
      | nil => cases e; exact ops_pure gh (.int _) fun Q q => ⟨_, _, rfl, .inl (.inl (.inl (gh _ _ h))), by rw [AtL.length a]; exact q⟩
      | cons _ _ => cases e
    | tup h a =>
      cases t with
      | nil => cases e; exact ops_pure gh (.int _) fun Q q => ⟨_, _, rfl, .inr (.inl (.inl (gh _ _ h))), by rw [AtL.length a]; exact q⟩
      | cons _ _ => cases e
    | _ => cases e⟩
theorem atl1 {P : Addr} {G : Hp} {xs : List V} {d : D} (h : AtL P G xs [d]) : ∃ x, xs = [x] ∧ At P G x d := by
  cases h with
  | cons h t => cases t; exact ⟨_, rfl, h⟩
theorem atl2 {P : Addr} {G : Hp} {xs : List V} {d e : D} (h : AtL P G xs [d, e]) : ∃ x y, xs = [x, y] ∧ At P G x d ∧ At P G y e := by
  cases h with
  | cons h t => obtain ⟨y, rfl, hy⟩ := atl1 t; exact ⟨_, _, rfl, h, hy⟩
theorem at_int {P : Addr} {G : Hp} {x : V} {i : Int} (h : At P G x (.int i)) : x = .int i := by cases h; rfl
theorem at_bl {P : Addr} {G : Hp} {x : V} {i : Bool} (h : At P G x (.bl i)) : x = .bl i := by cases h; rfl
theorem at_lst {P : Addr} {G : Hp} {x : V} {ds : List D} (h : At P G x (.lst ds)) : ∃ p vs, x = .ref p ∧ G p = some (.lst vs) ∧ AtL P G vs ds := by cases h; exact ⟨_, _, rfl, by assumption, by assumption⟩
theorem at_tup {P : Addr} {G : Hp} {x : V} {ds : List D} (h : At P G x (.tup ds)) : ∃ p vs, x = .ref p ∧ G p = some (.tup vs) ∧ AtL P G vs ds := by cases h; exact ⟨_, _, rfl, by assumption, by assumption⟩
def fMax2 : List D → Option D
  | [.int i, .int j] => some (.int (if j > i then j else i))
  | _ => none
def fMin2 : List D → Option D
  | [.int i, .int j] => some (.int (if j < i then j else i))
  | _ => none
theorem sn_max2 : SN c (fun xs H Q => ∃ i j, xs = [.int i, .int j] ∧ Q (.int (if j > i then j else i)) H) fMax2 := ⟨fun G H xs ds d gh _ hx e => by
  unfold fMax2 at e
  split at e
  · obtain ⟨x, y, rfl, hx, hy⟩ := atl2 hx
    rw [at_int hx, at_int hy]
    cases e
    exact ops_pure gh (.int _) fun Q q => ⟨_, _, rfl, q⟩
  · cases e⟩
theorem sn_min2 : SN c (fun xs H Q => ∃ i j, xs = [.int i, .int j] ∧ Q (.int (if j < i then j else i)) H) fMin2 := ⟨fun G H xs ds d gh _ hx e => by
  unfold fMin2 at e
  split at e
  · obtain ⟨x, y, rfl, hx, hy⟩ := atl2 hx
    rw [at_int hx, at_int hy]
    cases e
    exact ops_pure gh (.int _) fun Q q => ⟨_, _, rfl, q⟩
  · cases e⟩
def fAbs : List D → Option D
  | [.int i] => some (.int (if i < 0 then -i else i))
  | _ => none
def fInt : List D → Option D
  | [.int i] => some (.int i)
  | [.bl b] => some (.int (if b then 1 else 0))
  | _ => none
theorem sn_int : SN c (fun xs H Q => (∃ i, xs = [.int i] ∧ Q (.int i) H) ∨ ∃ k, xs = [.bl k] ∧ Q (.int (if k then 1 else 0)) H) fInt := ⟨fun G H xs ds d gh _ hx e => by
  unfold fInt at e
  split at e
  · obtain ⟨x, rfl, hx1⟩ := atl1 hx
    rw [at_int hx1]
    cases e
    exact ops_pure gh (.int _) fun Q q => .inl ⟨_, rfl, q⟩
  · obtain ⟨x, rfl, hx1⟩ := atl1 hx
    rw [at_bl hx1]
    cases e
    exact ops_pure gh (.int _) fun Q q => .inr ⟨_, rfl, q⟩
  · cases e⟩
def fTuple : List D → Option D
  | [.lst ds] => some (.tup ds)
  | [.tup ds] => some (.tup ds)
  | _ => none
theorem sn_tuple : SN c (fun xs H Q => ∃ p ys, xs = [.ref p] ∧ ((SqL c.K H p ys ∧ ∀ l, H l = none → Q (.ref l) (upd H l (.tup ys))) ∨ (SqT c.K H p ys ∧ Q (.ref p) H))) fTuple := ⟨fun G H xs ds d gh hP hx e => by
  unfold fTuple at e
  split at e
  · obtain ⟨x, rfl, hx1⟩ := atl1 hx
    obtain ⟨p, vs, rfl, h, a⟩ := at_lst hx1
    cases e
    exact ops_new _ gh hP (fun q hq => at_new_t gh hq a) fun Q k => ⟨p, vs, rfl, .inl ⟨.inl (.inl (gh _ _ h)), k⟩⟩
  · obtain ⟨x, rfl, hx1⟩ := atl1 hx
    obtain ⟨p, vs, rfl, h, a⟩ := at_tup hx1
    cases e
    exact ops_pure gh (.tup h a) fun Q k => ⟨p, vs, rfl, .inr ⟨.inl (.inl (gh _ _ h)), k⟩⟩
  · cases e⟩
/-- the ints of a list -/
def intsOf : List D → Option (List Int)
  | [] => some []
  | .int i :: ds => (intsOf ds).map (i :: ·)
  | _ :: _ => none
theorem ints_at {P : Addr} {G : Hp} : ∀ {vs : List V} {ds : List D} {ns : List Int}, AtL P G vs ds → intsOf ds = some ns → vs = ns.map V.int
  | _, [], _, h, e => by cases h; cases e; rfl
  | _, d :: ds, ns, h, e => by
    cases h with
    | cons h t =>
      unfold intsOf at e
      split at e
      · cases ‹_ :: _ = []›
      · rename_i i ds' q
        cases q
        cases h
        cases e1 : intsOf ds with
        | none => rw [e1] at e; cases e
        | some ms => rw [e1] at e; cases e; rw [ints_at t e1]; rfl
      · cases e
def minL : Int → List Int → Int
  | m, [] => m
  | m, n :: ns => minL (if n < m then n else m) ns
def maxL : Int → List Int → Int
  | m, [] => m
  | m, n :: ns => maxL (if m < n then n else m) ns
theorem minL_le : ∀ (ns : List Int) (m : Int), minL m ns ≤ m ∧ ∀ y ∈ ns, minL m ns ≤ y
  | [], m => ⟨Int.le_refl _, fun _ h => nomatch h⟩
  | n :: ns, m => by
    obtain ⟨h1, h2⟩ := minL_le ns (if n < m then n else m)
    unfold minL
    refine ⟨?_, fun y hy => ?_⟩
    · split at h1 <;> rename_i z
      · rw [if_pos z] at *; omega
      · rw [if_neg z] at *; omega
    · rcases List.mem_cons.mp hy with rfl | hy
      · split at h1 <;> rename_i z
        · rw [if_pos z] at *; omega
        · rw [if_neg z] at *; omega
      · exact h2 y hy
theorem minL_mem : ∀ (ns : List Int) (m : Int), minL m ns ∈ m :: ns
  | [], m => List.mem_cons_self
  | n :: ns, m => by
    have h := minL_mem ns (if n < m then n else m)
    unfold minL
    split at h
    · rename_i z
      rw [if_pos z]
      exact List.mem_cons_of_mem _ h
    · rename_i z
      rw [if_neg z]
      rcases List.mem_cons.mp h with e | h
      · rw [e]; exact List.mem_cons_self
      · exact List.mem_cons_of_mem _ (List.mem_cons_of_mem _ h)
theorem le_maxL : ∀ (ns : List Int) (m : Int), m ≤ maxL m ns ∧ ∀ y ∈ ns, y ≤ maxL m ns
  | [], m => ⟨Int.le_refl _, fun _ h => nomatch h⟩
  | n :: ns, m => by
    obtain ⟨h1, h2⟩ := le_maxL ns (if m < n then n else m)
    unfold maxL
    refine ⟨?_, fun y hy => ?_⟩
    · split at h1 <;> rename_i z
      · rw [if_pos z] at *; omega
      · rw [if_neg z] at *; omega
    · rcases List.mem_cons.mp hy with rfl | hy
      · split at h1 <;> rename_i z
        · rw [if_pos z] at *; omega
        · rw [if_neg z] at *; omega
      · exact h2 y hy
theorem maxL_mem : ∀ (ns : List Int) (m : Int), maxL m ns ∈ m :: ns
  | [], m => List.mem_cons_self
  | n :: ns, m => by
    have h := maxL_mem ns (if m < n then n else m)
    unfold maxL
    split at h
    · rename_i z
      rw [if_pos z]
      exact List.mem_cons_of_mem _ h
    · rename_i z
      rw [if_neg z]
      rcases List.mem_cons.mp h with e | h
      · rw [e]; exact List.mem_cons_self
      · exact List.mem_cons_of_mem _ (List.mem_cons_of_mem _ h)
def leastOf : List Int → Option D
  | [] => none
  | n :: ns => some (.int (minL n ns))
def mostOf : List Int → Option D
  | [] => none
  | n :: ns => some (.int (maxL n ns))
def fMinL : List D → Option D
  | [.lst ds] => (intsOf ds).bind leastOf
  | _ => none
def fMaxL : List D → Option D
  | [.lst ds] => (intsOf ds).bind mostOf
  | _ => none
theorem sn_minL : SN c (rMin c.K) fMinL := ⟨fun G H xs ds d gh _ hx e => by
  unfold fMinL at e
  split at e
  · obtain ⟨x, rfl, hx1⟩ := atl1 hx
    obtain ⟨p, vs, rfl, h, a⟩ := at_lst hx1
    rename_i es
    cases e1 : intsOf es with
    | none => rw [e1] at e; cases e
    | some ns =>
      rw [e1] at e
      have ev := ints_at a e1
      subst ev
      cases ns with
      | nil => cases e
      | cons n ns =>
        cases e
        refine ops_pure gh (.int _) fun Q q => ⟨p, n :: ns, rfl, .inl (.inl (gh _ _ h)), Nat.succ_pos _, fun m hm hl => ?_⟩
        have h1 := hl _ (minL_mem ns n)
        have h2 : minL n ns ≤ m := by
          rcases List.mem_cons.mp hm with rfl | hm
          · exact (minL_le ns m).1
          · exact (minL_le ns n).2 m hm
        rw [Int.le_antisymm h1 h2]
        exact q
  · cases e⟩
theorem sn_maxL : SN c (rMax c.K) fMaxL := ⟨fun G H xs ds d gh _ hx e => by
  unfold fMaxL at e
  split at e
  · obtain ⟨x, rfl, hx1⟩ := atl1 hx
    obtain ⟨p, vs, rfl, h, a⟩ := at_lst hx1
    rename_i es
    cases e1 : intsOf es with
    | none => rw [e1] at e; cases e
    | some ns =>
      rw [e1] at e
      have ev := ints_at a e1
      subst ev
      cases ns with
      | nil => cases e
      | cons n ns =>
        cases e
        refine ops_pure gh (.int _) fun Q q => ⟨p, n :: ns, rfl, .inl (.inl (gh _ _ h)), Nat.succ_pos _, fun m hm hl => ?_⟩
        have h1 := hl _ (maxL_mem ns n)
        have h2 : m ≤ maxL n ns := by
          rcases List.mem_cons.mp hm with rfl | hm
          · exact (le_maxL ns m).1
          · exact (le_maxL ns n).2 m hm
        rw [Int.le_antisymm h2 h1]
        exact q
  · cases e⟩
end
end Den
namespace Den
open PySem L2
section
variable {c : Cfg} {E : St → XK}
theorem atI_at {P : Addr} {G : Hp} {vs : List V} {ds : List D} {i : Int} {d : D} (a : AtL P G vs ds) (e : atI ds i = some d) : ∃ v, atI vs i = some v ∧ At P G v d := by
  unfold atI at e ⊢
  rw [AtL.length a]
  cases e1 : ixN ds.length i with
  | none => rw [e1] at e; cases e
  | some j =>
    rw [e1] at e
    exact AtL.get a e
def fIx : D → D → Option D
  | .lst ds, .int i => atI ds i
  | .tup ds, .int i => atI ds i
  | _, _ => none
theorem s2_ix : S2 c (rIx c.K) fIx := ⟨fun G H x y dx dy d gh _ hx hy e => by
  unfold fIx at e
  split at e
  · obtain ⟨p, vs, rfl, h, a⟩ := at_lst hx
    obtain ⟨v, e1, av⟩ := atI_at a e
    rw [at_int hy]
    exact ops_pure gh av fun Q q => .inl ⟨p, vs, _, v, rfl, rfl, .inl (.inl (gh _ _ h)), e1, q⟩
  · obtain ⟨p, vs, rfl, h, a⟩ := at_tup hx
    obtain ⟨v, e1, av⟩ := atI_at a e
    rw [at_int hy]
    exact ops_pure gh av fun Q q => .inr (.inl ⟨p, vs, _, v, rfl, rfl, .inl (.inl (gh _ _ h)), e1, q⟩)
  · cases e⟩
def scL : List D → Option (List V)
  | [] => some []
  | d :: ds => match sc d, scL ds with
    | some v, some vs => some (v :: vs)
    | _, _ => none
theorem sc_flat {d : D} {v : V} (e : sc d = some v) : flatV v = true := by
  cases d <;> first | (cases e; rfl) | cases e
theorem scL_at {P : Addr} {G : Hp} : ∀ {vs : List V} {ds : List D} {ws : List V}, AtL P G vs ds → scL ds = some ws → vs = ws ∧ ws.all flatV = true
  | _, [], _, .nil, e => by cases e; exact ⟨rfl, rfl⟩
  | _, d :: ds, ws, .cons h t, e => by
    unfold scL at e
    split at e
    · rename_i v vs e1 e2
      cases e
      obtain ⟨q1, q2⟩ := scL_at t e2
      refine ⟨by rw [sc_at h e1, q1], ?_⟩
      rw [List.all_cons, sc_flat e1, q2]
      rfl
    · cases e
def fInB (neg : Bool) (x y : D) : Option D := match sc x, (seqOf y).bind scL with
  | some v, some vs => some (.bl (if neg then !inV v vs else inV v vs))
  | _, _ => none
theorem s2_in {neg : Bool} : S2 c (rIn c.K neg) (fInB neg) := ⟨fun G H x y dx dy d gh _ hx hy e => by
  unfold fInB at e
  split at e
  · rename_i v vs e1 e2
    cases e
    cases e3 : seqOf dy with
    | none => rw [e3] at e2; cases e2
    | some ds =>
      rw [e3] at e2
      obtain ⟨p, ws, rfl, h, a⟩ := seq_at hy e3
      obtain ⟨q1, q2⟩ := scL_at a e2
      subst q1
      rw [sc_at hx e1]
      exact ops_pure gh (.bl _) fun Q q => ⟨p, ws, rfl, sqLT gh h, sc_flat e1, q2, q⟩
  · cases e⟩

def PostN (c : Cfg) (E : St → XK) (G0 H0 G H : Hp) (σ : St) (l : Loc) : R (List D) → VK → Prop
  | .ok ds p, Q => ∀ q vs G' H', Stp c.B G H G' H' → Rel c G0 H0 G' H' σ l p → H' q = some (.lst vs) → AtL c.P G' vs ds → G' q = none → H q = none → Q (.ref q) H'
  | .err n p, _ => ∀ G' H', Ex G G' → Rel c G0 H0 G' H' σ l p → E σ (.ref (c.ec n)) none H'
  | .bad, _ => False
/-- an expression that makes a new list -/
def SEN (c : Cfg) (E : St → XK) (t : TE) (e : M (List D)) : Prop :=
  ∀ G0 H0 G H σ l pot, Rel c G0 H0 G H σ l pot → ∀ Q : VK, PostN c E G0 H0 G H σ l (e l pot) Q → t σ H Q
theorem PostN.mono {G0 H0 G H G' H' : Hp} {σ : St} {l : Loc} {r : R (List D)} {Q : VK} (p : PostN c E G0 H0 G H σ l r Q) (s : Stp c.B G H G' H') : PostN c E G0 H0 G' H' σ l r Q := by
  cases r with
  | ok b q => exact fun a vs G2 H2 s2 r2 h1 h2 h3 h4 => p a vs G2 H2 (s.trans s2) r2 h1 h2 h3 (s.there _ h4)
  | err n q => exact fun G2 H2 e2 r2 => p G2 H2 (s.gg.trans e2) r2
  | bad => exact p
theorem Sn.goN {γ δ : Type} {rel' : Hp → γ → δ → Prop} {G0 H0 G H : Hp} {σ : St} {l : Loc} {pot : List Int} {t1 : St → Hp → (γ → Hp → Prop) → Prop} {e1 : M δ} (h1 : Sn c E rel' t1 e1) (r : Rel c G0 H0 G H σ l pot) {k : δ → M (List D)} {Q : VK} {X : γ → Hp → Prop}
    (post : PostN c E G0 H0 G H σ l (mbind e1 k l pot) Q)
    (h2 : ∀ a b p G' H', Stp c.B G H G' H' → Rel c G0 H0 G' H' σ l p → rel' G' a b → PostN c E G0 H0 G' H' σ l (k b l p) Q → X a H') : t1 σ H X := by
  refine h1 G0 H0 G H σ l pot r _ ?_
  unfold mbind at post
  cases e : e1 l pot with
  | ok b p =>
    rw [e] at post
    exact fun a G' H' s r' ra => h2 a b p G' H' s r' ra (PostN.mono post s)
  | err n p =>
    rw [e] at post
    exact post
  | bad =>
    rw [e] at post
    exact post
theorem Rel.freeze {G0 H0 G H : Hp} {σ : St} {l : Loc} {pot : List Int} {q : Addr} {o : HO} (r : Rel c G0 H0 G H σ l pot) (h : H q = some o) (hq : H0 q = none) (hP : ¬ c.B q) (nc : ∀ (i : Nat) (x : L), l[i]? = some (some x) → owned x = true → σ[i]? ≠ some (some (.ref q))) :
    G q = none → Rel c G0 H0 (upd G q o) H σ l pot := by
  intro hG
  have eg : Ex G (upd G q o) := Ex.new hG
  refine ⟨⟨r.stp.gg.trans eg, fun a u e => ?_, r.stp.keep, r.stp.there, fun a u e => ?_⟩, r.pot, ?_, r.hP, r.len, fun i x e => ?_, r.dist⟩
  · by_cases z : a = q
    · subst z; rw [upd_same] at e; cases e; exact h
    · rw [upd_ne z] at e; exact r.stp.gh a u e
  · by_cases z : a = q
    · subst z; exact .inr hq
    · rw [upd_ne z] at e; exact r.stp.new a u e
  · intro a b; rw [upd_ne (fun z => hP (by rw [← z]; exact b))]; exact r.gP a b
  · have a := r.slot i x e
    have ne := nc i x e
    match ho : σ[i]?, x, a with
    | some (some v), .dat d, a => exact At.mono eg a
    | some (some (.ref p)), .cell ds, ⟨vs, h1, h2, h3, h4⟩ =>
      have np : p ≠ q := fun z => ne rfl (by rw [ho, z])
      exact ⟨vs, h1, AtL.mono eg h2, by rw [upd_ne np]; exact h3, h4⟩
    | some (some (.ref p)), .obj ea C ns ds, ⟨hea, vs, dx, h1, h2, h3, h4, h5⟩ =>
      have np : p ≠ q := fun z => ne rfl (by rw [ho, z])
      exact ⟨hea, vs, dx, h1, AtL.mono eg h2, by rw [upd_ne np]; exact h3, h4, h5⟩
/-- no own slot is at an address that is free -/
theorem Rel.own_ne {G0 H0 G H : Hp} {σ : St} {l : Loc} {pot : List Int} {q : Addr} (r : Rel c G0 H0 G H σ l pot) (h : H q = none) : ∀ (i : Nat) (x : L), l[i]? = some (some x) → owned x = true → σ[i]? ≠ some (some (.ref q)) := fun i x e ho z => by
  have a := r.slot i x e
  rw [z] at a
  cases x with
  | dat d => cases ho
  | cell ds => obtain ⟨vs, h1, _⟩ := a; rw [h] at h1; cases h1
  | obj ea C ns ds => obtain ⟨_, vs, dx, h1, _⟩ := a; rw [h] at h1; cases h1
def mfreeze (a : M (List D)) : M D := mbind a fun ds => mret (.lst ds)
theorem se_new {t : TE} {e : M (List D)} (h : SEN c E t e) : SE c E t (mfreeze e) := by
  intro G0 H0 G H σ l pot r Q post
  refine h G0 H0 G H σ l pot r Q ?_
  unfold mfreeze mbind at post
  cases e1 : e l pot with
  | bad => rw [e1] at post; exact post
  | err n p => rw [e1] at post; exact post
  | ok ds p =>
    rw [e1] at post
    intro q vs G' H' s r' h1 h2 h3 h4
    have h0 : H0 q = none := r.stp.there q h4
    have hP : ¬ c.B q := fun z => r.hP q z h0
    have r2 : Rel c G0 H0 (upd G' q (.lst vs)) H' σ l p := Rel.freeze r' h1 h0 hP (fun i x e ho => r.own_ne h4 i x e ho) h3
    exact post (.ref q) _ H' ⟨s.gg.trans (Ex.new h3), r2.stp.gh, s.keep, s.there, fun a u e => by
      by_cases z : a = q
      · subst z; exact .inr h4
      · rw [upd_ne z] at e; exact s.new a u e⟩ r2 (.lst upd_same (AtL.mono (Ex.new h3) h2))

/-- a list display, a tuple display -/
def mshort (a : M (List D)) : M (List D) := mbind a fun ds => if ds.length ≤ 1000 then mret ds else fun _ _ => .bad
def mtupd (a : M (List D)) : M D := mbind (mshort a) fun ds => mret (.tup ds)
theorem sz1000 {n : Nat} (h : n ≤ 1000) : n ≤ sizeLine := Nat.le_trans h (by decide)
theorem sen_of {G0 H0 G H : Hp} {σ : St} {l : Loc} {pot : List Int} {vs : List V} {ds : List D} {Q : VK} (r : Rel c G0 H0 G H σ l pot) (a : AtL c.P G vs ds) (post : PostN c E G0 H0 G H σ l (.ok ds pot) Q) (p : Addr) (hp : H p = none) : Q (.ref p) (upd H p (.lst vs)) := by
  have s : Stp c.B G H G (upd H p (.lst vs)) := Stp.lay0 r.stp.gh hp
  have hP : ∀ a, c.B a → a ≠ p := fun a b z => r.hp a b (by rw [z]; exact hp)
  have hG : G p = none := by
    cases e : G p with
    | none => rfl
    | some u => have := r.stp.gh p u e; rw [hp] at this; cases this
  exact post p vs G _ s (r.same s fun a b => upd_ne (hP a b)) upd_same a hG hp
theorem sen_lst {t : TA} {a : M (List D)} (ha : SA c E t a) : SEN c E (tLst t) (mshort a) := by
  intro G0 H0 G H σ l pot r Q post
  refine Sn.goN ha r post fun x dx p G1 H1 s1 r1 hx post1 => ?_
  split at post1
  · rename_i z
    exact ⟨by rw [AtL.length hx]; exact sz1000 z, sen_of r1 hx post1⟩
  · exact post1.elim
theorem se_tup {t : TA} {a : M (List D)} (ha : SA c E t a) : SE c E (tTup t) (mtupd a) := by
  intro G0 H0 G H σ l pot r Q post
  refine Sn.go (β := D) (rel := rD c) (Q := Q) ha r (k := fun ds => mbind (if ds.length ≤ 1000 then mret ds else fun _ _ => .bad) fun ds => mret (D.tup ds)) (by unfold mtupd mshort at post; unfold mbind at post ⊢; cases e : a l pot <;> simp only [e, R.bind] at post ⊢ <;> exact post) fun x dx p G1 H1 s1 r1 hx post1 => ?_
  split at post1
  · rename_i z
    refine ⟨by rw [AtL.length hx]; exact sz1000 z, fun q hq => ?_⟩
    have s : Stp c.B G1 H1 (upd G1 q (.tup x)) (upd H1 q (.tup x)) := Stp.lay r1.stp.gh hq
    have hP : ∀ a, c.B a → a ≠ q := fun a b z => r1.hp a b (by rw [z]; exact hq)
    exact post1 _ _ _ s (r1.same s fun a b => upd_ne (hP a b)) (at_new_t r1.stp.gh hq hx)
  · exact post1.elim
/-- list(x), new -/
def fSeq1 : List D → Option (List D)
  | [d] => seqOf d
  | _ => none
def mlistN (a : M (List D)) : M (List D) := mbind a fun ds => mlift (fSeq1 ds)
theorem sen_list {t : TA} {a : M (List D)} (ha : SA c E t a) : SEN c E (tCB (fun xs H Q => ∃ p ys, xs = [.ref p] ∧ (SqL c.K H p ys ∨ SqT c.K H p ys) ∧ ∀ l, H l = none → Q (.ref l) (upd H l (.lst ys))) t) (mlistN a) := by
  intro G0 H0 G H σ l pot r Q post
  refine Sn.goN ha r post fun x dx p G1 H1 s1 r1 hx post1 => ?_
  cases e : fSeq1 dx with
  | none => rw [e] at post1; exact post1.elim
  | some es =>
    rw [e] at post1
    unfold fSeq1 at e
    split at e
    · obtain ⟨y, rfl, hy⟩ := atl1 hx
      obtain ⟨q, vs, rfl, h, a⟩ := seq_at hy e
      exact ⟨q, vs, rfl, sqLT r1.stp.gh h, sen_of r1 a post1⟩
    · cases e
/-- xs + ys of lists; xs * k -/
def fCat : D → D → Option D
  | .lst a, .lst b => if a.length + b.length ≤ 1000 then some (.lst (a ++ b)) else none
  | _, _ => none
theorem s2_cat : S2 c rCat fCat := ⟨fun G H x y dx dy d gh hP hx hy e => by
  unfold fCat at e
  split at e
  · split at e
    · rename_i z
      obtain ⟨p, vs, rfl, h, a⟩ := at_lst hx
      obtain ⟨q, ws, rfl, h', b⟩ := at_lst hy
      cases e
      exact ops_new _ gh hP (fun u hu => at_new_l gh hu (AtL.append a b)) fun Q k => ⟨p, q, vs, ws, rfl, rfl, gh _ _ h, gh _ _ h', by rw [AtL.length a, AtL.length b]; exact sz1000 z, k⟩
    · cases e
  · cases e⟩
def fRep : D → D → Option D
  | .lst [d], .int k => if 0 ≤ k ∧ k ≤ 1000 then some (.lst (List.replicate k.toNat d)) else none
  | _, _ => none
theorem atl_rep {P : Addr} {G : Hp} {v : V} {d : D} (h : At P G v d) : ∀ n, AtL P G (List.replicate n v) (List.replicate n d)
  | 0 => .nil
  | n + 1 => .cons h (atl_rep h n)
theorem rep_flat {α : Type} (v : α) : ∀ n, (List.replicate n [v]).flatten = List.replicate n v
  | 0 => rfl
  | n + 1 => by rw [List.replicate_succ, List.flatten_cons, rep_flat v n]; rfl
theorem s2_rep : S2 c rRep fRep := ⟨fun G H x y dx dy d gh hP hx hy e => by
  unfold fRep at e
  split at e
  · split at e
    · rename_i z
      obtain ⟨p, vs, rfl, h, a⟩ := at_lst hx
      obtain ⟨v, rfl, hv⟩ := atl1 a
      rw [at_int hy]
      cases e
      refine ops_new (.lst (List.replicate _ v)) gh hP (fun u hu => at_new_l gh hu (atl_rep hv _)) fun Q k => ⟨p, _, [v], rfl, rfl, gh _ _ h, by omega, by omega, ?_, ?_⟩
      · show 1 * _ ≤ sizeLine
        refine sz1000 ?_
        omega
      · rw [rep_flat]
        exact k
    · cases e
  · cases e⟩

abbrev SO (c : Cfg) (E : St → XK) (t : TO) (e : M (Option Int)) : Prop := Sn c E (fun _ (a b : Option Int) => a = b) t e
def onone : M (Option Int) := mret none
def intOf : D → Option Int
  | .int i => some i
  | _ => none
def osome (a : M D) : M (Option Int) := mbind a fun d => mlift ((intOf d).map some)
theorem so_none : SO c E tNoPart onone := fun G0 H0 G H σ l pot r Q post => Post.ok post r rfl
theorem so_some {t : TE} {a : M D} (ha : SE c E t a) : SO c E (tPart t) (osome a) := by
  intro G0 H0 G H σ l pot r Q post
  refine Sn.go ha r post fun x dx p G1 H1 s1 r1 hx post1 => ?_
  cases dx with
  | int i => rw [at_int hx]; exact ⟨i, rfl, Post.ok post1 r1 rfl⟩
  | _ => exact post1.elim
def cutD (xs : List D) (lo hi : Option Int) : List D := (xs.drop (HT.sIx xs.length 0 lo)).take (HT.sIx xs.length xs.length hi - HT.sIx xs.length 0 lo)
theorem cut_at {P : Addr} {G : Hp} {vs : List V} {ds : List D} (a : AtL P G vs ds) (lo hi : Option Int) : AtL P G (cutV vs lo hi) (cutD ds lo hi) := by
  unfold cutV cutD
  rw [AtL.length a]
  exact AtL.take _ (AtL.drop _ a)
def lstOf : D → Option (List D)
  | .lst ds => some ds
  | _ => none
def mcut (a : M D) (lo hi : M (Option Int)) : M (List D) := mbind a fun d => mbind lo fun i => mbind hi fun j => mlift ((lstOf d).map fun ds => cutD ds i j)
theorem sen_cut {t : TE} {tl th : TO} {a : M D} {lo hi : M (Option Int)} (ha : SE c E t a) (hl : SO c E tl lo) (hh : SO c E th hi) : SEN c E (tSl (rSlL c.K) t tl th) (mcut a lo hi) := by
  intro G0 H0 G H σ l pot r Q post
  refine Sn.goN ha r post fun x dx p G1 H1 s1 r1 hx post1 => ?_
  refine Sn.goN hl r1 post1 fun i di p2 G2 H2 s2 r2 hi post2 => ?_
  refine Sn.goN hh r2 post2 fun j dj p3 G3 H3 s3 r3 hj post3 => ?_
  subst hi hj
  cases dx with
  | lst ds =>
    obtain ⟨q, vs, rfl, h, a⟩ := at_lst (At.mono (s2.gg.trans s3.gg) hx)
    exact ⟨q, vs, rfl, .inl (.inl (r3.stp.gh _ _ h)), sen_of r3 (cut_at a i j) post3⟩
  | _ => exact post3.elim

abbrev RF := List D → List Int → R D
def spD (c : Cfg) (f : RF) : Sp := fun vs H Q E => ∃ G ds pot, AtL c.P G vs ds ∧ Ex G H ∧ (∀ a, c.B a → G a = none) ∧ c.inv pot H ∧ (match f ds pot with
  | .ok d p => ∀ v G' H', Stp c.B G H G' H' → c.inv p H' → At c.P G' v d → Q v H'
  | .err m p => ∀ H', Stp c.B G H G H' → c.inv p H' → E (.ref (c.ec m)) none H'
  | .bad => False)
def mcall (f : RF) (a : M (List D)) : M D := mbind a fun ds _ p => f ds p
theorem spD_of {f : RF} {G0 H0 G H : Hp} {σ : St} {l : Loc} {pot : List Int} {Q : VK} {vs : List V} {ds : List D} (r : Rel c G0 H0 G H σ l pot) (a : AtL c.P G vs ds)
    (post : Post c E (rD c) G0 H0 G H σ l (f ds pot) Q) : spD c f vs H Q (E σ) := by
  refine ⟨G, ds, pot, a, r.stp.gh, r.gP, r.pot, ?_⟩
  cases e : f ds pot with
  | ok d p =>
    rw [e] at post
    exact fun v G' H' s hp av => post v G' H' s (r.step s hp) av
  | err m p =>
    rw [e] at post
    exact fun H' s hp => post G H' (Ex.refl G) (r.step s hp)
  | bad =>
    rw [e] at post
    exact post
theorem se_call {f : RF} {t : TA} {a : M (List D)} (ha : SA c E t a) : SE c E (tCallS (spD c f) E t) (mcall f a) := by
  intro G0 H0 G H σ l pot r Q post
  refine Sn.go ha r post fun x dx p G1 H1 s1 r1 hx post1 => ?_
  exact spD_of r1 hx post1
end
end Den
namespace Den
open PySem L2
section
variable {X : Cx}
def rSetI (K : PySem.W.Frag) (w : World) : List V → Hp → VK → Prop := fun xs H Q => ∃ (p : Addr) (ns : List Int), xs = [.ref p] ∧ SqT K H p (ns.map V.int) ∧ ns.length ≤ 1000 ∧
  ∀ q n, H q = none → n ≤ ns.length → Q (.ref q) (upd H q (SetO w q (fun j => decide (j ∈ ns)) n))
theorem cr_setI (hc : X.calm = true) : CallR X (.type "set") (rSetI X.K X.w) := by
  intro pins s σ H xs us Q I r h
  obtain ⟨p, ns, rfl, hs, hl, q⟩ := h
  obtain ⟨its, rv, ht, hz⟩ := I.tuple hs
  rw [Vals.ref1 r]
  refine call_set_tupI ns (I.ok.hd hc) ht (by simpa using ints_of_vals rv) (Nat.lt_of_le_of_lt (Nat.succ_le_succ hl) (by decide +kernel)) fun h' tk n R hn k => ?_
  have hnw : H s.heap.objs.size = none := I.hok.fresh (Nat.le_refl _)
  exact ⟨.ref _, _, I.laid (t' := tk) k (Nat.le_refl _) (setO_new R), rfl, q _ n hnw hn⟩
end
def insS (k : Int) : List Int → List Int
  | [] => [k]
  | n :: ns => if k < n then k :: n :: ns else if k = n then n :: ns else n :: insS k ns
def sortSet : List Int → List Int
  | [] => []
  | n :: ns => insS n (sortSet ns)
theorem mem_insS {k j : Int} : ∀ {ns : List Int}, j ∈ insS k ns ↔ j = k ∨ j ∈ ns
  | [] => by simp [insS]
  | n :: ns => by
    unfold insS
    split
    · simp
    · split
      · rename_i h; subst h; simp
      · simp only [List.mem_cons, mem_insS (ns := ns)]
        constructor
        · rintro (h | h | h) <;> simp [h]
        · rintro (h | h | h) <;> simp [h]
theorem mem_sortSet {j : Int} : ∀ {ns : List Int}, j ∈ sortSet ns ↔ j ∈ ns
  | [] => Iff.rfl
  | n :: ns => by unfold sortSet; rw [mem_insS, mem_sortSet (ns := ns), List.mem_cons]
theorem insS_srt {k : Int} : ∀ {ns : List Int}, ns.Pairwise (· < ·) → (insS k ns).Pairwise (· < ·)
  | [], _ => by simp [insS]
  | n :: ns, h => by
    unfold insS
    cases h with
    | cons h1 h2 =>
      split
      · rename_i z
        exact .cons (fun a ha => by
          rcases List.mem_cons.mp ha with rfl | ha
          · exact z
          · exact Int.lt_trans z (h1 a ha)) (.cons h1 h2)
      · split
        · exact .cons h1 h2
        · rename_i z1 z2
          exact .cons (fun a ha => by
            rcases mem_insS.mp ha with rfl | ha
            · omega
            · exact h1 a ha) (insS_srt h2)
theorem sortSet_srt : ∀ (ns : List Int), (sortSet ns).Pairwise (· < ·)
  | [] => .nil
  | n :: ns => insS_srt (sortSet_srt ns)
theorem srt_eq : ∀ {a b : List Int}, a.Pairwise (· < ·) → b.Pairwise (· < ·) → (∀ k : Int, k ∈ a ↔ k ∈ b) → a = b
  | [], [], _, _, _ => rfl
  | [], y :: ys, _, _, h => absurd ((h y).mpr List.mem_cons_self) (fun z => nomatch z)
  | x :: xs, [], _, _, h => absurd ((h x).mp List.mem_cons_self) (fun z => nomatch z)
  | x :: xs, y :: ys, .cons h1 h2, .cons g1 g2, h => by
    have exy : x = y := by
      rcases List.mem_cons.mp ((h x).mp List.mem_cons_self) with e | e
      · exact e
      · rcases List.mem_cons.mp ((h y).mpr List.mem_cons_self) with e' | e'
        · exact e'.symm
        · have := g1 x e; have := h1 y e'; omega
    subst exy
    rw [srt_eq h2 g2 fun k => ?_]
    constructor
    · intro hk
      rcases List.mem_cons.mp ((h k).mp (List.mem_cons_of_mem _ hk)) with e | e
      · subst e; exact absurd (h1 k hk) (Int.lt_irrefl _)
      · exact e
    · intro hk
      rcases List.mem_cons.mp ((h k).mpr (List.mem_cons_of_mem _ hk)) with e | e
      · subst e; exact absurd (g1 k hk) (Int.lt_irrefl _)
      · exact e
def fSortSet : D → Option D
  | .tup ds => (intsOf ds).bind fun ns => if ns.length < 64 then some (.lst ((sortSet ns).map .int)) else none
  | _ => none
section
variable {c : Cfg} {E : St → XK}
theorem se_sortSet {w : World} {t : TE} {a : M D} (ha : SE c E t a) : SE c E (tCB (rSortedSet w) (tCons (tCB (rSetI c.K w) (tCons t tNil)) tNil)) (op1 fSortSet a) := by
  intro G0 H0 G H σ l pot r Q post
  show t σ H (fun v H1 => rSetI c.K w [v] H1 fun u H2 => rSortedSet w [u] H2 Q)
  refine Sn.go ha r post fun x dx p G1 H1 s1 r1 hx post1 => ?_
  cases dx with
  | tup ds =>
    obtain ⟨q, vs, rfl, h, a⟩ := at_tup hx
    cases e : intsOf ds with
    | none => simp only [fSortSet, e] at post1; exact post1.elim
    | some ns =>
      have ev := ints_at a e
      subst ev
      by_cases z : ns.length < 64
      · simp only [fSortSet, e, Option.bind_some, if_pos z] at post1
        refine ⟨q, ns, rfl, .inl (.inl (r1.stp.gh _ _ h)), by omega, fun u n hu hn => ?_⟩
        have s2 : Stp c.B G1 H1 G1 (upd H1 u (SetO w u (fun j => decide (j ∈ ns)) n)) := Stp.lay0 r1.stp.gh hu
        have hP : ∀ a, c.B a → a ≠ u := fun a b z => r1.hp a b (by rw [z]; exact hu)
        have r2 := r1.step s2 (c.ext (fun a b => upd_ne (hP a b)) r1.pot)
        refine ⟨u, _, n, rfl, upd_same, by omega, fun ms y hm hk _ hy => ?_⟩
        have em : ms = sortSet ns := srt_eq hm (sortSet_srt ns) fun k => by rw [hk, mem_sortSet]; simp
        subst em
        have hPy : ∀ a, c.B a → a ≠ y := fun a b z => r2.hp a b (by rw [z]; exact hy)
        have s3 := Stp.lay (B := c.B) (o := .lst ((sortSet ns).map V.int)) r2.stp.gh hy
        exact post1 _ _ _ (s2.trans s3) (r2.step s3 (c.ext (fun a b => upd_ne (hPy a b)) r2.pot)) (at_new_l r2.stp.gh hy AtL.ints)
      · simp only [fSortSet, e, Option.bind_some, if_neg z] at post1
        exact post1.elim
  | _ => exact post1.elim

/-- what is known of an own class -/
structure ClsF (K : PySem.W.Frag) (C : Addr) : Prop where
  cl : Cls K C
  ha : PySem.W.findIn K (.ref C) "__class__" = some (some (.builtin "object.__class__"))
  hn : PySem.W.specialIn K (.builtin "object.__class__") "__get__" = some (some (.builtin "getset_descriptor.__get__"))
  htk : PySem.W.takesIn K (.builtin "object.__class__") = some true
  hm : PySem.W.mroIn K C (.type "object") = some true
  self : PySem.W.kitOne K (.ref C) (.ref C) = some true
  nl : PySem.W.kitOne K (.type "list") (.ref C) = some false
  nt : PySem.W.kitOne K (.type "tuple") (.ref C) = some false
  ni : PySem.W.kitOne K (.type "int") (.ref C) = some false
  nb : PySem.W.kitOne K (.type "bool") (.ref C) = some false
  ns : PySem.W.kitOne K (.type "str") (.ref C) = some false
  nn : PySem.W.kitOne K (.type "NoneType") (.ref C) = some false
def tyN : D → Option Ty
  | .non => some .non
  | .bl _ => some .bl
  | .int _ => some .int
  | .str _ => some .str
  | .lst _ => some .lst
  | .tup _ => some .tup
  | _ => none
def isTy : Ty → Ty → Bool
  | .non, .non => true
  | .bl, .bl => true
  | .bl, .int => true
  | .int, .int => true
  | .str, .str => true
  | .lst, .lst => true
  | .tup, .tup => true
  | _, _ => false
theorem kit_is (K : PySem.W.Frag) (a b : Ty) : PySem.W.kitOne K (.type a.name) (.type b.name) = some (isTy a b) := by
  cases a <;> cases b <;> exact kit_ty (by decide +kernel)
theorem ty_at {K : PySem.W.Frag} {P : Addr} {G H : Hp} {x : V} {d : D} {n : Ty} (gh : Ex G H) (h : At P G x d) (e : tyN d = some n) : TyX K H x (.type n.name) := by
  cases h with
  | non => cases e; exact .base .non
  | bl b => cases e; exact .base (.bl b)
  | int i => cases e; exact .base (.int i)
  | str s => cases e; exact .base (.str s)
  | lst h a => cases e; exact .base (.lst (gh _ _ h))
  | tup h a => cases e; exact .base (.tup (gh _ _ h))
  | _ => cases e
def fIs1 : List D → Option D
  | [d, .ty t] => (tyN d).map fun n => .bl (isTy n t)
  | _ => none
theorem sn_is1 : SN c (rIsi c.K) fIs1 := ⟨fun G H xs ds d gh _ hx e => by
  unfold fIs1 at e
  split at e
  · obtain ⟨x, y, rfl, hx1, hy⟩ := atl2 hx
    rename_i dx t
    cases e1 : tyN dx with
    | none => rw [e1] at e; cases e
    | some n =>
      rw [e1] at e
      cases e
      cases hy
      exact ops_pure gh (.bl _) fun Q q => ⟨x, .ty t.name, _, _, _, rfl, .ty t.name, ty_at gh hx1 e1, kit_is _ n t, q⟩
  · cases e⟩
def fIs2 : List D → Option D
  | [d, .tup [.ty t, .ty u]] => (tyN d).map fun n => .bl (isTy n t || isTy n u)
  | _ => none
theorem sn_is2 : SN c (rIsiT c.K) fIs2 := ⟨fun G H xs ds d gh _ hx e => by
  unfold fIs2 at e
  split at e
  · obtain ⟨x, y, rfl, hx1, hy⟩ := atl2 hx
    rename_i dx t u
    cases e1 : tyN dx with
    | none => rw [e1] at e; cases e
    | some n =>
      rw [e1] at e
      cases e
      obtain ⟨p, vs, rfl, h, al⟩ := at_tup hy
      obtain ⟨v1, v2, rfl, h1, h2⟩ := atl2 al
      cases h1
      cases h2
      refine ops_pure gh (.bl _) fun Q q => ⟨x, p, _, _, _, _, rfl, gh _ _ h, .cons (.ty _) (.cons (.ty _) .nil), ty_at gh hx1 e1, ?_, q⟩
      refine kitAny_cons (kit_is _ n t) (fun ha => ?_) fun ha => by rw [ha]; rfl
      refine kitAny_cons (kit_is _ n u) (fun hb => ?_) fun hb => by rw [hb]; cases isTy n t <;> rfl
      rw [ha, hb]
      rfl
  · cases e⟩
def fIsC (C : Addr) : List D → Option D
  | [d, .cls C'] => if C' = C then (match d with
    | .ins C1 _ _ => if C1 = C then some (.bl true) else none
    | d => (tyN d).map fun _ => .bl false) else none
  | _ => none
theorem sn_isC {C : Addr} (F : ClsF c.K C) : SN c (rIsi c.K) (fIsC C) := ⟨fun G H xs ds d gh _ hx e => by
  unfold fIsC at e
  split at e
  · obtain ⟨x, y, rfl, hx1, hy⟩ := atl2 hx
    rename_i dx C'
    split at e
    · rename_i z
      subst z
      cases hy
      have tyCase : ∀ {n : Ty}, tyN dx = some n → PySem.W.kitOne c.K (.type n.name) (.ref C') = some false → d = .bl false → OpS c (rIsi c.K [x, .ref C']) G H d := fun {n : Ty} e1 e2 e3 => by
        subst e3
        exact ops_pure gh (.bl false) fun Q q => ⟨x, .ref C', _, _, false, rfl, .own C', ty_at gh hx1 e1, e2, q⟩
      cases dx with
      | ins C1 ns es =>
        dsimp only at e
        split at e
        · rename_i z
          subst z
          cases e
          cases hx1 with
          | ins h a => exact ops_pure gh (.bl true) fun Q q => ⟨_, .ref C1, _, _, true, rfl, .own C1, .base (.ins (gh _ _ h) F.cl F.ha F.hn F.htk F.hm), F.self, q⟩
        · cases e
      | non => cases e; exact tyCase rfl F.nn rfl
      | bl b => cases e; exact tyCase rfl F.nb rfl
      | int i => cases e; exact tyCase rfl F.ni rfl
      | str s => cases e; exact tyCase rfl F.ns rfl
      | lst l => cases e; exact tyCase rfl F.nl rfl
      | tup l => cases e; exact tyCase rfl F.nt rfl
      | pot => cases e
      | ty n => cases e
      | cls C => cases e
      | dct kvs => cases e
    · cases e
  · cases e⟩
end
end Den
namespace Den
open PySem L2
section
variable {c : Cfg} {E : St → XK}
theorem Rel.set {G0 H0 G H : Hp} {σ : St} {l : Loc} {pot : List Int} {i : Nat} {v : V} {d : D} (r : Rel c G0 H0 G H σ l pot) (a : At c.P G v d) (hi : i < l.length) : Rel c G0 H0 G H (σ.set i (some v)) (l.set i (some (.dat d))) pot := by
  have hσ : i < σ.length := by rw [r.len]; exact hi
  refine ⟨r.stp, r.pot, r.gP, r.hP, by rw [List.length_set, List.length_set, r.len], fun j x e => ?_, fun j k x y e1 e2 o1 o2 ne => ?_⟩
  · by_cases z : j = i
    · subst z
      rw [List.getElem?_set_self hi] at e
      cases e
      rw [List.getElem?_set_self hσ]
      exact a
    · rw [List.getElem?_set_ne (Ne.symm z)] at e ⊢
      exact r.slot j x e
  · have nj : j ≠ i := fun z => by
      subst z
      rw [List.getElem?_set_self hi] at e1
      cases e1
      cases o1
    have nk : k ≠ i := fun z => by
      subst z
      rw [List.getElem?_set_self hi] at e2
      cases e2
      cases o2
    rw [List.getElem?_set_ne (Ne.symm nj)] at e1 ⊢
    rw [List.getElem?_set_ne (Ne.symm nk)] at e2 ⊢
    exact r.dist j k x y e1 e2 o1 o2 ne
theorem Rel.wiped {G0 H0 G H : Hp} {σ : St} {l : Loc} {pot : List Int} {i : Nat} (r : Rel c G0 H0 G H σ l pot) : Rel c G0 H0 G H (σ.set i none) (l.set i none) pot := by
  refine ⟨r.stp, r.pot, r.gP, r.hP, by rw [List.length_set, List.length_set, r.len], fun j x e => ?_, fun j k x y e1 e2 o1 o2 ne => ?_⟩
  · by_cases z : j = i
    · subst z
      by_cases hj : j < l.length
      · rw [List.getElem?_set_self hj] at e
        cases e
      · rw [List.getElem?_eq_none (by simpa using hj)] at e
        cases e
    · rw [List.getElem?_set_ne (Ne.symm z)] at e ⊢
      exact r.slot j x e
  · have nn : ∀ (m : Nat) (x : L), (l.set i none)[m]? = some (some x) → m ≠ i := fun m x e z => by
      subst z
      by_cases hj : m < l.length
      · rw [List.getElem?_set_self hj] at e
        cases e
      · rw [List.getElem?_eq_none (by simpa using hj)] at e
        cases e
    have nj := nn j x e1
    have nk := nn k y e2
    rw [List.getElem?_set_ne (Ne.symm nj)] at e1 ⊢
    rw [List.getElem?_set_ne (Ne.symm nk)] at e2 ⊢
    exact r.dist j k x y e1 e2 o1 o2 ne
/-- a new list of one's own goes to a slot -/
theorem Rel.own {G0 H0 G H : Hp} {σ : St} {l : Loc} {pot : List Int} {i : Nat} {p : Addr} {vs : List V} {ds : List D} (r : Rel c G0 H0 G H σ l pot) (h : H p = some (.lst vs)) (a : AtL c.P G vs ds) (hg : G p = none) (h0 : H0 p = none) (nc : ∀ (j : Nat) (x : L), l[j]? = some (some x) → owned x = true → σ[j]? ≠ some (some (.ref p))) (hi : i < l.length) :
    Rel c G0 H0 G H (σ.set i (some (.ref p))) (l.set i (some (.cell ds))) pot := by
  have hσ : i < σ.length := by rw [r.len]; exact hi
  refine ⟨r.stp, r.pot, r.gP, r.hP, by rw [List.length_set, List.length_set, r.len], fun j x e => ?_, fun j k x y e1 e2 o1 o2 ne => ?_⟩
  · by_cases z : j = i
    · subst z
      rw [List.getElem?_set_self hi] at e
      cases e
      rw [List.getElem?_set_self hσ]
      exact ⟨vs, h, a, hg, h0⟩
    · rw [List.getElem?_set_ne (Ne.symm z)] at e ⊢
      exact r.slot j x e
  · by_cases zj : j = i
    · subst zj
      have nk : k ≠ j := fun z => ne z.symm
      rw [List.getElem?_set_ne (Ne.symm nk)] at e2 ⊢
      rw [List.getElem?_set_self hσ]
      exact fun z => nc k y e2 o2 z.symm
    · rw [List.getElem?_set_ne (Ne.symm zj)] at e1 ⊢
      by_cases zk : k = i
      · subst zk
        rw [List.getElem?_set_self hσ]
        exact nc j x e1 o1
      · rw [List.getElem?_set_ne (Ne.symm zk)] at e2 ⊢
        exact r.dist j k x y e1 e2 o1 o2 ne
/-- a list of one's own changes -/
theorem Rel.write {G0 H0 G H : Hp} {σ : St} {l : Loc} {pot : List Int} {i : Nat} {p : Addr} {vs : List V} {ds es : List D} (r : Rel c G0 H0 G H σ l pot) (hc : l[i]? = some (some (.cell es))) (hσ : σ[i]? = some (some (.ref p))) (a : AtL c.P G vs ds) :
    Rel c G0 H0 G (upd H p (.lst vs)) σ (l.set i (some (.cell ds))) pot := by
  have q := r.slot i _ hc
  rw [hσ] at q
  obtain ⟨ws, h1, h2, h3, h4⟩ := q
  have hi : i < l.length := (List.getElem?_eq_some_iff.mp hc).1
  have hP : ∀ a, c.B a → a ≠ p := fun a b z => r.hP a b (by rw [z]; exact h4)
  refine ⟨⟨r.stp.gg, fun b o e => ?_, fun b o e n => ?_, fun b e => ?_, r.stp.new⟩, c.ext (fun a b => upd_ne (hP a b)) r.pot, r.gP, r.hP, by rw [List.length_set, r.len], fun j x e => ?_, fun j k x y e1 e2 o1 o2 ne => ?_⟩
  · rw [upd_ne (fun z => by subst z; rw [h3] at e; cases e)]; exact r.stp.gh b o e
  · rw [upd_ne (fun z => by subst z; rw [h4] at e; cases e)]; exact r.stp.keep b o e n
  · by_cases z : b = p
    · subst z; exact h4
    · rw [upd_ne z] at e; exact r.stp.there b e
  · by_cases z : j = i
    · subst z
      rw [List.getElem?_set_self hi] at e
      cases e
      rw [hσ]
      exact ⟨vs, upd_same, a, h3, h4⟩
    · rw [List.getElem?_set_ne (Ne.symm z)] at e
      have a2 := r.slot j x e
      match ho : σ[j]?, x, a2 with
      | some (some v), .dat d, a2 => exact a2
      | some (some (.ref q)), .cell ds', ⟨ws', g1, g2, g3, g4⟩ =>
        have nq : q ≠ p := fun w => r.dist j i _ _ e hc rfl rfl z (by rw [ho, hσ, w])
        exact ⟨ws', (upd_ne nq).trans g1, g2, g3, g4⟩
      | some (some (.ref q)), .obj ea C ns ds', ⟨hea, ws', dx, g1, g2, g3, g4, g5⟩ =>
        have nq : q ≠ p := fun w => r.dist j i _ _ e hc rfl rfl z (by rw [ho, hσ, w])
        exact ⟨hea, ws', dx, (upd_ne nq).trans g1, g2, g3, g4, g5⟩
  · have back : ∀ (m : Nat) (x : L), (l.set i (some (.cell ds)))[m]? = some (some x) → owned x = true → ∃ y, l[m]? = some (some y) ∧ owned y = true := fun m x e o => by
      by_cases z : m = i
      · subst z; exact ⟨_, hc, rfl⟩
      · rw [List.getElem?_set_ne (Ne.symm z)] at e; exact ⟨x, e, o⟩
    obtain ⟨x', e1', o1'⟩ := back j x e1 o1
    obtain ⟨y', e2', o2'⟩ := back k y e2 o2
    exact r.dist j k x' y' e1' e2' o1' o2' ne
/-- a list of one's own stands from now on -/
theorem Rel.give {G0 H0 G H : Hp} {σ : St} {l : Loc} {pot : List Int} {i : Nat} {ds : List D} (r : Rel c G0 H0 G H σ l pot) (hc : l[i]? = some (some (.cell ds))) :
    ∃ G', Ex G G' ∧ Rel c G0 H0 G' H σ (l.set i (some (.dat (.lst ds)))) pot := by
  have q := r.slot i _ hc
  have hi : i < l.length := (List.getElem?_eq_some_iff.mp hc).1
  cases ho : σ[i]? with
  | none => rw [ho] at q; exact q.elim
  | some o =>
    cases o with
    | none => rw [ho] at q; exact q.elim
    | some v =>
      cases v with
      | ref p =>
        rw [ho] at q
        obtain ⟨vs, h1, h2, h3, h4⟩ := q
        have hP : ¬ c.B p := fun z => r.hP p z h4
        have r1 : Rel c G0 H0 G H σ (l.set i none) pot := by
          refine ⟨r.stp, r.pot, r.gP, r.hP, by rw [List.length_set, r.len], fun j x e => ?_, fun j k x y e1 e2 o1 o2 ne => ?_⟩
          · by_cases z : j = i
            · subst z; rw [List.getElem?_set_self hi] at e; cases e
            · rw [List.getElem?_set_ne (Ne.symm z)] at e; exact r.slot j x e
          · have nn : ∀ (m : Nat) (x : L), (l.set i none)[m]? = some (some x) → m ≠ i := fun m x e z => by
              subst z; rw [List.getElem?_set_self hi] at e; cases e
            have nj := nn j x e1
            have nk := nn k y e2
            rw [List.getElem?_set_ne (Ne.symm nj)] at e1
            rw [List.getElem?_set_ne (Ne.symm nk)] at e2
            exact r.dist j k x y e1 e2 o1 o2 ne
        have r2 := Rel.freeze r1 h1 h4 hP (fun j x e o z => by
          have nj : j ≠ i := fun w => by subst w; rw [List.getElem?_set_self hi] at e; cases e
          rw [List.getElem?_set_ne (Ne.symm nj)] at e
          exact r.dist j i _ _ e hc o rfl nj (by rw [z, ho])) h3
        have r3 := Rel.set (i := i) r2 (v := .ref p) (d := .lst ds) (.lst upd_same (AtL.mono (Ex.new h3) h2)) (by rw [List.length_set]; exact hi)
        have e1 : σ.set i (some (.ref p)) = σ := by
          have hσ : i < σ.length := by rw [r.len]; exact hi
          refine List.ext_getElem? fun j => ?_
          by_cases z : j = i
          · subst z; rw [List.getElem?_set_self hσ, ho]
          · rw [List.getElem?_set_ne (Ne.symm z)]
        rw [e1, List.set_set] at r3
        exact ⟨_, Ex.new h3, r3⟩
      | _ => rw [ho] at q; exact q.elim

inductive O where
  | nx (l : Loc) (p : List Int) | rt (d : D) (p : List Int) | bk (l : Loc) (p : List Int) | ct (l : Loc) (p : List Int) | err (n : Nat) (l : Loc) (p : List Int) | bad
abbrev MS := Loc → List Int → O
def PostS (c : Cfg) (E : St → XK) (G0 H0 G : Hp) (De : Ends) : O → Prop
  | .nx l' p => ∀ G' H' σ', Ex G G' → Rel c G0 H0 G' H' σ' l' p → De.nx σ' H'
  | .rt d p => ∀ v G' H' σ' l', Ex G G' → Rel c G0 H0 G' H' σ' l' p → At c.P G' v d → De.rt v H'
  | .bk l' p => ∀ G' H' σ', Ex G G' → Rel c G0 H0 G' H' σ' l' p → De.bk σ' H'
  | .ct l' p => ∀ G' H' σ', Ex G G' → Rel c G0 H0 G' H' σ' l' p → De.ct σ' H'
  | .err n l' p => ∀ G' H' σ', Ex G G' → Rel c G0 H0 G' H' σ' l' p → E σ' (.ref (c.ec n)) none H'
  | .bad => False
def SS (c : Cfg) (E : St → XK) (ts : TS) (s : MS) : Prop := ∀ G0 H0 G H σ l pot, Rel c G0 H0 G H σ l pot → ∀ De, PostS c E G0 H0 G De (s l pot) → ts De σ H
theorem PostS.mono {G0 H0 G G1 : Hp} {De : Ends} {o : O} (p : PostS c E G0 H0 G De o) (e : Ex G G1) : PostS c E G0 H0 G1 De o := by
  cases o with
  | nx l' q => exact fun G' H' σ' e' r => p G' H' σ' (e.trans e') r
  | rt d q => exact fun v G' H' σ' l' e' r a => p v G' H' σ' l' (e.trans e') r a
  | bk l' q => exact fun G' H' σ' e' r => p G' H' σ' (e.trans e') r
  | ct l' q => exact fun G' H' σ' e' r => p G' H' σ' (e.trans e') r
  | err n l' q => exact fun G' H' σ' e' r => p G' H' σ' (e.trans e') r
  | bad => exact p
def sbind {α : Type} (a : M α) (k : α → MS) : MS := fun l p => match a l p with
  | .ok x p' => k x l p'
  | .err n p' => .err n l p'
  | .bad => .bad
theorem Sn.goS {γ δ : Type} {rel' : Hp → γ → δ → Prop} {G0 H0 G H : Hp} {σ : St} {l : Loc} {pot : List Int} {t1 : St → Hp → (γ → Hp → Prop) → Prop} {e1 : M δ} (h1 : Sn c E rel' t1 e1) (r : Rel c G0 H0 G H σ l pot) {k : δ → MS} {De : Ends} {X : γ → Hp → Prop}
    (post : PostS c E G0 H0 G De (sbind e1 k l pot))
    (h2 : ∀ a b p G' H', Stp c.B G H G' H' → Rel c G0 H0 G' H' σ l p → rel' G' a b → PostS c E G0 H0 G' De (k b l p) → X a H') : t1 σ H X := by
  refine h1 G0 H0 G H σ l pot r _ ?_
  unfold sbind at post
  cases e : e1 l pot with
  | ok b p =>
    rw [e] at post
    exact fun a G' H' s r' ra => h2 a b p G' H' s r' ra (PostS.mono post s.gg)
  | err n p =>
    rw [e] at post
    exact fun G' H' e' r' => post G' H' σ e' r'
  | bad =>
    rw [e] at post
    exact post
theorem PostS.of {G0 H0 G H : Hp} {De : Ends} {σ : St} {l : Loc} {p : List Int} (post : PostS c E G0 H0 G De (.nx l p)) (r : Rel c G0 H0 G H σ l p) : De.nx σ H := post G H σ (Ex.refl G) r
def sskip : MS := fun l p => .nx l p
theorem ss_next : SS c E tNext sskip := fun G0 H0 G H σ l pot r De post => PostS.of post r
def sseq (a b : MS) : MS := fun l p => match a l p with
  | .nx l' p' => b l' p'
  | o => o
theorem ss_seq {t u : TS} {a b : MS} (ha : SS c E t a) (hb : SS c E u b) : SS c E (tSeq t u) (sseq a b) := by
  intro G0 H0 G H σ l pot r De post
  refine ha G0 H0 G H σ l pot r _ ?_
  unfold sseq at post
  cases e : a l pot with
  | nx l' p' =>
    rw [e] at post
    exact fun G' H' σ' e' r' => hb _ _ _ _ _ _ _ r' De (PostS.mono post e')
  | rt d p' => rw [e] at post; exact post
  | bk l' p' => rw [e] at post; exact post
  | ct l' p' => rw [e] at post; exact post
  | err n l' p' => rw [e] at post; exact post
  | bad => rw [e] at post; exact post
def sif (t : M Bool) (a b : MS) : MS := sbind t fun x => if x = true then a else b
theorem ss_if {t : TT} {ta tb : TS} {q : M Bool} {a b : MS} (hq : ST c E t q) (ha : SS c E ta a) (hb : SS c E tb b) : SS c E (tIfS t ta tb) (sif q a b) := by
  intro G0 H0 G H σ l pot r De post
  refine Sn.goS hq r post fun x dx p G1 H1 s1 r1 hx post1 => ?_
  subst hx
  cases x with
  | true => rw [if_pos rfl]; exact ha _ _ _ _ _ _ _ r1 De post1
  | false => rw [if_neg Bool.false_ne_true]; exact hb _ _ _ _ _ _ _ r1 De post1
def sret (a : M D) : MS := sbind a fun x _ p => .rt x p
theorem ss_ret {t : TE} {a : M D} (ha : SE c E t a) : SS c E (tRet t) (sret a) := by
  intro G0 H0 G H σ l pot r De post
  refine Sn.goS ha r post fun x dx p G1 H1 s1 r1 hx post1 => ?_
  exact post1 x G1 H1 σ l (Ex.refl G1) r1 hx
def sdrop (a : M D) : MS := sbind a fun _ l p => .nx l p
theorem ss_drop {t : TE} {a : M D} (ha : SE c E t a) : SS c E (tDrop t) (sdrop a) := by
  intro G0 H0 G H σ l pot r De post
  refine Sn.goS ha r post fun x dx p G1 H1 s1 r1 hx post1 => ?_
  exact PostS.of post1 r1
/-- targets -/
def SG (c : Cfg) (g : TG) (tg : D → Loc → Option Loc) : Prop := ∀ G0 H0 G H σ l l' pot x d, Rel c G0 H0 G H σ l pot → At c.P G x d → tg d l = some l' → ∀ Q : St → Hp → Prop, (∀ σ', Rel c G0 H0 G H σ' l' pot → Q σ' H) → g x σ H Q
def gset (i : Nat) : D → Loc → Option Loc := fun d l => if i < l.length then some (l.set i (some (.dat d))) else none
theorem sg_name {i : Nat} : SG c (gName i) (gset i) := by
  intro G0 H0 G H σ l l' pot x d r a e Q q
  unfold gset at e
  split at e
  · rename_i z
    cases e
    exact q _ (r.set a z)
  · cases e
def gset2 (i j : Nat) : D → Loc → Option Loc := fun d l => match d with
  | .tup [a, b] => (gset i a l).bind (gset j b)
  | _ => none
theorem sg_pair {i j : Nat} : SG c (gTup c.K 2 (gCons (gName i) (gCons (gName j) gNil))) (gset2 i j) := by
  intro G0 H0 G H σ l l' pot x d r a e Q q
  unfold gset2 at e
  split at e
  · rename_i d1 d2
    obtain ⟨p, vs, rfl, h, al⟩ := at_tup a
    obtain ⟨v1, v2, rfl, h1, h2⟩ := atl2 al
    refine ⟨p, _, rfl, .inl (.inl (r.stp.gh _ _ h)), rfl, v1, _, rfl, ?_⟩
    cases e1 : gset i d1 l with
    | none => rw [e1] at e; cases e
    | some l1 =>
      rw [e1] at e
      refine sg_name (c := c) (i := i) G0 H0 G H σ l l1 pot v1 d1 r h1 e1 _ fun σ1 r1 => ⟨v2, _, rfl, ?_⟩
      exact sg_name (c := c) (i := j) G0 H0 G H σ1 l1 l' pot v2 d2 r1 h2 e _ fun σ2 r2 => ⟨rfl, q σ2 r2⟩
  · cases e
def sasg (a : M D) (tg : D → Loc → Option Loc) : MS := sbind a fun x l p => match tg x l with
  | some l' => .nx l' p
  | none => .bad
theorem ss_asg {t : TE} {g : TG} {a : M D} {tg : D → Loc → Option Loc} (ha : SE c E t a) (hg : SG c g tg) : SS c E (tAsg t g) (sasg a tg) := by
  intro G0 H0 G H σ l pot r De post
  refine Sn.goS ha r post fun x dx p G1 H1 s1 r1 hx post1 => ?_
  cases e : tg dx l with
  | none => simp only [e] at post1; exact post1.elim
  | some l' =>
    simp only [e] at post1
    exact hg G0 H0 G1 H1 σ l l' p x dx r1 hx e _ fun σ' r' => PostS.of post1 r'
/-- x = a new list, one's own -/
def sown (a : M (List D)) (i : Nat) : MS := sbind a fun ds l p => if i < l.length then .nx (l.set i (some (.cell ds))) p else .bad
theorem ss_own {t : TE} {a : M (List D)} {i : Nat} (ha : SEN c E t a) : SS c E (tAsg t (gName i)) (sown a i) := by
  intro G0 H0 G H σ l pot r De post
  refine ha G0 H0 G H σ l pot r _ ?_
  unfold sown sbind at post
  cases e : a l pot with
  | bad => rw [e] at post; exact post
  | err n p => rw [e] at post; exact fun G' H' e' r' => post G' H' σ e' r'
  | ok ds p =>
    rw [e] at post
    intro q vs G' H' s r' h1 h2 h3 h4
    dsimp only at post
    split at post
    · rename_i z
      exact PostS.of (PostS.mono post s.gg) (r'.own h1 h2 h3 (r.stp.there q h4) (fun j x e o => r.own_ne h4 j x e o) z)
    · exact post.elim
/-- ahead of a statement: a list of one's own stands from now on -/
def sgive (i : Nat) (s : MS) : MS := fun l p => match l[i]? with
  | some (some (.cell ds)) => s (l.set i (some (.dat (.lst ds)))) p
  | _ => s l p
theorem ss_give {i : Nat} {t : TS} {s : MS} (hs : SS c E t s) : SS c E t (sgive i s) := by
  intro G0 H0 G H σ l pot r De post
  unfold sgive at post
  split at post
  · rename_i ds e
    obtain ⟨G', eg, r'⟩ := r.give e
    exact hs _ _ _ _ _ _ _ r' De (PostS.mono post eg)
  · exact hs _ _ _ _ _ _ _ r De post
/-- xs.append(e), xs one's own -/
def sappend (i : Nat) (a : M D) : MS := fun l p => match l[i]? with
  | some (some (.cell ds)) => if ds.length < 1000 then sbind a (fun x l p => .nx (l.set i (some (.cell (ds ++ [x])))) p) l p else .bad
  | _ => .bad
theorem cell_at {G0 H0 G H : Hp} {σ : St} {l : Loc} {pot : List Int} {i : Nat} {ds : List D} (r : Rel c G0 H0 G H σ l pot) (hc : l[i]? = some (some (.cell ds))) :
    ∃ p vs, σ[i]? = some (some (.ref p)) ∧ H p = some (.lst vs) ∧ AtL c.P G vs ds := by
  have q := r.slot i _ hc
  cases ho : σ[i]? with
  | none => rw [ho] at q; exact q.elim
  | some o =>
    cases o with
    | none => rw [ho] at q; exact q.elim
    | some v =>
      cases v with
      | ref p =>
        rw [ho] at q
        obtain ⟨vs, h1, h2, h3, h4⟩ := q
        exact ⟨p, vs, rfl, h1, h2⟩
      | _ => rw [ho] at q; exact q.elim
theorem ss_append {i : Nat} {t : TE} {a : M D} (ha : SE c E t a) : SS c E (tDrop (tBM c.K "list" rAppend (tVar i) (tCons t tNil))) (sappend i a) := by
  intro G0 H0 G H σ l pot r De post
  unfold sappend at post
  split at post
  · rename_i ds hc
    split at post
    · rename_i z
      obtain ⟨p, vs, hσ, h1, h2⟩ := cell_at r hc
      refine ⟨.ref p, hσ, .inl ⟨rfl, _, .inl (.inl h1)⟩, ?_⟩
      refine Sn.goS ha r post fun x dx p' G1 H1 s1 r1 hx post1 => ?_
      obtain ⟨p2, vs2, hσ2, g1, g2⟩ := cell_at r1 hc
      rw [hσ] at hσ2
      cases hσ2
      refine ⟨p, vs2, x, rfl, rfl, g1, by rw [AtL.length g2]; exact Nat.lt_of_lt_of_le z (by decide), ?_⟩
      exact PostS.of post1 (r1.write hc hσ (AtL.append g2 (.cons hx .nil)))
    · exact post.elim
  · exact post.elim
theorem Stp.pot {B : Addr → Prop} {P : Addr} {G H : Hp} {o : HO} (gh : Ex G H) (hB : B P) (hG : G P = none) (hH : H P ≠ none) : Stp B G H G (upd H P o) := by
  refine ⟨Ex.refl G, fun b u e => ?_, fun b u e n => ?_, fun b e => ?_, fun b u e => .inl e⟩
  · rw [upd_ne (fun z => by subst z; rw [hG] at e; cases e)]; exact gh b u e
  · rw [upd_ne (fun z => n (by rw [z]; exact hB))]; exact e
  · by_cases z : b = P
    · subst z; rw [upd_same] at e; cases e
    · rw [upd_ne z] at e; exact e
def mpop (a : M D) : M D := mbind a fun x l p => match x with
  | .pot => match p[p.length - 1]? with
    | some n => .ok (.int n) p.dropLast
    | none => .bad
  | _ => .bad
theorem se_pop (pc : c.Pot) {t : TE} {a : M D} (ha : SE c E t a) : SE c E (tBM0 c.K "list" rPop t) (mpop a) := by
  intro G0 H0 G H σ l pot r Q post
  refine Sn.go ha r post fun x dx p G1 H1 s1 r1 hx post1 => ?_
  cases dx with
  | pot =>
    cases hx
    have hp1 := (pc.i _ _).mp r1.pot
    have hB : c.B c.P := (pc.b _).mpr rfl
    refine ⟨.inl ⟨rfl, _, .inl (.inl hp1)⟩, ?_⟩
    dsimp only at post1
    cases e : p[p.length - 1]? with
    | none => rw [e] at post1; exact post1.elim
    | some n =>
      rw [e] at post1
      refine ⟨c.P, _, .int n, rfl, rfl, hp1, by simpa using e, ?_⟩
      have s := Stp.pot (o := .lst ((p.map V.int).dropLast)) r1.stp.gh hB (r1.gP _ hB) (r1.hp _ hB)
      exact post1 _ _ _ s (r1.step s ((pc.i _ _).mpr (by rw [upd_same, List.map_dropLast]))) (.int n)
  | _ => exact post1.elim
def mlenp (a : M D) : M D := mbind a fun x l p => match x with
  | .pot => .ok (.int p.length) p
  | _ => .bad
theorem se_lenp (pc : c.Pot) {t : TE} {a : M D} (ha : SE c E t a) : SE c E (tCB (rLenS c.K) (tCons t tNil)) (mlenp a) := by
  intro G0 H0 G H σ l pot r Q post
  show t σ H (fun x H1 => rLenS c.K [x] H1 Q)
  refine Sn.go ha r post fun x dx p G1 H1 s1 r1 hx post1 => ?_
  cases dx with
  | pot =>
    cases hx
    refine ⟨c.P, _, rfl, .inl (.inl (.inl ((pc.i _ _).mp r1.pot))), ?_⟩
    rw [List.length_map]
    exact post1 _ _ _ (Stp.refl r1.stp.gh) r1 (.int _)
  | _ => exact post1.elim

structure Walks (c : Cfg) (J : It) (ds : List D) (G : Hp) : Prop where
  stop : ∀ i H, Ex G H → i = ds.length → J.stop i H
  go : ∀ i H, Ex G H → i < ds.length → J.go i H
  yld : ∀ i H x H', Ex G H → i < ds.length → (∀ a, c.B a → H a ≠ none) → J.yld i H x H' → ∀ G2, Ex G G2 → Ex G2 H → ∃ d G3, ds[i]? = some d ∧ Stp c.B G2 H G3 H' ∧ (∀ a, c.B a → H' a = H a) ∧ At c.P G3 x d
theorem walks_list {G : Hp} {a : Addr} {vs : List V} {ds : List D} (h : G a = some (.lst vs)) (al : AtL c.P G vs ds) : Walks c (Itl c.K a) ds G := by
  refine ⟨fun i H e z => ⟨vs, .inl (.inl (e _ _ h)), ?_⟩, fun i H e z => ?_, fun i H x H' e z hP y G2 e2 e3 => ?_⟩
  · rw [AtL.length al]; exact Nat.le_of_eq z.symm
  · have z' : i < vs.length := by rw [AtL.length al]; exact z
    exact ⟨vs, vs[i], .inl (.inl (e _ _ h)), List.getElem?_eq_getElem z'⟩
  · obtain ⟨rfl, y⟩ := y
    obtain ⟨d, ed, ad⟩ := AtL.getV al (y vs (.inl (.inl (e _ _ h))))
    exact ⟨d, G2, ed, Stp.refl e3, fun _ _ => rfl, At.mono e2 ad⟩
theorem walks_tup {G : Hp} {a : Addr} {vs : List V} {ds : List D} (h : G a = some (.tup vs)) (al : AtL c.P G vs ds) : Walks c (Itt c.K a) ds G := by
  refine ⟨fun i H e z => ⟨vs, .inl (.inl (e _ _ h)), ?_⟩, fun i H e z => ?_, fun i H x H' e z hP y G2 e2 e3 => ?_⟩
  · rw [AtL.length al]; exact Nat.le_of_eq z.symm
  · have z' : i < vs.length := by rw [AtL.length al]; exact z
    exact ⟨vs, vs[i], .inl (.inl (e _ _ h)), List.getElem?_eq_getElem z'⟩
  · obtain ⟨rfl, y⟩ := y
    obtain ⟨d, ed, ad⟩ := AtL.getV al (y vs (.inl (.inl (e _ _ h))))
    exact ⟨d, G2, ed, Stp.refl e3, fun _ _ => rfl, At.mono e2 ad⟩
def rngD (lo : Int) (n : Nat) : List D := (List.range n).map fun (i : Nat) => D.int (lo + (i : Int))
theorem walks_rng {G : Hp} {lo : Int} {n : Nat} : Walks c (Itr lo n) (rngD lo n) G := by
  have hl : (rngD lo n).length = n := by simp [rngD]
  refine ⟨fun i H e z => by rw [hl] at z; exact Nat.le_of_eq z.symm, fun i H e z => by rw [hl] at z; exact z, fun i H x H' e z hP y G2 e2 e3 => ?_⟩
  obtain ⟨rfl, rfl⟩ := y
  rw [hl] at z
  exact ⟨.int (lo + (i : Int)), G2, by simp [rngD, z], Stp.refl e3, fun _ _ => rfl, .int _⟩
def enumD : Nat → List D → List D
  | _, [] => []
  | i, d :: ds => .tup [.int (i : Int), d] :: enumD (i + 1) ds
theorem enumD_get : ∀ (ds : List D) (k i : Nat) (d : D), ds[i]? = some d → (enumD k ds)[i]? = some (.tup [.int ((k + i : Nat) : Int), d])
  | [], _, _, _, e => by simp at e
  | d :: ds, k, 0, _, e => by simp at e; subst e; simp [enumD]
  | _ :: ds, k, i + 1, d, e => by
    have h := enumD_get ds (k + 1) i d (by simpa using e)
    have e2 : k + 1 + i = k + (i + 1) := by omega
    rw [e2] at h
    simpa [enumD] using h
theorem enumD_len : ∀ (ds : List D) (k : Nat), (enumD k ds).length = ds.length
  | [], _ => rfl
  | d :: ds, k => by simp [enumD, enumD_len ds]
theorem walks_enum {G : Hp} {a : Addr} {vs : List V} {ds : List D} (h : G a = some (.lst vs)) (al : AtL c.P G vs ds) : Walks c (Ite c.K a) (enumD 0 ds) G := by
  refine ⟨fun i H e z => ⟨vs, .inl (.inl (e _ _ h)), ?_⟩, fun i H e z => ?_, fun i H x H' e z hP y G2 e2 e3 => ?_⟩
  · rw [AtL.length al]; rw [enumD_len] at z; exact Nat.le_of_eq z.symm
  · have z' : i < vs.length := by rw [AtL.length al]; rw [enumD_len] at z; exact z
    exact ⟨vs, vs[i], .inl (.inl (e _ _ h)), List.getElem?_eq_getElem z'⟩
  · obtain ⟨T, v, rfl, hT, rfl, y⟩ := y
    obtain ⟨d, ed, ad⟩ := AtL.getV al (y vs (.inl (.inl (e _ _ h))))
    have g := enumD_get ds 0 i d ed
    rw [Nat.zero_add] at g
    exact ⟨_, _, g, Stp.lay e3 hT, fun b hb => upd_ne (fun z => hP b hb (by rw [z]; exact hT)), at_new_t e3 hT (.cons (.int _) (.cons (At.mono e2 ad) .nil))⟩
/-- an iterable's reading -/
def SI (c : Cfg) (E : St → XK) (wi : TI) (a : M (List D)) : Prop := Sn c E (fun G J ds => Walks c J ds G) wi a
theorem si_list {t : TE} {a : M D} (ha : SE c E t a) : SI c E (iList c.K t) (mbind a fun x => mlift (lstOf x)) := by
  intro G0 H0 G H σ l pot r Q post
  refine Sn.go ha r post fun x dx p G1 H1 s1 r1 hx post1 => ?_
  cases dx with
  | lst ds =>
    obtain ⟨q, vs, rfl, h, al⟩ := at_lst hx
    exact ⟨q, rfl, ⟨vs, .inl (.inl (r1.stp.gh _ _ h))⟩, Post.ok post1 r1 (walks_list h al)⟩
  | _ => exact post1.elim
def tupOf : D → Option (List D)
  | .tup ds => some ds
  | _ => none
theorem si_tup {t : TE} {a : M D} (ha : SE c E t a) : SI c E (iTup c.K t) (mbind a fun x => mlift (tupOf x)) := by
  intro G0 H0 G H σ l pot r Q post
  refine Sn.go ha r post fun x dx p G1 H1 s1 r1 hx post1 => ?_
  cases dx with
  | tup ds =>
    obtain ⟨q, vs, rfl, h, al⟩ := at_tup hx
    exact ⟨q, rfl, ⟨vs, .inl (.inl (r1.stp.gh _ _ h))⟩, Post.ok post1 r1 (walks_tup h al)⟩
  | _ => exact post1.elim
theorem post_lift0 {α β : Type} {rel : Hp → α → β → Prop} {G0 H0 G H : Hp} {σ : St} {l : Loc} {pot : List Int} {o : Option β} {Q : α → Hp → Prop} (post : Post c E rel G0 H0 G H σ l (mlift o l pot) Q) :
    ∃ g, o = some g ∧ Post c E rel G0 H0 G H σ l (.ok g pot) Q := by
  cases o with
  | none => exact post.elim
  | some g => exact ⟨g, rfl, post⟩
def rng1 : List D → Option (List D)
  | [.int j] => if j.natAbs < 4611686018427387904 then some (rngD 0 j.toNat) else none
  | _ => none
theorem si_rng1 {t : TA} {a : M (List D)} (ha : SA c E t a) : SI c E (iRng1 t) (mbind a fun x => mlift (rng1 x)) := by
  intro G0 H0 G H σ l pot r Q post
  refine Sn.go ha r post fun x dx p G1 H1 s1 r1 hx post1 => ?_
  obtain ⟨ds, e, post2⟩ := post_lift0 post1
  unfold rng1 at e
  split at e
  · split at e
    · rename_i z
      cases e
      obtain ⟨y, rfl, hy⟩ := atl1 hx
      rw [at_int hy]
      exact ⟨_, rfl, by omega, by omega, Post.ok post2 r1 walks_rng⟩
    · cases e
  · cases e
def rng2 : List D → Option (List D)
  | [.int i, .int j] => if i.natAbs < 4611686018427387904 ∧ j.natAbs < 4611686018427387904 then some (rngD i (j - i).toNat) else none
  | _ => none
theorem si_rng2 {t : TA} {a : M (List D)} (ha : SA c E t a) : SI c E (iRng2 t) (mbind a fun x => mlift (rng2 x)) := by
  intro G0 H0 G H σ l pot r Q post
  refine Sn.go ha r post fun x dx p G1 H1 s1 r1 hx post1 => ?_
  obtain ⟨ds, e, post2⟩ := post_lift0 post1
  unfold rng2 at e
  split at e
  · split at e
    · rename_i z
      cases e
      obtain ⟨y, y2, rfl, hy, hy2⟩ := atl2 hx
      rw [at_int hy, at_int hy2]
      exact ⟨_, _, rfl, by omega, Post.ok post2 r1 walks_rng⟩
    · cases e
  · cases e
/-- for x in ..: body -/
def loop (tg : D → Loc → Option Loc) (body : MS) : List D → MS
  | [] => sskip
  | d :: ds => fun l p => match tg d l with
    | none => .bad
    | some l1 => match body l1 p with
      | .nx l' p' => loop tg body ds l' p'
      | .ct l' p' => loop tg body ds l' p'
      | .bk l' p' => .nx l' p'
      | o => o
def sfor (a : M (List D)) (tg : D → Loc → Option Loc) (body : MS) : MS := sbind a fun ds => loop tg body ds
theorem ss_for {wi : TI} {g : TG} {tb : TS} {a : M (List D)} {tg : D → Loc → Option Loc} {body : MS} (ha : SI c E wi a) (hg : SG c g tg) (hb : SS c E tb body) : SS c E (tFor wi g tb) (sfor a tg body) := by
  intro G0 H0 G H σ l pot r De post
  refine Sn.goS ha r post fun J ds p G1 H1 s1 r1 w post1 => ?_
  refine ⟨fun i m σ H => m = ds.length - i ∧ i ≤ ds.length ∧ ∃ G l p, Ex G1 G ∧ Rel c G0 H0 G H σ l p ∧ PostS c E G0 H0 G De (loop tg body (ds.drop i) l p), ⟨_, rfl, Nat.zero_le _, G1, l, p, Ex.refl _, r1, post1⟩, ?_⟩
  rintro i m σ H ⟨rfl, hi, G, l, p, eg, r, post⟩
  by_cases hlt : i < ds.length
  · refine .inr ⟨w.go i H (eg.trans r.stp.gh) hlt, fun σ' H' => ∃ G l p, Ex G1 G ∧ Rel c G0 H0 G H' σ' l p ∧ PostS c E G0 H0 G De (loop tg body (ds.drop (i + 1)) l p), fun σ' H' ⟨G, l, p, a, b, q⟩ => ⟨_, by omega, rfl, hlt, G, l, p, a, b, q⟩, fun x H' y => ?_⟩
    obtain ⟨d, G3, ed, s3, hP, ad⟩ := w.yld i H x H' (eg.trans r.stp.gh) hlt r.hp y G eg r.stp.gh
    have r3 := r.same s3 hP
    have edr : ds.drop i = d :: ds.drop (i + 1) := by
      obtain ⟨h1, h2⟩ := List.getElem?_eq_some_iff.mp ed
      rw [List.drop_eq_getElem_cons h1, h2]
    rw [edr] at post
    unfold loop at post
    cases e1 : tg d l with
    | none => simp only [e1] at post; exact post.elim
    | some l1 =>
      simp only [e1] at post
      refine hg G0 H0 G3 H' σ l l1 p x d r3 ad e1 _ fun σ' r4 => ?_
      refine hb _ _ _ _ _ _ _ r4 _ ?_
      have post := PostS.mono post s3.gg
      cases e2 : body l1 p with
      | nx l' p' =>
        simp only [e2] at post
        exact fun G' H' σ' e' r' => ⟨G', l', p', (eg.trans s3.gg).trans e', r', PostS.mono post e'⟩
      | ct l' p' =>
        simp only [e2] at post
        exact fun G' H' σ' e' r' => ⟨G', l', p', (eg.trans s3.gg).trans e', r', PostS.mono post e'⟩
      | bk l' p' => simp only [e2] at post; exact post
      | rt d p' => simp only [e2] at post; exact post
      | err n l' p' => simp only [e2] at post; exact post
      | bad => simp only [e2] at post; exact post
  · have e : i = ds.length := by omega
    refine .inl ⟨w.stop i H (eg.trans r.stp.gh) e, ?_⟩
    rw [e, List.drop_length] at post
    exact PostS.of post r
end
end Den
namespace Den
open PySem L2
section
variable {X : Cx} {CX : CXT} {k : Nat} {f : Addr} {sp : Sp} {E : St → XK} {x : Str} {p pos sp_ : Pos} {e : Expr} {es : List Expr} {t : TA} {te : TE}
theorem run_fnRS {pins : List (Addr × Obj)} {σ : St} {H : Hp} {s : Shared} {Q : VK} {us : List Value} {vs : List V} (F : FnR X.prog X.w X.K X.mg X.base CX k f sp) (hr : Room k X.A) (hx : PassesAt CX X σ (E σ))
    (I : Inv X pins σ H s) (r : Vals vs us) (h : sp vs H Q (E σ)) : wpAny (model X.prog X.w) X.A (call (.ref f) us) (EP X pins σ Q) X.xe s := by
  refine wpAny_call (codeAny_mono (F X.A X.stack s H us vs Q (E σ) hr I.env0 r h) fun r s' hq => ?_)
  cases r with
  | error e => exact hx pins H s e s' I hq
  | ok fl =>
    cases fl with
    | ret u => exact I.after hq
    | next => exact False.elim hq
    | brk => exact False.elim hq
    | cont => exact False.elim hq
theorem pe_callRS (F : FnR X.prog X.w X.K X.mg X.base CX k f sp) (hr : Room k X.A) (hg : Gl X x) (hm : X.mg x = some (.ref f)) (hk : PySem.W.keepIn X.K (.ref f) = true) (hx : ∀ σ, PassesAt CX X σ (E σ))
    (ha : PA X (e :: es) t) (hdb : (x == ("__debug__" : Str)) = false := by decide) (he : starEach (e :: es) X.env = (false, eval e X.env) :: starEach es X.env := by rfl) (hpl : (backTo pos (starEach es X.env)).any (·.1) = false := by rfl) :
    PE X (.Call (.Name x p) (e :: es) [] pos) (tCallS sp E t) := by
  refine ⟨fun pins s σ H Q I h => ?_⟩
  refine wpAny_Call_Name_kw (ld_glob I hg hm ?_ hdb)
  refine PySem.W.callWith_K (h₀ := X.base) I.ok.mod.kin hk (thn (ha.run pos pins s σ H _ I h) fun us s1 ⟨vs, H1, I1, r, q⟩ => ⟨I1.kIn, ?_⟩) he hpl
  exact run_fnRS F hr (hx σ) I1 r q
/-- x(*y) -/
def tCallStar (K : PySem.W.Frag) (sp : Sp) (E : St → XK) (te : TE) : TE := fun σ H Q => te σ H fun y H1 => ∃ a xs, y = V.ref a ∧ (SqT K H1 a xs ∨ SqL K H1 a xs) ∧ sp xs H1 Q (E σ)
theorem pe_callStar (F : FnR X.prog X.w X.K X.mg X.base CX k f sp) (hr : Room k X.A) (hk : PySem.W.keepIn X.K (.ref f) = true) (hg : Gl X x) (hm : X.mg x = some (.ref f)) (hx : ∀ σ, PassesAt CX X σ (E σ)) (he : PE X e te) (hd : (x == ("__debug__" : Str)) = false := by decide)
    (hst : starEach [.Starred e sp_] X.env = [(true, eval e X.env)] := by rfl) : PE X (.Call (.Name x p) [.Starred e sp_] [] pos) (tCallStar X.K sp E te) := by
  refine ⟨fun pins s σ H Q I h => ?_⟩
  refine wpAny_Call_Name_kw (ld_glob I hg hm ?_ hd)
  refine PySem.W.callWith_S (h₀ := X.base) I.ok.mod.kin hk (thn (he.run pins s σ H _ I h) fun v s1 ⟨y, H1, I1, ry, a, xs, ey, hxs, q⟩ => ?_) hst
  subst ey
  obtain rfl : v = Value.ref a := ry
  exact StX.star_any I1 hxs fun us s2 I2 rv => ⟨I2.kIn, run_fnRS F hr (hx σ) I2 rv q⟩
theorem passE {W : XK} (tk : Takes X (fun cls d _ H => W cls d H)) : ∀ σ, PassesAt (L2.CX X.prog X.w) X σ ((fun _ => W : St → XK) σ) := fun σ => passAt tk σ
theorem passNo : ∀ σ, PassesAt (L2.CX X.prog X.w) X σ ((fun _ => E0 : St → XK) σ) := fun σ pins H s e s' I h => passL pins σ H s e s' I h
end
section
variable {c : Cfg} {E : St → XK}
def mstar (f : RF) (a : M D) : M D := mbind a fun x => mbind (mlift (seqOf x)) fun ds _ p => f ds p
theorem se_star {f : RF} {t : TE} {a : M D} (ha : SE c E t a) : SE c E (tCallStar c.K (spD c f) E t) (mstar f a) := by
  intro G0 H0 G H σ l pot r Q post
  refine Sn.go ha r post fun x dx p G1 H1 s1 r1 hx post1 => ?_
  obtain ⟨ds, e, post2⟩ := post_lift post1
  obtain ⟨q, vs, rfl, h, al⟩ := seq_at hx e
  exact ⟨q, vs, rfl, (sqLT r1.stp.gh h).symm, spD_of r1 al post2⟩

theorem Stp.poke {B : Addr → Prop} {G1 H1 G H : Hp} {q : Addr} {o : HO} (s : Stp B G1 H1 G H) (h1 : H1 q = none) (hG : G q = none) : Stp B G1 H1 G (upd H q o) := by
  refine ⟨s.gg, fun b u e => ?_, fun b u e n => ?_, fun b e => ?_, s.new⟩
  · rw [upd_ne (fun z => by subst z; rw [hG] at e; cases e)]; exact s.gh b u e
  · rw [upd_ne (ne_of_none e h1)]; exact s.keep b u e n
  · by_cases z : b = q
    · subst z; exact h1
    · rw [upd_ne z] at e; exact s.there b e
theorem mbind_ok {α β : Type} {a : M α} {k : α → M β} {l : Loc} {p q : List Int} {x : α} (e : a l p = .ok x q) : mbind a k l p = k x l q := by
  unfold mbind
  rw [e]
  rfl
theorem mbind_err {α β : Type} {a : M α} {k : α → M β} {l : Loc} {p q : List Int} {n : Nat} (e : a l p = .err n q) : mbind a k l p = .err n q := by
  unfold mbind
  rw [e]
  rfl
theorem mbind_bad {α β : Type} {a : M α} {k : α → M β} {l : Loc} {p : List Int} (e : a l p = .bad) : mbind a k l p = .bad := by
  unfold mbind
  rw [e]
  rfl
def turn (t : M Bool) (e : M D) : M (Option D) := mbind t fun b => if b = true then mbind e fun x => mret (some x) else mret none
def comp (i : Nat) (t : M Bool) (e : M D) : List D → M (List D)
  | [] => mret []
  | d :: ds => fun l p => if i < l.length then (match turn t e (l.set i (some (.dat d))) p with
    | .ok o p' => (match comp i t e ds l p' with
      | .ok r p'' => .ok (o.toList ++ r) p''
      | x => x)
    | _ => .bad) else .bad
def mcomp (a : M (List D)) (i : Nat) (t : M Bool) (e : M D) : M (List D) := mbind a fun ds => if ds.length ≤ 1000 then comp i t e ds else fun _ _ => .bad
def pre (acc : List D) : R (List D) → R (List D)
  | .ok r p => .ok (acc ++ r) p
  | .err n p => .err n p
  | .bad => .bad
theorem pre_nil (r : R (List D)) : pre [] r = r := by cases r <;> rfl
def mtrue : M Bool := mret true
theorem st_true : ST c E tYes mtrue := fun G0 H0 G H σ l pot r Q post => Post.ok post r rfl
theorem sen_comp {wi : TI} {i : Nat} {tt : TT} {te : TE} {a : M (List D)} {t : M Bool} {e : M D} (ha : SI c E wi a) (ht : ST c (fun _ => E0) tt t) (he : SE c (fun _ => E0) te e) : SEN c E (tLc wi (gName i) tt te [i]) (mcomp a i t e) := by
  intro G0 H0 G H σ l pot r Q post
  refine Sn.goN ha r post fun J ds p G1 H1 s1 r1 w post1 => ?_
  split at post1
  · rename_i hlen
    intro Dl hD
    have hPD : ∀ a, c.B a → a ≠ Dl := fun a b z => r1.hp a b (by rw [z]; exact hD)
    have hG1 : G1 Dl = none := by
      cases eg : G1 Dl with
      | none => rfl
      | some u => have := r1.stp.gh Dl u eg; rw [hD] at this; cases this
    refine ⟨fun j m H => m = ds.length - j ∧ j ≤ ds.length ∧ ∃ G p acc aD, Stp c.B G1 H1 G H ∧ c.inv p H ∧ H Dl = some (.lst acc) ∧ AtL c.P G acc aD ∧ G Dl = none ∧ aD.length ≤ j ∧ PostN c E G0 H0 G1 H1 σ l (pre aD (comp i t e (ds.drop j) l p)) Q,
      ⟨_, rfl, Nat.zero_le _, G1, p, [], [], Stp.lay0 r1.stp.gh hD, c.ext (fun a b => upd_ne (hPD a b)) r1.pot, upd_same, .nil, hG1, Nat.le_refl _, by rw [pre_nil]; exact post1⟩, ?_⟩
    rintro j m H ⟨rfl, hj, G, p, acc, aD, sG, hp, hDl, al, hG, hl, post⟩
    by_cases hlt : j < ds.length
    · refine .inr ⟨w.go j H (sG.gg.trans sG.gh) hlt, fun H => ∃ G p acc aD, Stp c.B G1 H1 G H ∧ c.inv p H ∧ H Dl = some (.lst acc) ∧ AtL c.P G acc aD ∧ G Dl = none ∧ aD.length ≤ j + 1 ∧ PostN c E G0 H0 G1 H1 σ l (pre aD (comp i t e (ds.drop (j + 1)) l p)) Q,
        fun H' ⟨G, p, acc, aD, h⟩ => ⟨_, by omega, rfl, hlt, G, p, acc, aD, h⟩, fun x H' y => ?_⟩
      obtain ⟨d, G3, ed, s3, hP3, ad⟩ := w.yld j H x H' (sG.gg.trans sG.gh) hlt (c.full hp) y G sG.gg sG.gh
      have edr : ds.drop j = d :: ds.drop (j + 1) := by
        obtain ⟨h1, h2⟩ := List.getElem?_eq_some_iff.mp ed
        rw [List.drop_eq_getElem_cons h1, h2]
      rw [edr] at post
      unfold comp at post
      by_cases hi : i < l.length
      · rw [if_pos hi] at post
        have s13 := sG.trans s3
        have r3 : Rel c G0 H0 G3 H' σ l p := r1.step s13 (c.ext hP3 hp)
        have hDl3 : H' Dl = some (.lst acc) := s3.keep Dl _ hDl (fun b => hPD _ b rfl)
        have noD : ∀ {Ga Ha Gb Hb : Hp}, Stp c.B Ga Ha Gb Hb → Ga Dl = none → Ha Dl ≠ none → Gb Dl = none := fun {Ga Ha Gb Hb} s h1 h2 => by
          cases eg : Gb Dl with
          | none => rfl
          | some u =>
            rcases s.new Dl u eg with z | z
            · rw [h1] at z; cases z
            · exact absurd z h2
        have hG3 := noD s3 hG (by rw [hDl]; exact fun z => nomatch z)
        have r4 : Rel c G0 H0 G3 H' (σ.set i (some x)) (l.set i (some (.dat d))) p := r3.set ad hi
        show (gName i) x (wipe σ [i]) H' _
        have ew : (wipe σ [i]).set i (some x) = σ.set i (some x) := by
          show (σ.set i none).set i (some x) = σ.set i (some x)
          rw [List.set_set]
        show wipe ((wipe σ [i]).set i (some x)) [i] = wipe σ [i] ∧ tt ((wipe σ [i]).set i (some x)) H' _
        rw [ew]
        refine ⟨by show (σ.set i (some x)).set i none = σ.set i none; rw [List.set_set], ?_⟩
        refine ht _ _ _ _ _ _ _ r4 _ ?_
        unfold turn at post
        cases e1 : t (l.set i (some (.dat d))) p with
        | err n p1 => rw [mbind_err e1] at post; exact post.elim
        | bad => rw [mbind_bad e1] at post; exact post.elim
        | ok b p1 =>
          rw [mbind_ok e1] at post
          intro b' G5 H5 s5 r5 eb
          subst eb
          have s15 := s13.trans s5
          have hDl5 : H5 Dl = some (.lst acc) := s5.keep Dl _ hDl3 (fun b => hPD _ b rfl)
          have hG5 := noD s5 hG3 (by rw [hDl3]; exact fun z => nomatch z)
          cases b' with
          | false =>
            rw [if_neg Bool.false_ne_true]
            rw [if_neg Bool.false_ne_true] at post
            refine ⟨G5, p1, acc, aD, s15, r5.pot, hDl5, AtL.mono (s3.gg.trans s5.gg) al, hG5, Nat.le_succ_of_le hl, ?_⟩
            dsimp only [mret] at post
            cases e2 : comp i t e (ds.drop (j + 1)) l p1 with
            | ok r' p2 => rw [e2] at post; exact post
            | err n p2 => rw [e2] at post; exact post
            | bad => rw [e2] at post; exact post
          | true =>
            rw [if_pos rfl]
            rw [if_pos rfl] at post
            refine he _ _ _ _ _ _ _ r5 _ ?_
            cases e2 : e (l.set i (some (.dat d))) p1 with
            | err n p2 => rw [mbind_err e2] at post; exact post.elim
            | bad => rw [mbind_bad e2] at post; exact post.elim
            | ok y p2 =>
              rw [mbind_ok e2] at post
              dsimp only [mret] at post
              intro v G6 H6 s6 r6 av
              have s16 := s15.trans s6
              have hDl6 : H6 Dl = some (.lst acc) := s6.keep Dl _ hDl5 (fun b => hPD _ b rfl)
              have hG6 := noD s6 hG5 (by rw [hDl5]; exact fun z => nomatch z)
              have al6 : AtL c.P G6 acc aD := AtL.mono ((s3.gg.trans s5.gg).trans s6.gg) al
              refine ⟨acc, hDl6, ?_, G6, p2, acc ++ [v], aD ++ [y], s16.poke hD hG6, c.ext (fun a b => upd_ne (hPD a b)) r6.pot, upd_same, AtL.append al6 (.cons av .nil), hG6, by rw [List.length_append]; exact Nat.succ_le_succ hl, ?_⟩
              · rw [AtL.length al6]
                have z : aD.length ≤ 1000 := by omega
                exact Nat.lt_of_le_of_lt z (by decide)
              · cases e3 : comp i t e (ds.drop (j + 1)) l p2 with
                | ok r' p3 =>
                  rw [e3] at post
                  have ea : aD ++ ([y] ++ r') = aD ++ [y] ++ r' := by rw [List.append_assoc]
                  show PostN c E G0 H0 G1 H1 σ l (.ok (aD ++ [y] ++ r') p3) Q
                  rw [← ea]
                  exact post
                | err n p3 => rw [e3] at post; exact post
                | bad => rw [e3] at post; exact post
      · rw [if_neg hi] at post
        exact post.elim
    · have ej : j = ds.length := by omega
      refine .inl ⟨w.stop j H (sG.gg.trans sG.gh) ej, ?_⟩
      rw [ej, List.drop_length] at post
      have post' : PostN c E G0 H0 G1 H1 σ l (.ok (aD ++ []) p) Q := post
      rw [List.append_nil] at post'
      exact post' Dl acc G H sG (r1.step sG hp) hDl al hG hD
  · exact post1.elim
def sraise (n : Nat) : MS := fun l p => .err n l p
theorem ss_raise {n : Nat} : SS c E (fun _ σ H => E σ (.ref (c.ec n)) none H) (sraise n) := fun G0 H0 G H σ l pot r De post => post G H σ (Ex.refl G) r
def noE : O → O
  | .err _ _ _ => .bad
  | o => o
def handle (n : Nat) : List (Nat × MS) → MS
  | [] => fun l p => .err n l p
  | (m, s) :: hs => if n = m then fun l p => noE (s l p) else handle n hs
inductive Suites (c : Cfg) : List (Value × (Addr → Value → Option Addr → TS)) → List (Nat × MS) → Prop
  | nil : Suites c [] []
  | cons {m : Nat} {ts : Addr → Value → Option Addr → TS} {s : MS} {l : List (Value × (Addr → Value → Option Addr → TS))} {hs : List (Nat × MS)} (hm : m < 4) (h : ∀ a cls d, SS c (fun _ => E0) (ts a cls d) s) (t : Suites c l hs) : Suites c ((.ref (c.ec m), ts) :: l) ((m, s) :: hs)
theorem PostS.noE {E' : St → XK} {G0 H0 G : Hp} {De : Ends} {o : O} (post : PostS c E G0 H0 G De (noE o)) : PostS c E' G0 H0 G De o := by
  cases o with
  | err n l p => exact post.elim
  | _ => exact post
end
def locOf (n : Nat) (ds : List D) : Loc := ds.map (fun d => some (.dat d)) ++ List.replicate (n - ds.length) none
/-- what a def of n parameters and m slots does -/
def outR : O → R D
  | .rt d p => .ok d p
  | .nx _ p => .ok .non p
  | .err k _ p => .err k p
  | _ => .bad
def denF (n m : Nat) (s : MS) : RF := fun ds pot => if ds.length = n then outR (s (locOf m ds) pot) else .bad
section
variable {c : Cfg}
theorem start_rel {G H : Hp} {N : List Str} {vs : List V} {ds : List D} {pot : List Int} (a : AtL c.P G vs ds) (gh : Ex G H) (gP : (∀ a, c.B a → G a = none)) (hp : c.inv pot H) : Rel c G H G H (start N vs) (locOf N.length ds) pot := by
  have hl := AtL.length a
  refine ⟨Stp.refl gh, hp, gP, c.full hp, by simp [L2.start, locOf, hl], fun i x e => ?_, fun i j x y e1 e2 o1 o2 ne => ?_⟩
  · unfold locOf at e
    by_cases hi : i < ds.length
    · rw [List.getElem?_append_left (by simpa using hi), List.getElem?_map] at e
      have ed := List.getElem?_eq_getElem hi
      rw [ed] at e
      cases e
      obtain ⟨v, ev, av⟩ := AtL.get a ed
      have hs : (start N vs)[i]? = some (some v) := by
        unfold L2.start
        rw [List.getElem?_append_left (by simp [hl, hi]), List.getElem?_map, ev]
        rfl
      rw [hs]
      exact av
    · rw [List.getElem?_append_right (by simpa using hi), List.getElem?_replicate] at e
      split at e <;> cases e
  · exfalso
    unfold locOf at e1
    by_cases hi : i < ds.length
    · rw [List.getElem?_append_left (by simpa using hi), List.getElem?_map, List.getElem?_eq_getElem hi] at e1
      cases e1
      cases o1
    · rw [List.getElem?_append_right (by simpa using hi), List.getElem?_replicate] at e1
      split at e1 <;> cases e1
/-- the ends of a def -/
theorem post_fn {f : RF} {G0 H0 : Hp} {s : MS} {N : List Str} {n : Nat} {ds : List D} {pot : List Int} {Q : VK} {E' : XK} (hn : ds.length = n)
    (h : match denF n N.length s ds pot with
      | .ok d p => ∀ v G' H', Stp c.B G0 H0 G' H' → c.inv p H' → At c.P G' v d → Q v H'
      | .err m p => ∀ H', Stp c.B G0 H0 G0 H' → c.inv p H' → E' (.ref (c.ec m)) none H'
      | .bad => False) :
    PostS c (fun _ => E') G0 H0 G0 { nx := fun _ H' => Q .non H', rt := Q } (s (locOf N.length ds) pot) := by
  unfold denF at h
  rw [if_pos hn] at h
  cases e : s (locOf N.length ds) pot with
  | nx l p => rw [e] at h; exact fun G' H' σ' _ r => h .non G' H' r.stp r.pot .non
  | rt d p => rw [e] at h; exact fun v G' H' σ' l' _ r a => h v G' H' r.stp r.pot a
  | err k l p => rw [e] at h; exact fun G' H' σ' _ r => h H' ⟨Ex.refl _, r.stp.gg.trans r.stp.gh, r.stp.keep, r.stp.there, fun _ _ z => .inl z⟩ r.pot
  | bk l p => rw [e] at h; exact h.elim
  | ct l p => rw [e] at h; exact h.elim
  | bad => rw [e] at h; exact h.elim
variable {P : Program} {w : World} {mg : Str → Option Value} {base : Heap}
theorem fn_ss {x qual : Str} {st : Stmt} {f : Addr} {fd : FuncData} {N ps : List Str} {k : Nat} {s : MS} (F : Fun c.K x qual st f fd) (S : FnScope N ps (defScope st)) (hb : Binds c.K fd ps [])
    (hbody : ∀ (cdv : Value) (A : Around) (outer : List Env) (sh : Shared) (H : Hp) (E' : XK), Room k (A.deeper (PyProof.Rows.envOfC qual (defScope st) sh.heap.objs.size f cdv)) →
      ∃ t, PSs (cxOf (L2.CX P w) P w c.K mg base N qual (defScope st) f cdv A outer sh H E') (defBody st) t ∧ SS c (fun _ => E') t s) :
    FnR P w c.K mg base (L2.CX P w) (k + 1) f (spD c (denF ps.length N.length s)) := by
  have lenOf : ∀ vs H Q E, spD c (denF ps.length N.length s) vs H Q E → vs.length = ps.length := fun vs H Q E h => by
    obtain ⟨G, ds, pot, a, gh, gP, hp, h⟩ := h
    rw [AtL.length a]
    by_cases z : ds.length = ps.length
    · exact z
    · unfold denF at h
      rw [if_neg z] at h
      exact h.elim
  have ok : FnOk P w c.K mg base (L2.CX P w) (k + 1) f fd ps (spD c (denF ps.length N.length s)) := by
    refine F.okX S lenOf (fun cdv A outer sh H vs Q E hr h => ?_)
    have hl := lenOf vs H Q E h
    obtain ⟨G, ds, pot, a, gh, gP, hp, h⟩ := h
    obtain ⟨t, ht, hs⟩ := hbody cdv A outer sh H E hr
    refine ⟨t, ht, hs G H G H _ _ _ (start_rel a gh gP hp) _ ?_⟩
    exact post_fn (f := fun _ _ => .bad) ((AtL.length a).symm.trans hl) h
  have raw := ok.raw hb .nil
  exact raw.imp fun vs H Q E h => by rw [List.append_nil]; exact h
/-- def f(*xs) -/
def denStar (m : Nat) (s : MS) : RF := fun ds pot => denF 1 m s [.tup ds] pot
theorem fn_star_ss {x qual pv : Str} {st : Stmt} {f : Addr} {fd : FuncData} {N : List Str} {k : Nat} {s : MS} (F : Fun c.K x qual st f fd) (S : FnScope N [pv] (defScope st))
    (hbd : ∀ (kV doc pm : Value) (an : Option Addr) (cdv ct : Value) (rest : List Value), bindArgs (PySem.W.fnOf x qual (defArgs st) (defBody st) (defScope st) .none kV doc pm an cdv ct) ⟨rest, []⟩ = (newTuple rest >>= fun t => pure [(pv, t)]))
    (hbody : ∀ (cdv : Value) (A : Around) (outer : List Env) (sh : Shared) (H : Hp) (E' : XK), Room k (A.deeper (PyProof.Rows.envOfC qual (defScope st) sh.heap.objs.size f cdv)) →
      ∃ t, PSs (cxOf (L2.CX P w) P w c.K mg base N qual (defScope st) f cdv A outer sh H E') (defBody st) t ∧ SS c (fun _ => E') t s) :
    FnR P w c.K mg base (L2.CX P w) (k + 1) f (spD c (fun ds pot => if ds.length ≤ 1000 then denStar N.length s ds pot else .bad)) := by
  obtain ⟨oc, od, kV, doc, pm, an, cdv, ct, osl, rfl, lk, hcd⟩ := F.ex
  have z := StX.fn_star (CX := L2.CX P w) (P := P) (w := w) (mg := mg) (base := base) (k := k) (ps := []) (sp := spD c (denF 1 N.length s)) lk hcd S StX.cxUp (fun us rest hu => by
    cases us with
    | nil => exact hbd _ _ _ _ _ _ rest
    | cons _ _ => cases hu) (fun A outer sh H vs Q E hr h => by
    obtain ⟨G, ds, pot, a, gh, gP, hp, h⟩ := h
    obtain ⟨t, ht, hs⟩ := hbody cdv A outer sh H E hr
    refine ⟨t, ht, hs G H G H _ _ _ (start_rel a gh gP hp) _ ?_⟩
    have hl : ds.length = 1 := by
      by_cases z : ds.length = 1
      · exact z
      · unfold denF at h
        rw [if_neg z] at h
        exact h.elim
    exact post_fn (f := fun _ _ => .bad) hl h)
  refine z.imp fun vs H Q E h => ?_
  obtain ⟨G, ds, pot, a, gh, gP, hp, h⟩ := h
  by_cases hz : ds.length ≤ 1000
  · dsimp only at h
    rw [if_pos hz] at h
    refine ⟨[], vs, rfl, rfl, by rw [AtL.length a]; exact sz1000 hz, fun p hpn => ?_⟩
    have hPp : ∀ a, c.B a → a ≠ p := fun a b z => c.full hp a b (by rw [z]; exact hpn)
    have s1 : Stp c.B G H (upd G p (.tup vs)) (upd H p (.tup vs)) := Stp.lay gh hpn
    refine ⟨upd G p (.tup vs), [.tup ds], pot, .cons (at_new_t gh hpn a) .nil, s1.gh, fun a b => (upd_ne (hPp a b)).trans (gP a b), c.ext (fun a b => upd_ne (hPp a b)) hp, ?_⟩
    unfold denStar at h
    cases e : denF 1 N.length s [.tup ds] pot with
    | ok d q => rw [e] at h; exact fun v G' H' s2 hq av => h v G' H' (s1.trans s2) hq av
    | err m q => rw [e] at h; exact fun H' s2 hq => h H' ⟨Ex.refl _, (s1.trans s2).gg.trans s2.gh, (s1.trans s2).keep, (s1.trans s2).there, fun _ _ z => .inl z⟩ hq
    | bad => rw [e] at h; exact h.elim
  · dsimp only at h
    rw [if_neg hz] at h
    exact h.elim
end
end Den
namespace Den
open PySem L2
mutual
def pd : D → Option PyData
  | .non => some .none
  | .bl b => some (.bool b)
  | .int i => some (.int i)
  | .lst ds => (pdL ds).map .list
  | .tup ds => (pdL ds).map .tuple
  | .str _ => none
  | .ins _ _ _ => none
  | .pot => none
  | .ty _ => none
  | .cls _ => none
  | .dct _ => none
def pdL : List D → Option (List PyData)
  | [] => some []
  | d :: ds => match pd d, pdL ds with
    | some a, some as => some (a :: as)
    | _, _ => none
end
mutual
theorem pd_at {K : PySem.W.Frag} {P : Addr} {G H : Hp} (gh : Ex G H) : ∀ (d : D) (x : V) (q : PyData), At P G x d → pd d = some q → Dp K H x q ∧ q.canLay0 = true
  | .non, _, _, h, e => by cases h; cases e; exact ⟨.non, rfl⟩
  | .bl b, _, _, h, e => by cases h; cases e; exact ⟨.bl b, rfl⟩
  | .int i, _, _, h, e => by cases h; cases e; exact ⟨.int i, rfl⟩
  | .lst ds, _, q, h, e => by
    obtain ⟨p, vs, rfl, hg, al⟩ := at_lst h
    unfold pd at e
    cases e1 : pdL ds with
    | none => rw [e1] at e; cases e
    | some as =>
      rw [e1] at e
      cases e
      obtain ⟨h1, h2⟩ := pdL_at gh ds vs as al e1
      exact ⟨.lst (.inl (.inl (gh _ _ hg))) h1, by simp only [PyData.canLay0]; exact h2⟩
  | .tup ds, _, q, h, e => by
    obtain ⟨p, vs, rfl, hg, al⟩ := at_tup h
    unfold pd at e
    cases e1 : pdL ds with
    | none => rw [e1] at e; cases e
    | some as =>
      rw [e1] at e
      cases e
      obtain ⟨h1, h2⟩ := pdL_at gh ds vs as al e1
      exact ⟨.tup (.inl (.inl (gh _ _ hg))) h1, by simp only [PyData.canLay0]; exact h2⟩
  | .str _, _, _, _, e => by cases e
  | .ins _ _ _, _, _, _, e => by cases e
  | .pot, _, _, _, e => by cases e
  | .ty _, _, _, _, e => by cases e
  | .cls _, _, _, _, e => by cases e
  | .dct _, _, _, _, e => by cases e
theorem pdL_at {K : PySem.W.Frag} {P : Addr} {G H : Hp} (gh : Ex G H) : ∀ (ds : List D) (vs : List V) (qs : List PyData), AtL P G vs ds → pdL ds = some qs → DpAll K H vs qs ∧ PyData.canLayAll0 qs = true
  | [], _, _, h, e => by cases h; cases e; exact ⟨.nil, rfl⟩
  | d :: ds, _, qs, h, e => by
    cases h with
    | cons h1 h2 =>
      unfold pdL at e
      split at e
      · rename_i a as e1 e2
        cases e
        obtain ⟨a1, a2⟩ := pd_at gh d _ a h1 e1
        obtain ⟨b1, b2⟩ := pdL_at gh ds _ as h2 e2
        exact ⟨.cons a1 b1, by simp only [PyData.canLayAll0, a2, b2]; rfl⟩
      · cases e
end
def fEqD (neg : Bool) (x y : D) : Option D := match pd x, pd y with
  | some a, some b => if a.depth ≤ 64 ∧ b.depth ≤ 64 then some (.bl (if neg then !PyData.eqv a b else PyData.eqv a b)) else none
  | _, _ => none
section
variable {c : Cfg} {E : St → XK}
theorem shp {q : PyData} (h1 : q.canLay0 = true) (h2 : q.depth ≤ 64) : SeqAt.shaped q = true := by
  unfold SeqAt.shaped
  rw [h1, decide_eq_true h2]
  rfl
theorem s2_eqD : S2 c (rEqD c.K) (fEqD false) := ⟨fun G H x y dx dy d gh _ hx hy e => by
  unfold fEqD at e
  split at e
  · rename_i a b e1 e2
    split at e
    · rename_i z
      cases e
      obtain ⟨a1, a2⟩ := pd_at (K := c.K) gh dx x a hx e1
      obtain ⟨b1, b2⟩ := pd_at (K := c.K) gh dy y b hy e2
      exact ops_pure gh (.bl _) fun Q q => ⟨a, b, a1, b1, shp a2 z.1, shp b2 z.2, q⟩
    · cases e
  · cases e⟩
theorem s2_neD : S2 c (rNeD c.K) (fEqD true) := ⟨fun G H x y dx dy d gh _ hx hy e => by
  unfold fEqD at e
  split at e
  · rename_i a b e1 e2
    split at e
    · rename_i z
      cases e
      obtain ⟨a1, a2⟩ := pd_at (K := c.K) gh dx x a hx e1
      obtain ⟨b1, b2⟩ := pd_at (K := c.K) gh dy y b hy e2
      exact ops_pure gh (.bl _) fun Q q => ⟨a, b, a1, b1, shp a2 z.1, shp b2 z.2, q⟩
    · cases e
  · cases e⟩
def minc (neg : Bool) (a : M D) (i : Nat) : M D := mbind a fun x l p => match l[i]? with
  | some (some (.cell ds)) => match sc x, scL ds with
    | some v, some vs => .ok (.bl (if neg then !inV v vs else inV v vs)) p
    | _, _ => .bad
  | _ => .bad
theorem se_inc {neg : Bool} {t : TE} {a : M D} {i : Nat} (ha : SE c E t a) : SE c E (tOp (rIn c.K neg) t (tVar i)) (minc neg a i) := by
  intro G0 H0 G H σ l pot r Q post
  refine Sn.go ha r post fun x dx p G1 H1 s1 r1 hx post1 => ?_
  split at post1
  · rename_i ds hc
    obtain ⟨q, vs, hσ, h1, h2⟩ := cell_at r1 hc
    split at post1
    · rename_i v ws e1 e2
      obtain ⟨q1, q2⟩ := scL_at h2 e2
      subst q1
      rw [sc_at hx e1]
      exact ⟨.ref q, hσ, q, vs, rfl, .inl (.inl (.inl h1)), sc_flat e1, q2, post1 _ _ _ (Stp.refl r1.stp.gh) r1 (.bl _)⟩
    · exact post1.elim
  · exact post1.elim

theorem lookup_zip {P : Addr} {G : Hp} {f : Str} : ∀ {ns : List Str} {vs : List V} {ds : List D} {d : D}, AtL P G vs ds → (ns.zip ds).lookup f = some d → ∃ v, (ns.zip vs).lookup f = some v ∧ At P G v d
  | [], _, _, _, _, e => by simp at e
  | _ :: _, _, [], _, .nil, e => by simp at e
  | n :: ns, _, d' :: ds, d, .cons (v := v) (vs := vs) h t, e => by
    rw [List.zip_cons_cons, List.lookup_cons] at e ⊢
    cases q : f == n with
    | true => rw [q] at e; cases e; exact ⟨v, rfl, h⟩
    | false => rw [q] at e; exact lookup_zip t e
def fFld (C : Addr) (f : Str) : D → Option D
  | .ins C' ns ds => if C' = C then (ns.zip ds).lookup f else none
  | _ => none
def mfld (C : Addr) (f : Str) (a : M D) : M D := op1 (fFld C f) a
theorem fld_at {G : Hp} {C : Addr} {f : Str} {x : V} {d dd : D} (hx : At c.P G x d) (e : fFld C f d = some dd) : ∃ p dx fs v, x = .ref p ∧ G p = some (.ins C dx fs) ∧ fs.lookup f = some v ∧ At c.P G v dd := by
  cases d with
  | ins C' ns ds =>
    unfold fFld at e
    dsimp only at e
    split at e
    · rename_i z
      subst z
      cases hx with
      | ins h al =>
        obtain ⟨v, e1, av⟩ := lookup_zip al e
        exact ⟨_, _, _, v, rfl, h, e1, av⟩
    · cases e
  | _ => cases e
/-- a property that hands a field out -/
theorem se_prop {C : Addr} {f : Str} {t : TE} {a : M D} (ha : SE c E t a) : SE c E (tProp C (getSp C f) [] E0 t) (mfld C f a) := by
  intro G0 H0 G H σ l pot r Q post
  refine Sn.go ha r post fun x dx p G1 H1 s1 r1 hx post1 => ?_
  obtain ⟨dd, e, post2⟩ := post_lift0 post1
  obtain ⟨q, ddx, fs, v, rfl, h, e1, av⟩ := fld_at hx e
  exact ⟨q, ddx, fs, rfl, r1.stp.gh _ _ h, q, ddx, fs, v, rfl, r1.stp.gh _ _ h, e1, Post.ok post2 r1 av⟩
/-- self._f in the making: slot i holds the instance -/
def mfldO (C : Addr) (i : Nat) (f : Str) : M D := fun l p => match l[i]? with
  | some (some (.obj _ C' ns ds)) => if C' = C then (match (ns.zip ds).lookup f with
    | some d => .ok d p
    | none => .bad) else .bad
  | _ => .bad
theorem obj_at {G0 H0 G H : Hp} {σ : St} {l : Loc} {pot : List Int} {i : Nat} {ea C : Addr} {ns : List Str} {ds : List D} (r : Rel c G0 H0 G H σ l pot) (hc : l[i]? = some (some (.obj ea C ns ds))) :
    ∃ p vs dx, p = ea ∧  σ[i]? = some (some (.ref p)) ∧ H p = some (.ins C dx (ns.zip vs)) ∧ AtL c.P G vs ds ∧ G p = none ∧ H0 p = none ∧ ¬ c.B p := by
  have q := r.slot i _ hc
  cases ho : σ[i]? with
  | none => rw [ho] at q; exact q.elim
  | some o =>
    cases o with
    | none => rw [ho] at q; exact q.elim
    | some v =>
      cases v with
      | ref p =>
        rw [ho] at q
        obtain ⟨hea, vs, dx, h1, h2, h3, h4, h5⟩ := q
        exact ⟨p, vs, dx, hea, rfl, h1, h2, h3, h4, h5⟩
      | _ => rw [ho] at q; exact q.elim
theorem se_fldO {C : Addr} {i : Nat} {f : Str} (hC : Cls c.K C) (hN : NoAttr c.K C f) : SE c E (tFld c.K (tVar i) f) (mfldO C i f) := by
  intro G0 H0 G H σ l pot r Q post
  unfold mfldO at post
  split at post
  · rename_i ea C' ns ds hc
    split at post
    · rename_i z
      subst z
      obtain ⟨p, vs, dx, _, hσ, h1, h2, _⟩ := obj_at r hc
      split at post
      · rename_i d e
        obtain ⟨v, e1, av⟩ := lookup_zip h2 e
        exact ⟨.ref p, hσ, p, C', dx, _, v, rfl, h1, hC, hN, e1, Post.ok post r av⟩
      · exact post.elim
    · exact post.elim
  · exact post.elim
/-- self._f = e, a new attribute -/
def sfldO (C : Addr) (i : Nat) (f : Str) (a : M D) : MS := sbind a fun x l p => match l[i]? with
  | some (some (.obj ea C' ns ds)) => if C' = C ∧ ns.length = ds.length ∧ ns.length < 1000 ∧ f ∉ ns then .nx (l.set i (some (.obj ea C (ns ++ [f]) (ds ++ [x])))) p else .bad
  | _ => .bad
theorem putF_zip {f : Str} {v : V} : ∀ {ns : List Str} {vs : List V}, ns.length = vs.length → f ∉ ns → putF f v (ns.zip vs) = (ns ++ [f]).zip (vs ++ [v])
  | [], [], _, _ => rfl
  | [], _ :: _, h, _ => by cases h
  | _ :: _, [], h, _ => by cases h
  | n :: ns, w :: vs, h, hf => by
    have hn : n ≠ f := fun z => hf (by rw [z]; exact List.mem_cons_self)
    rw [List.zip_cons_cons, List.cons_append, List.cons_append, List.zip_cons_cons]
    show (if n = f then _ else _) = _
    rw [if_neg hn]
    exact congrArg _ (putF_zip (by simpa using h) fun z => hf (List.mem_cons_of_mem _ z))
theorem Rel.writeO {G0 H0 G H : Hp} {σ : St} {l : Loc} {pot : List Int} {i : Nat} {p ea C dx : Addr} {ns ns' : List Str} {vs : List V} {ds es : List D} (r : Rel c G0 H0 G H σ l pot) (hc : l[i]? = some (some (.obj ea C ns es))) (hσ : σ[i]? = some (some (.ref p))) (a : AtL c.P G vs ds) :
    Rel c G0 H0 G (upd H p (.ins C dx (ns'.zip vs))) σ (l.set i (some (.obj ea C ns' ds))) pot := by
  have q := r.slot i _ hc
  rw [hσ] at q
  obtain ⟨hea, ws, dx0, h1, h2, h3, h4, h5⟩ := q
  have hi : i < l.length := (List.getElem?_eq_some_iff.mp hc).1
  refine ⟨⟨r.stp.gg, fun b o e => ?_, fun b o e n => ?_, fun b e => ?_, r.stp.new⟩, c.ext (fun a b => upd_ne (fun z => h5 (by rw [← z]; exact b))) r.pot, r.gP, r.hP, by rw [List.length_set, r.len], fun j x e => ?_, fun j k x y e1 e2 o1 o2 ne => ?_⟩
  · rw [upd_ne (fun z => by subst z; rw [h3] at e; cases e)]; exact r.stp.gh b o e
  · rw [upd_ne (fun z => by subst z; rw [h4] at e; cases e)]; exact r.stp.keep b o e n
  · by_cases z : b = p
    · subst z; exact h4
    · rw [upd_ne z] at e; exact r.stp.there b e
  · by_cases z : j = i
    · subst z
      rw [List.getElem?_set_self hi] at e
      cases e
      rw [hσ]
      exact ⟨hea, vs, dx, upd_same, a, h3, h4, h5⟩
    · rw [List.getElem?_set_ne (Ne.symm z)] at e
      have a2 := r.slot j x e
      match ho : σ[j]?, x, a2 with
      | some (some v), .dat d, a2 => exact a2
      | some (some (.ref q)), .cell ds', ⟨ws', g1, g2, g3, g4⟩ =>
        have nq : q ≠ p := fun w => r.dist j i _ _ e hc rfl rfl z (by rw [ho, hσ, w])
        exact ⟨ws', (upd_ne nq).trans g1, g2, g3, g4⟩
      | some (some (.ref q)), .obj ea C ns ds', ⟨hea, ws', dx, g1, g2, g3, g4, g5⟩ =>
        have nq : q ≠ p := fun w => r.dist j i _ _ e hc rfl rfl z (by rw [ho, hσ, w])
        exact ⟨hea, ws', dx, (upd_ne nq).trans g1, g2, g3, g4, g5⟩
  · have back : ∀ (m : Nat) (x : L), (l.set i (some (.obj ea C ns' ds)))[m]? = some (some x) → owned x = true → ∃ y, l[m]? = some (some y) ∧ owned y = true := fun m x e o => by
      by_cases z : m = i
      · subst z; exact ⟨_, hc, rfl⟩
      · rw [List.getElem?_set_ne (Ne.symm z)] at e; exact ⟨x, e, o⟩
    obtain ⟨x', e1', o1'⟩ := back j x e1 o1
    obtain ⟨y', e2', o2'⟩ := back k y e2 o2
    exact r.dist j k x' y' e1' e2' o1' o2' ne
theorem ss_fldO {C : Addr} {i : Nat} {f : Str} {t : TE} {a : M D} (hC : Cls c.K C) (hN : NoAttr c.K C f) (ha : SE c E t a) : SS c E (sFld c.K (tVar i) t f) (sfldO C i f a) := by
  intro G0 H0 G H σ l pot r De post
  refine Sn.goS ha r post fun x dx p G1 H1 s1 r1 hx post1 => ?_
  split at post1
  · rename_i ea C' ns ds hc
    split at post1
    · rename_i z
      obtain ⟨rfl, z1, z2, z3⟩ := z
      obtain ⟨q, vs, ddx, _, hσ, h1, h2, _⟩ := obj_at r1 hc
      have hlen : ns.length = vs.length := z1.trans (AtL.length h2).symm
      refine ⟨.ref q, hσ, q, C', ddx, _, rfl, h1, hC, hN, ?_, ?_⟩
      · rw [List.length_zip, ← hlen, Nat.min_self]; exact z2
      · rw [putF_zip hlen z3]
        exact PostS.of post1 (r1.writeO hc hσ (AtL.append h2 (.cons hx .nil)))
    · exact post1.elim
  · exact post1.elim
abbrev RI := List D → List Int → R (List Str × List D)
def spI (c : Cfg) (C : Addr) (f : RI) : Sp := fun vs H Q E => ∃ x dx vs' H1 G ds pot, vs = .ref x :: vs' ∧ H = upd (upd H1 dx (.own x)) x (.ins C dx []) ∧ H1 x = none ∧ H1 dx = none ∧ dx ≠ x ∧ AtL c.P G vs' ds ∧ Ex G H1 ∧ (∀ a, c.B a → G a = none) ∧ c.inv pot H1 ∧ (match f ds pot with
  | .ok (ns, es) p => ∀ G' H' dx' ws, Stp c.B G H1 G' H' → H' x = some (.ins C dx' (ns.zip ws)) → AtL c.P G' ws es → G' x = none → c.inv p H' → Q .non H'
  | .err m p => ∀ H', Stp c.B G H1 G H' → c.inv p H' → E (.ref (c.ec m)) none H'
  | .bad => False)
def mmake (C : Addr) (f : RI) (a : M (List D)) : M D := mbind a fun ds _ p => match f ds p with
  | .ok (ns, es) q => .ok (.ins C ns es) q
  | .err m q => .err m q
  | .bad => .bad
theorem se_make {C : Addr} {f : RI} {E' : XK} {t : TA} {a : M (List D)} (ha : SA c (fun _ => E') t a) : SE c (fun _ => E') (StX.tMakeR C (spI c C f) E' t) (mmake C f a) := by
  intro G0 H0 G H σ l pot r Q post
  refine Sn.go ha r post fun x dx p G1 H1 s1 r1 hx post1 => ?_
  intro y dy hy hdy ne
  refine ⟨y, dy, x, H1, G1, dx, p, rfl, rfl, hy, hdy, ne, hx, r1.stp.gh, r1.gP, r1.pot, ?_⟩
  cases e : f dx p with
  | bad => rw [e] at post1; exact post1.elim
  | err m q =>
    rw [e] at post1
    exact fun H' s hp => post1 G1 H' (Ex.refl _) (r1.step s hp)
  | ok z q =>
    obtain ⟨ns, es⟩ := z
    rw [e] at post1
    intro G' H' dx' ws s h1 h2 h3 h4
    have rr := r1.step s h4
    have h0 : H0 y = none := r1.stp.there y hy
    have hP : ¬ c.B y := fun z => r.hP y z h0
    have r2 := Rel.freeze rr h1 h0 hP (fun i x e ho => r1.own_ne hy i x e ho) h3
    refine ⟨rfl, post1 (.ref y) _ H' ⟨s.gg.trans (Ex.new h3), r2.stp.gh, s.keep, s.there, fun b u e => ?_⟩ r2 (.ins upd_same (AtL.mono (Ex.new h3) h2))⟩
    by_cases z : b = y
    · subst z; exact .inr hy
    · rw [upd_ne z] at e; exact s.new b u e
/-- an __init__ of n parameters with self, and m slots; self stands at x -/
def outI (x C : Addr) : O → R (List Str × List D)
  | .nx l p => match l[0]? with
    | some (some (L.obj y C' ns ds)) => if y = x ∧ C' = C then .ok (ns, ds) p else .bad
    | _ => .bad
  | .err k _ p => .err k p
  | _ => .bad
def locI (x C : Addr) (n : Nat) (ds : List D) : Loc := some (.obj x C [] []) :: (ds.map (fun d => some (.dat d)) ++ List.replicate (n - (ds.length + 1)) none)
def denI (x C : Addr) (n m : Nat) (s : MS) : RI := fun ds pot => if ds.length + 1 = n then outI x C (s (locI x C m ds) pot) else .bad
end
section
variable {c : Cfg} {P : Program} {w : World} {mg : Str → Option Value} {base : Heap}
theorem startI_rel {G H1 : Hp} {N : List Str} {vs : List V} {ds : List D} {pot : List Int} {x dx C : Addr} (a : AtL c.P G vs ds) (gh : Ex G H1) (gP : (∀ a, c.B a → G a = none)) (hp : c.inv pot H1) (hx : H1 x = none) (hdx : H1 dx = none) (ne : dx ≠ x) :
    Rel c G H1 G (upd (upd H1 dx (.own x)) x (.ins C dx [])) (L2.start N (.ref x :: vs)) (locI x C N.length ds) pot := by
  have hl := AtL.length a
  have hP1 : ∀ a, c.B a → a ≠ dx := fun a b z => c.full hp a b (by rw [z]; exact hdx)
  have hP2 : ∀ a, c.B a → a ≠ x := fun a b z => c.full hp a b (by rw [z]; exact hx)
  have s1 : Stp c.B G H1 G (upd H1 dx (.own x)) := Stp.lay0 gh hdx
  have s2 : Stp c.B G (upd H1 dx (.own x)) G (upd (upd H1 dx (.own x)) x (.ins C dx [])) := Stp.lay0 s1.gh (by rw [upd_ne (Ne.symm ne)]; exact hx)
  have hG : G x = none := by
    cases e : G x with
    | none => rfl
    | some u => have := gh x u e; rw [hx] at this; cases this
  have tl : ∀ (i : Nat) (y : L), (ds.map (fun d => some (L.dat d)) ++ List.replicate (N.length - (ds.length + 1)) none)[i]? = some (some y) → ∃ d v, y = .dat d ∧ (vs.map some ++ List.replicate (N.length - (vs.length + 1)) none)[i]? = some (some v) ∧ At c.P G v d := fun i y e => by
    by_cases hi : i < ds.length
    · rw [List.getElem?_append_left (by simpa using hi), List.getElem?_map] at e
      have ed := List.getElem?_eq_getElem hi
      rw [ed] at e
      cases e
      obtain ⟨v, ev, av⟩ := AtL.get a ed
      refine ⟨_, v, rfl, ?_, av⟩
      rw [List.getElem?_append_left (by simp [hl, hi]), List.getElem?_map, ev]
      rfl
    · rw [List.getElem?_append_right (by simpa using hi), List.getElem?_replicate] at e
      split at e <;> cases e
  have est : L2.start N (.ref x :: vs) = some (.ref x) :: (vs.map some ++ List.replicate (N.length - (vs.length + 1)) none) := by
    unfold L2.start
    rw [List.map_cons, List.cons_append, List.length_cons]
  refine ⟨s1.trans s2, c.ext (fun a b => by rw [upd_ne (hP2 a b), upd_ne (hP1 a b)]) hp, gP, c.full hp, by rw [est]; simp [locI, hl], fun i y e => ?_, fun i j y z e1 e2 o1 o2 n => ?_⟩
  · rw [est]
    cases i with
    | zero =>
      cases e
      exact ⟨rfl, [], dx, upd_same, .nil, hG, hx, fun b => hP2 x b rfl⟩
    | succ i =>
      obtain ⟨d, v, rfl, ev, av⟩ := tl i y (by simpa [locI] using e)
      rw [List.getElem?_cons_succ, ev]
      exact av
  · exfalso
    cases i with
    | zero =>
      cases j with
      | zero => exact n rfl
      | succ j =>
        obtain ⟨d, v, rfl, _⟩ := tl j z (by simpa [locI] using e2)
        cases o2
    | succ i =>
      obtain ⟨d, v, rfl, _⟩ := tl i y (by simpa [locI] using e1)
      cases o1
theorem init_ss {nm qual : Str} {st : Stmt} {f C : Addr} {fd : FuncData} {N ps : List Str} {k : Nat} {s : MS} {g : RI} (F : Fun c.K nm qual st f fd) (S : FnScope N ps (defScope st)) (hb : Binds c.K fd ps [])
    (hg : ∀ x ds pot, ds.length + 1 = ps.length → g ds pot ≠ .bad → denI x C ps.length N.length s ds pot = g ds pot) (hlen : ∀ ds pot, g ds pot ≠ .bad → ds.length + 1 = ps.length)
    (hbody : ∀ (cdv : Value) (A : Around) (outer : List Env) (sh : Shared) (H : Hp) (E' : XK), Room k (A.deeper (PyProof.Rows.envOfC qual (defScope st) sh.heap.objs.size f cdv)) →
      ∃ t, PSs (cxOf (L2.CX P w) P w c.K mg base N qual (defScope st) f cdv A outer sh H E') (defBody st) t ∧ SS c (fun _ => E') t s) :
    FnR P w c.K mg base (L2.CX P w) (k + 1) f (spI c C g) := by
  have nb : ∀ {ds pot} {R' : R (List Str × List D) → Prop}, R' (g ds pot) → (R' .bad → False) → g ds pot ≠ .bad := fun {ds pot R'} h hb z => by rw [z] at h; exact hb h
  have lenOf : ∀ vs H Q E, spI c C g vs H Q E → vs.length = ps.length := fun vs H Q E h => by
    obtain ⟨x, dx, vs', H1, G, ds, pot, rfl, rfl, hx, hdx, ne, a, gh, gP, hp, h⟩ := h
    have hd := hlen ds pot (fun z => by rw [z] at h; exact h)
    rw [List.length_cons, AtL.length a]
    exact hd
  have ok : FnOk P w c.K mg base (L2.CX P w) (k + 1) f fd ps (spI c C g) := by
    refine F.okX S lenOf (fun cdv A outer sh H vs Q E hr h => ?_)
    obtain ⟨x, dx, vs', H1, G, ds, pot, rfl, rfl, hx, hdx, ne, a, gh, gP, hp, h⟩ := h
    have nbad : g ds pot ≠ .bad := fun z => by rw [z] at h; exact h
    have hd := hlen ds pot nbad
    obtain ⟨t, ht, hs⟩ := hbody cdv A outer sh _ E hr
    refine ⟨t, ht, hs G H1 G _ _ _ _ (startI_rel a gh gP hp hx hdx ne) _ ?_⟩
    have e := hg x ds pot hd nbad
    unfold denI at e
    rw [if_pos hd] at e
    rw [← e] at h
    cases e2 : s (locI x C N.length ds) pot with
    | nx l p =>
      rw [e2] at h
      unfold outI at h
      dsimp only at h
      split at h
      · rename_i z
        split at z
        · rename_i y C' ns es hl
          split at z
          · rename_i w
            obtain ⟨rfl, rfl⟩ := w
            cases z
            intro G' H' σ' eg r
            obtain ⟨q, ws, dx', eq, hσ, g1, g2, g3, _, _⟩ := obj_at r hl
            subst eq
            exact h G' H' dx' ws r.stp g1 g2 g3 r.pot
          · cases z
        · cases z
      · rename_i z
        split at z
        · split at z
          · cases z
          · cases z
        · cases z
      · exact h.elim
    | rt d p => rw [e2] at h; exact h.elim
    | err m l p =>
      rw [e2] at h
      exact fun G' H' σ' eg r => h H' ⟨Ex.refl _, r.stp.gg.trans r.stp.gh, r.stp.keep, r.stp.there, fun _ _ z => .inl z⟩ r.pot
    | bk l p => rw [e2] at h; exact h.elim
    | ct l p => rw [e2] at h; exact h.elim
    | bad => rw [e2] at h; exact h.elim
  have raw := ok.raw hb .nil
  exact raw.imp fun vs H Q E h => by rw [List.append_nil]; exact h
end
end Den
namespace Den
open PySem L2
def rListF (K : PySem.W.Frag) : List V → Hp → VK → Prop := fun xs H Q => ∃ p ys, xs = [.ref p] ∧ (SqL K H p ys ∨ SqT K H p ys) ∧ ∀ l, H l = none → Q (.ref l) (upd H l (.lst ys))
def rTupleF (K : PySem.W.Frag) : List V → Hp → VK → Prop := fun xs H Q => ∃ p ys, xs = [.ref p] ∧ ((SqL K H p ys ∧ ∀ l, H l = none → Q (.ref l) (upd H l (.tup ys))) ∨ (SqT K H p ys ∧ Q (.ref p) H))
def rMax2F : List V → Hp → VK → Prop := fun xs H Q => ∃ i j, xs = [.int i, .int j] ∧ Q (.int (if j > i then j else i)) H
def rMin2F : List V → Hp → VK → Prop := fun xs H Q => ∃ i j, xs = [.int i, .int j] ∧ Q (.int (if j < i then j else i)) H
def rIntF : List V → Hp → VK → Prop := fun xs H Q => (∃ i, xs = [.int i] ∧ Q (.int i) H) ∨ ∃ k, xs = [.bl k] ∧ Q (.int (if k then 1 else 0)) H
def rIsNF : R2 := fun x y H Q => y = .non ∧ Q (.bl (decide (x = .non))) H
def rNotNF : R2 := fun x y H Q => y = .non ∧ Q (.bl (!decide (x = .non))) H
section
variable {c : Cfg} {E : St → XK}
end
theorem pe_gint {X : Cx} {x : Str} {i : Int} {pos : Pos} (hg : Gl X x) (h : ∃ t, X.mg x = some (.int i t)) (hd : (x == ("__debug__" : Str)) = false := by decide) : PE X (.Name x pos) (tC (.int i)) := by
  refine ⟨fun pins s σ H Q I hq => ?_⟩
  obtain ⟨t, h⟩ := h
  exact (pe_glob hg h (v := .int i) ⟨t, rfl⟩ hd).run pins s σ H Q I hq
theorem getter_of {CX : CXT} {P : Program} {w : World} {K : PySem.W.Frag} {mg : Str → Option Value} {base : Heap} {x qual f : Str} {st : Stmt} {g C : Addr} {fd : FuncData} {p1 p2 p3 : Pos} (F : Fun K x qual st g fd) (S : FnScope ["self"] ["self"] (defScope st))
    (hb : defBody st = [.Return (some (.Attribute (.Name "self" p1) f p2)) p3]) (hN : (["self"] : List Str)[0]? = some ("self" : Str)) (cl : Cls K C) (n : NoAttr K C f) : FnOk P w K mg base CX 1 g fd ["self"] (getSp C f) := by
  obtain ⟨oc, od, kV, doc, pm, an, cdv, ct, osl, rfl, lk, hcd⟩ := F.ex
  exact fn_getter (k := 0) lk hcd S hN hb cl n
end Den
namespace Den
open PySem L2
@[simp] theorem mret_ev {α : Type} (a : α) (l : Loc) (p : List Int) : mret a l p = .ok a p := rfl
@[simp] theorem mbind_ev {α β : Type} (a : M α) (k : α → M β) (l : Loc) (p : List Int) : mbind a k l p = (a l p).bind fun x p' => k x l p' := rfl
@[simp] theorem bind_ok {α β : Type} (a : α) (p : List Int) (k : α → List Int → R β) : (R.ok a p).bind k = k a p := rfl
@[simp] theorem bind_err {α β : Type} (n : Nat) (p : List Int) (k : α → List Int → R β) : (R.err n p : R α).bind k = .err n p := rfl
@[simp] theorem bind_bad {α β : Type} (k : α → List Int → R β) : (R.bad : R α).bind k = .bad := rfl
@[simp] theorem mlift_some {α : Type} (a : α) (l : Loc) (p : List Int) : mlift (some a) l p = .ok a p := rfl
@[simp] theorem mlift_none {α : Type} (l : Loc) (p : List Int) : (mlift none : M α) l p = .bad := rfl
theorem mvar_ev {i : Nat} {l : Loc} {p : List Int} {d : D} (h : l[i]? = some (some (.dat d))) : mvar i l p = .ok d p := by
  unfold mvar
  rw [h]
@[simp] theorem op2_ev (f : D → D → Option D) (a b : M D) (l : Loc) (p : List Int) : op2 f a b l p = (a l p).bind fun x p' => (b l p').bind fun y p'' => mlift (f x y) l p'' := rfl
@[simp] theorem op1_ev (f : D → Option D) (a : M D) (l : Loc) (p : List Int) : op1 f a l p = (a l p).bind fun x p' => mlift (f x) l p' := rfl
@[simp] theorem opn_ev (f : List D → Option D) (a : M (List D)) (l : Loc) (p : List Int) : opn f a l p = (a l p).bind fun x p' => mlift (f x) l p' := rfl
@[simp] theorem anil_ev (l : Loc) (p : List Int) : anil l p = .ok [] p := rfl
@[simp] theorem acons_ev (a : M D) (b : M (List D)) (l : Loc) (p : List Int) : acons a b l p = (a l p).bind fun x p' => (b l p').bind fun ys p'' => .ok (x :: ys) p'' := rfl
@[simp] theorem mtest_ev (a : M D) (l : Loc) (p : List Int) : mtest a l p = (a l p).bind fun x p' => mlift (boolOf x) l p' := rfl
@[simp] theorem boolOf_bl (b : Bool) : boolOf (.bl b) = some b := rfl
@[simp] theorem mcall_ev (f : RF) (a : M (List D)) (l : Loc) (p : List Int) : mcall f a l p = (a l p).bind fun x p' => f x p' := rfl
@[simp] theorem mand_ev (a b : M Bool) (l : Loc) (p : List Int) : mand a b l p = (a l p).bind fun x p' => if x = true then b l p' else .ok false p' := by
  unfold mand mbind
  congr 1; funext x p'; cases x <;> rfl
@[simp] theorem mor_ev (a b : M Bool) (l : Loc) (p : List Int) : mor a b l p = (a l p).bind fun x p' => if x = true then .ok true p' else b l p' := by
  unfold mor mbind
  congr 1; funext x p'; cases x <;> rfl
@[simp] theorem mnot_ev (a : M Bool) (l : Loc) (p : List Int) : mnot a l p = (a l p).bind fun x p' => .ok (!x) p' := rfl
@[simp] theorem mif_ev {α : Type} (t : M Bool) (a b : M α) (l : Loc) (p : List Int) : mif t a b l p = (t l p).bind fun x p' => if x = true then a l p' else b l p' := by
  unfold mif mbind
  congr 1; funext x p'; cases x <;> rfl
@[simp] theorem vand_ev (a b : M D) (l : Loc) (p : List Int) : vand a b l p = (mtest a l p).bind fun x p' => if x = true then b l p' else .ok (.bl false) p' := by
  unfold vand mbind
  congr 1; funext x p'; cases x <;> rfl
@[simp] theorem vor_ev (a b : M D) (l : Loc) (p : List Int) : vor a b l p = (mtest a l p).bind fun x p' => if x = true then .ok (.bl true) p' else b l p' := by
  unfold vor mbind
  congr 1; funext x p'; cases x <;> rfl
@[simp] theorem vnot_ev (a : M D) (l : Loc) (p : List Int) : vnot a l p = (mtest a l p).bind fun x p' => .ok (.bl (!x)) p' := rfl
@[simp] theorem mtru_ev (a : M D) (l : Loc) (p : List Int) : mtru a l p = (a l p).bind fun x p' => mlift (truOf x) l p' := rfl
@[simp] theorem mtrue_ev (l : Loc) (p : List Int) : mtrue l p = .ok true p := rfl
@[simp] theorem mfreeze_ev (a : M (List D)) (l : Loc) (p : List Int) : mfreeze a l p = (a l p).bind fun x p' => .ok (.lst x) p' := rfl
@[simp] theorem mshort_ev (a : M (List D)) (l : Loc) (p : List Int) : mshort a l p = (a l p).bind fun x p' => if x.length ≤ 1000 then .ok x p' else .bad := by
  unfold mshort mbind
  congr 1; funext x p'
  by_cases h : x.length ≤ 1000
  · simp only [if_pos h]; rfl
  · simp only [if_neg h]
@[simp] theorem mtupd_ev (a : M (List D)) (l : Loc) (p : List Int) : mtupd a l p = (mshort a l p).bind fun x p' => .ok (.tup x) p' := rfl
@[simp] theorem mlistN_ev (a : M (List D)) (l : Loc) (p : List Int) : mlistN a l p = (a l p).bind fun x p' => mlift (fSeq1 x) l p' := rfl
@[simp] theorem mpop_nil (l : Loc) (p : List Int) (a : M D) (h : a l p = .ok .pot []) : mpop a l p = .bad := by
  unfold mpop mbind; rw [h]; rfl
@[simp] theorem mfld_ev (C : Addr) (f : Str) (a : M D) (l : Loc) (p : List Int) : mfld C f a l p = (a l p).bind fun x p' => mlift (fFld C f x) l p' := rfl
@[simp] theorem sseq_nx (a b : MS) (l l' : Loc) (p p' : List Int) (h : a l p = .nx l' p') : sseq a b l p = b l' p' := by
  unfold sseq; rw [h]
def O.bind (o : O) (k : Loc → List Int → O) : O := match o with
  | .nx l p => k l p
  | o => o
@[simp] theorem O.bind_nx (l : Loc) (p : List Int) (k : Loc → List Int → O) : (O.nx l p).bind k = k l p := rfl
@[simp] theorem O.bind_rt (d : D) (p : List Int) (k : Loc → List Int → O) : (O.rt d p).bind k = .rt d p := rfl
@[simp] theorem O.bind_err (n : Nat) (l : Loc) (p : List Int) (k : Loc → List Int → O) : (O.err n l p).bind k = .err n l p := rfl
@[simp] theorem O.bind_bad (k : Loc → List Int → O) : O.bad.bind k = .bad := rfl
@[simp] theorem sseq_ev (a b : MS) (l : Loc) (p : List Int) : sseq a b l p = (a l p).bind b := by
  unfold sseq O.bind; cases a l p <;> rfl
@[simp] theorem sskip_ev (l : Loc) (p : List Int) : sskip l p = .nx l p := rfl
def R.toO {α : Type} (r : R α) (l : Loc) (k : α → List Int → O) : O := match r with
  | .ok x p => k x p
  | .err n p => .err n l p
  | .bad => .bad
@[simp] theorem toO_ok {α : Type} (a : α) (p : List Int) (l : Loc) (k : α → List Int → O) : (R.ok a p).toO l k = k a p := rfl
@[simp] theorem toO_err {α : Type} (n : Nat) (p : List Int) (l : Loc) (k : α → List Int → O) : (R.err n p : R α).toO l k = .err n l p := rfl
@[simp] theorem toO_bad {α : Type} (l : Loc) (k : α → List Int → O) : (R.bad : R α).toO l k = .bad := rfl
theorem sbind_ev {α : Type} (a : M α) (k : α → MS) (l : Loc) (p : List Int) : sbind a k l p = (a l p).toO l fun x p' => k x l p' := by
  unfold sbind R.toO; cases a l p <;> rfl
@[simp] theorem sif_ev (t : M Bool) (a b : MS) (l : Loc) (p : List Int) : sif t a b l p = (t l p).toO l fun x p' => if x = true then a l p' else b l p' := by
  unfold sif; rw [sbind_ev]; congr 1; funext x p'; cases x <;> rfl
@[simp] theorem sret_ev (a : M D) (l : Loc) (p : List Int) : sret a l p = (a l p).toO l fun x p' => .rt x p' := by unfold sret; rw [sbind_ev]
@[simp] theorem sdrop_ev (a : M D) (l : Loc) (p : List Int) : sdrop a l p = (a l p).toO l fun x p' => .nx l p' := by unfold sdrop; rw [sbind_ev]
@[simp] theorem sasg_ev (a : M D) (tg : D → Loc → Option Loc) (l : Loc) (p : List Int) : sasg a tg l p = (a l p).toO l fun x p' => match tg x l with
  | some l' => .nx l' p'
  | none => .bad := by unfold sasg; rw [sbind_ev] <;> rfl
@[simp] theorem sown_ev (a : M (List D)) (i : Nat) (l : Loc) (p : List Int) : sown a i l p = (a l p).toO l fun x p' => if i < l.length then .nx (l.set i (some (.cell x))) p' else .bad := by unfold sown; rw [sbind_ev]
@[simp] theorem sraise_ev (n : Nat) (l : Loc) (p : List Int) : sraise n l p = .err n l p := rfl
@[simp] theorem sfor_ev (a : M (List D)) (tg : D → Loc → Option Loc) (body : MS) (l : Loc) (p : List Int) : sfor a tg body l p = (a l p).toO l fun x p' => loop tg body x l p' := by unfold sfor; rw [sbind_ev]
@[simp] theorem outR_rt (d : D) (p : List Int) : outR (.rt d p) = .ok d p := rfl
@[simp] theorem outR_nx (l : Loc) (p : List Int) : outR (.nx l p) = .ok .non p := rfl
@[simp] theorem outR_err (n : Nat) (l : Loc) (p : List Int) : outR (.err n l p) = .err n p := rfl

@[simp] theorem fEq_int (i j : Int) : fEq (.int i) (.int j) = some (.bl (decide (i = j))) := by
  show (if scal (V.int i) (V.int j) = true then some (D.bl (decide (V.int i = V.int j))) else none) = _
  simp [scal]
@[simp] theorem fNe_int (i j : Int) : fNe (.int i) (.int j) = some (.bl (!decide (i = j))) := by
  show (if scal (V.int i) (V.int j) = true then some (D.bl (!decide (V.int i = V.int j))) else none) = _
  simp [scal]
theorem fEq_str (i j : Str) : fEq (.str i) (.str j) = some (.bl (decide (i = j))) := by
  show (if scal (V.str i) (V.str j) = true then some (D.bl (decide (V.str i = V.str j))) else none) = _
  simp [scal]
@[simp] theorem fAdd_int (i j : Int) : fAdd (.int i) (.int j) = some (.int (i + j)) := rfl
@[simp] theorem fSub_int (i j : Int) : fSub (.int i) (.int j) = some (.int (i - j)) := rfl
@[simp] theorem fLt_int (i j : Int) : fLt (.int i) (.int j) = some (.bl (decide (i < j))) := rfl
@[simp] theorem fLe_int (i j : Int) : fLe (.int i) (.int j) = some (.bl (decide (i ≤ j))) := rfl
@[simp] theorem fGt_int (i j : Int) : fGt (.int i) (.int j) = some (.bl (decide (j < i))) := rfl
@[simp] theorem fGe_int (i j : Int) : fGe (.int i) (.int j) = some (.bl (decide (j ≤ i))) := rfl
@[simp] theorem fNeg_int (i : Int) : fNeg (.int i) = some (.int (-i)) := rfl
theorem fMod_int {i j : Int} (h : 0 < j) : fMod (.int i) (.int j) = some (.int (i % j)) := by
  show (if 0 < j then _ else _) = _
  rw [if_pos h]
theorem fDiv_int {i j : Int} (h : 0 < j ∧ j.natAbs < 1073741824) : fDiv (.int i) (.int j) = some (.int (i / j)) := by
  show (if 0 < j ∧ j.natAbs < 1073741824 then _ else _) = _
  rw [if_pos h]
theorem fMul_int {i j : Int} (h : i.natAbs < 18446744073709551616 ∨ j.natAbs < 18446744073709551616) : fMul (.int i) (.int j) = some (.int (i * j)) := by
  show (if i.natAbs < 18446744073709551616 ∨ j.natAbs < 18446744073709551616 then _ else _) = _
  rw [if_pos h]
@[simp] theorem fIsN_ev (d : D) : fIsN d .non = some (.bl (isNon d)) := rfl
@[simp] theorem fNotN_ev (d : D) : fNotN d .non = some (.bl (!isNon d)) := rfl
@[simp] theorem fLen_lst (ds : List D) : fLen [.lst ds] = some (.int ds.length) := rfl
@[simp] theorem fLen_tup (ds : List D) : fLen [.tup ds] = some (.int ds.length) := rfl
@[simp] theorem fInt_int (i : Int) : fInt [.int i] = some (.int i) := rfl
@[simp] theorem fAbs_int (i : Int) : fAbs [.int i] = some (.int (if i < 0 then -i else i)) := rfl
@[simp] theorem fMax2_int (i j : Int) : fMax2 [.int i, .int j] = some (.int (if j > i then j else i)) := rfl
@[simp] theorem fMin2_int (i j : Int) : fMin2 [.int i, .int j] = some (.int (if j < i then j else i)) := rfl
@[simp] theorem seqOf_lst (ds : List D) : seqOf (.lst ds) = some ds := rfl
@[simp] theorem seqOf_tup (ds : List D) : seqOf (.tup ds) = some ds := rfl
@[simp] theorem lstOf_lst (ds : List D) : lstOf (.lst ds) = some ds := rfl
@[simp] theorem tupOf_tup (ds : List D) : tupOf (.tup ds) = some ds := rfl
@[simp] theorem fSeq1_lst (ds : List D) : fSeq1 [.lst ds] = some ds := rfl
@[simp] theorem fSeq1_tup (ds : List D) : fSeq1 [.tup ds] = some ds := rfl
@[simp] theorem fTuple_lst (ds : List D) : fTuple [.lst ds] = some (.tup ds) := rfl
@[simp] theorem fTuple_tup (ds : List D) : fTuple [.tup ds] = some (.tup ds) := rfl
@[simp] theorem truOf_lst (ds : List D) : truOf (.lst ds) = some (!ds.isEmpty) := rfl
@[simp] theorem truOf_tup (ds : List D) : truOf (.tup ds) = some (!ds.isEmpty) := rfl
@[simp] theorem truOf_bl (b : Bool) : truOf (.bl b) = some b := rfl
@[simp] theorem truOf_int (i : Int) : truOf (.int i) = some (i != 0) := rfl
theorem atI_nat' {ds : List D} {i : Int} {d : D} (h0 : 0 ≤ i) (h : ds[i.toNat]? = some d) : atI ds i = some d := by
  obtain ⟨n, rfl⟩ := Int.eq_ofNat_of_zero_le h0
  exact atI_nat (by simpa using h)
@[simp] theorem fIx_lst (ds : List D) (i : Int) : fIx (.lst ds) (.int i) = atI ds i := rfl
@[simp] theorem fIx_tup (ds : List D) (i : Int) : fIx (.tup ds) (.int i) = atI ds i := rfl
@[simp] theorem atI_0 (d : D) (ds : List D) : atI (d :: ds) 0 = some d := atI_nat (j := 0) rfl
@[simp] theorem atI_1 (d e : D) (ds : List D) : atI (d :: e :: ds) 1 = some e := atI_nat (j := 1) rfl
@[simp] theorem atI_2 (d e f : D) (ds : List D) : atI (d :: e :: f :: ds) 2 = some f := atI_nat (j := 2) rfl
@[simp] theorem atI_3 (d e f g : D) (ds : List D) : atI (d :: e :: f :: g :: ds) 3 = some g := atI_nat (j := 3) rfl
@[simp] theorem isNon_non : isNon .non = true := rfl
@[simp] theorem isNon_int (i : Int) : isNon (.int i) = false := rfl
@[simp] theorem isNon_tup (ds : List D) : isNon (.tup ds) = false := rfl
@[simp] theorem isNon_lst (ds : List D) : isNon (.lst ds) = false := rfl
@[simp] theorem lset_lt (i : Nat) (d : D) (l : Loc) (h : i < l.length) : gset i d l = some (l.set i (some (.dat d))) := if_pos h
end Den
namespace Den
open PySem L2
theorem loop_run {tg : D → Loc → Option Loc} {body : MS} (I : Nat → Loc → List Int → Prop) : ∀ {ds : List D} {k : Nat} {l : Loc} {p : List Int}, I k l p →
    (∀ (i : Nat) d l p, ds[i]? = some d → I (k + i) l p → ∃ l1, tg d l = some l1 ∧ ∃ l2 p2, (body l1 p = .nx l2 p2 ∨ body l1 p = .ct l2 p2) ∧ I (k + i + 1) l2 p2) →
    ∃ l' p', loop tg body ds l p = .nx l' p' ∧ I (k + ds.length) l' p'
  | [], k, l, p, h0, _ => ⟨l, p, rfl, h0⟩
  | d :: ds, k, l, p, h0, hs => by
    obtain ⟨l1, e1, l2, p2, e2, h2⟩ := hs 0 d l p rfl h0
    obtain ⟨l', p', e3, h3⟩ := loop_run I (ds := ds) (k := k + 1) (l := l2) (p := p2) h2 fun i d' l p hd hI => by
      have e : k + (i + 1) = k + 1 + i := by omega
      have := hs (i + 1) d' l p (by simpa using hd) (by rw [e]; exact hI)
      rw [e] at this
      exact this
    refine ⟨l', p', ?_, by rw [List.length_cons, show k + (ds.length + 1) = k + 1 + ds.length by omega]; exact h3⟩
    unfold loop
    rw [e1]
    rcases e2 with e2 | e2
    · simp only [e2]; exact e3
    · simp only [e2]; exact e3
theorem comp_run {i : Nat} {t : M Bool} {e : M D} {l : Loc} (hi : i < l.length) (f : D → Option D) {p : List Int} : ∀ {ds : List D}, (∀ d ∈ ds, turn t e (l.set i (some (.dat d))) p = .ok (f d) p) → comp i t e ds l p = .ok (ds.filterMap f) p
  | [], _ => rfl
  | d :: ds, h => by
    unfold comp
    rw [if_pos hi, h d List.mem_cons_self]
    have ih := comp_run hi f (p := p) (ds := ds) fun d' hd => h d' (List.mem_cons_of_mem _ hd)
    simp only [ih]
    rw [List.filterMap_cons]
    cases f d <;> rfl
theorem comp_map {i : Nat} {e : M D} {l : Loc} (hi : i < l.length) (f : D → D) {p : List Int} {ds : List D} (h : ∀ d ∈ ds, e (l.set i (some (.dat d))) p = .ok (f d) p) : comp i mtrue e ds l p = .ok (ds.map f) p := by
  rw [comp_run hi (fun d => some (f d)) fun d hd => ?_]
  · rw [List.filterMap_eq_map']
  · unfold turn
    rw [mbind_ok (show mtrue (l.set i (some (.dat d))) p = .ok true p from rfl), if_pos rfl, mbind_ok (h d hd)]
    rfl
theorem comp_filter {i : Nat} {t : M Bool} {e : M D} {l : Loc} (hi : i < l.length) (b : D → Bool) {p : List Int} {ds : List D} (h : ∀ d ∈ ds, t (l.set i (some (.dat d))) p = .ok (b d) p) (he : ∀ d ∈ ds, e (l.set i (some (.dat d))) p = .ok d p) : comp i t e ds l p = .ok (ds.filter b) p := by
  rw [comp_run hi (fun d => if b d = true then some d else none) fun d hd => ?_]
  · congr 1
    clear h he
    induction ds with
    | nil => rfl
    | cons d ds ih =>
      rw [List.filterMap_cons, List.filter_cons, ih]
      cases b d <;> simp
  · unfold turn
    rw [mbind_ok (h d hd)]
    cases hb : b d with
    | true => rw [if_pos rfl, if_pos rfl, mbind_ok (he d hd)]; rfl
    | false => rw [if_neg Bool.false_ne_true, if_neg Bool.false_ne_true]; rfl
/-- elements that draw -/
theorem comp_ex {i : Nat} {e : M D} {l : Loc} (hi : i < l.length) (Qd : D → D → Prop) : ∀ {ds : List D} {p : List Int}, (∀ d ∈ ds, ∀ p, ∃ y p', e (l.set i (some (.dat d))) p = .ok y p' ∧ Qd d y) →
    ∃ ys p', comp i mtrue e ds l p = .ok ys p' ∧ ys.length = ds.length ∧ ∀ y ∈ ys, ∃ d ∈ ds, Qd d y
  | [], p, _ => ⟨[], p, rfl, rfl, fun _ h => nomatch h⟩
  | d :: ds, p, h => by
    obtain ⟨y, p1, e1, q1⟩ := h d List.mem_cons_self p
    obtain ⟨ys, p2, e2, q2, q3⟩ := comp_ex hi Qd (ds := ds) (p := p1) fun d' hd => h d' (List.mem_cons_of_mem _ hd)
    refine ⟨y :: ys, p2, ?_, by simp [q2], fun z hz => ?_⟩
    · unfold comp
      rw [if_pos hi]
      unfold turn
      rw [mbind_ok (show mtrue (l.set i (some (.dat d))) p = .ok true p from rfl), if_pos rfl, mbind_ok e1]
      simp only [mret_ev, e2]
      rfl
    · rcases List.mem_cons.mp hz with rfl | hz
      · exact ⟨d, List.mem_cons_self, q1⟩
      · obtain ⟨d', h1, h2⟩ := q3 z hz
        exact ⟨d', List.mem_cons_of_mem _ h1, h2⟩
theorem mcomp_ev {a : M (List D)} {i : Nat} {t : M Bool} {e : M D} {l : Loc} {p p' : List Int} {ds : List D} (ha : a l p = .ok ds p') (hl : ds.length ≤ 1000) : mcomp a i t e l p = comp i t e ds l p' := by
  unfold mcomp
  rw [mbind_ok ha, if_pos hl]
theorem rng1_int {n : Int} (h1 : n.natAbs < 4611686018427387904) : rng1 [.int n] = some (rngD 0 n.toNat) := by
  show (if n.natAbs < 4611686018427387904 then _ else _) = _
  rw [if_pos h1]
theorem rng2_int {i n : Int} (hi : i.natAbs < 4611686018427387904) (h1 : n.natAbs < 4611686018427387904) : rng2 [.int i, .int n] = some (rngD i (n - i).toNat) := by
  show (if i.natAbs < 4611686018427387904 ∧ n.natAbs < 4611686018427387904 then _ else _) = _
  rw [if_pos ⟨hi, h1⟩]
theorem rngD_len (lo : Int) (n : Nat) : (rngD lo n).length = n := by simp [rngD]
theorem rngD_get {lo : Int} {n i : Nat} {d : D} (h : (rngD lo n)[i]? = some d) : i < n ∧ d = .int (lo + i) := by
  have hi : i < n := by
    have := (List.getElem?_eq_some_iff.mp h).1
    rwa [rngD_len] at this
  refine ⟨hi, ?_⟩
  simp [rngD, hi] at h
  exact h.symm
theorem rngD_mem {lo : Int} {n : Nat} {d : D} (h : d ∈ rngD lo n) : ∃ i, i < n ∧ d = .int (lo + (i : Int)) := by
  obtain ⟨i, hi⟩ := List.getElem?_of_mem h
  exact ⟨i, rngD_get hi⟩

/-- a loop that only looks: its target's slot alone changes -/
theorem loop_env {i : Nat} {body : MS} (F : Option L → Loc) {p : List Int} (hF : ∀ o d, gset i d (F o) = some (F (some (.dat d)))) : ∀ {ds : List D}, (∀ d ∈ ds, body (F (some (.dat d))) p = .nx (F (some (.dat d))) p) → ∀ o, ∃ o', loop (gset i) body ds (F o) p = .nx (F o') p
  | [], _, o => ⟨o, rfl⟩
  | d :: ds, h, o => by
    obtain ⟨o', e⟩ := loop_env F (p := p) (body := body) hF (ds := ds) (fun d' hd => h d' (List.mem_cons_of_mem _ hd)) (some (.dat d))
    refine ⟨o', ?_⟩
    unfold loop
    rw [hF]
    simp only [h d List.mem_cons_self]
    exact e

theorem comp_mapL {α : Type} {i : Nat} {e : M D} {l : Loc} (hi : i < l.length) (g f : α → D) {p : List Int} : ∀ {xs : List α}, (∀ x ∈ xs, e (l.set i (some (.dat (g x)))) p = .ok (f x) p) → comp i mtrue e (xs.map g) l p = .ok (xs.map f) p
  | [], _ => rfl
  | x :: xs, h => by
    have ih := comp_mapL hi g f (p := p) (xs := xs) fun y hy => h y (List.mem_cons_of_mem _ hy)
    show comp i mtrue e (g x :: xs.map g) l p = _
    unfold comp
    rw [if_pos hi]
    unfold turn
    rw [mbind_ok (show mtrue (l.set i (some (.dat (g x)))) p = .ok true p from rfl), if_pos rfl, mbind_ok (h x List.mem_cons_self)]
    simp only [mret_ev, ih]
    rfl
theorem comp_filterL {α : Type} {i : Nat} {t : M Bool} {e : M D} {l : Loc} (hi : i < l.length) (g : α → D) (b : α → Bool) {p : List Int} : ∀ {xs : List α}, (∀ x ∈ xs, t (l.set i (some (.dat (g x)))) p = .ok (b x) p) → (∀ x ∈ xs, e (l.set i (some (.dat (g x)))) p = .ok (g x) p) → comp i t e (xs.map g) l p = .ok ((xs.filter b).map g) p
  | [], _, _ => rfl
  | x :: xs, h, he => by
    have ih := comp_filterL hi g b (p := p) (xs := xs) (fun y hy => h y (List.mem_cons_of_mem _ hy)) fun y hy => he y (List.mem_cons_of_mem _ hy)
    show comp i t e (g x :: xs.map g) l p = _
    unfold comp
    rw [if_pos hi]
    unfold turn
    rw [mbind_ok (h x List.mem_cons_self)]
    rw [List.filter_cons]
    cases hb : b x with
    | true =>
      rw [if_pos rfl, mbind_ok (he x List.mem_cons_self)]
      simp only [mret_ev, ih]
      rfl
    | false =>
      rw [if_neg Bool.false_ne_true]
      simp only [mret_ev, ih]
      rfl
theorem sfldO_ev {C : Addr} {i : Nat} {f : Str} {a : M D} {l : Loc} {p p' : List Int} {x : D} {ea : Addr} {ns : List Str} {ds : List D} (ha : a l p = .ok x p') (hl : l[i]? = some (some (.obj ea C ns ds))) (h : ns.length = ds.length ∧ ns.length < 1000 ∧ f ∉ ns) :
    sfldO C i f a l p = .nx (l.set i (some (.obj ea C (ns ++ [f]) (ds ++ [x])))) p' := by
  unfold sfldO
  rw [sbind_ev, ha]
  show (match l[i]? with
    | some (some (.obj ea C' ns ds)) => if C' = C ∧ ns.length = ds.length ∧ ns.length < 1000 ∧ f ∉ ns then O.nx (l.set i (some (.obj ea C (ns ++ [f]) (ds ++ [x])))) p' else .bad
    | _ => .bad) = _
  rw [hl]
  exact if_pos ⟨rfl, h⟩
end Den
namespace Den
open PySem L2 PyProof.Rows
section
variable {X : Cx} {tg : Expr}
def iSeq (K : PySem.W.Frag) (tl : TE) : TI := fun σ H R => tl σ H fun x H1 => ∃ a, x = .ref a ∧ (((∃ xs, SqL K H1 a xs) ∧ R (Itl K a) H1) ∨ ((∃ xs, SqT K H1 a xs) ∧ R (Itt K a) H1))
theorem pi_seq {l : Expr} {tl : TE} (hl : PE X l tl) : PI X tg l (iSeq X.K tl) := by
  refine ⟨fun pins s σ H R I h => ?_⟩
  refine thn (hl.run pins s σ H _ I h) fun v s1 ⟨x, H1, I1, r1, q1⟩ => ?_
  obtain ⟨a, e, q1⟩ := q1
  subst e
  cases r1
  rcases q1 with ⟨⟨xs, hq⟩, q⟩ | ⟨⟨xs, hq⟩, q⟩
  · obtain ⟨its, rv, p, hz⟩ := I1.list hq
    refine wpAny_pyIter_list p.isList ?_
    refine ⟨s1.heap.objs.size, [s1.heap.objs.size], _, _, H1, rfl, I1.kept (t' := s1.toks) fun b o e => Heap.get?_push_of_some _ e, turn_list a _, ⟨_, Heap.get?_push_size _ rfl, rfl, rfl⟩, fun b hb => ?_, q⟩
    have e : b = s1.heap.objs.size := by simpa using hb
    subst e
    exact I1.fpOk (Nat.le_refl _) (I1.hok.fresh (Nat.le_refl _))
  · obtain ⟨its, rv, p, hz⟩ := I1.tuple hq
    refine wpAny_pyIter_tuple (show s1.heap.IsTuple a its.toArray from p) ?_
    refine ⟨s1.heap.objs.size, [s1.heap.objs.size], _, _, H1, rfl, I1.kept (t' := s1.toks) fun b o e => Heap.get?_push_of_some _ e, turn_tuple a _, ⟨_, Heap.get?_push_size _ rfl, rfl, rfl⟩, fun b hb => ?_, q⟩
    have e : b = s1.heap.objs.size := by simpa using hb
    subst e
    exact I1.fpOk (Nat.le_refl _) (I1.hok.fresh (Nat.le_refl _))
end
section
variable {c : Cfg} {E : L2.St → XK}
theorem si_seq {t : TE} {a : M D} (ha : SE c E t a) : SI c E (iSeq c.K t) (mbind a fun x => mlift (seqOf x)) := by
  intro G0 H0 G H σ l pot r Q post
  refine Sn.go ha r post fun x dx p G1 H1 s1 r1 hx post1 => ?_
  cases dx with
  | lst ds =>
    obtain ⟨q, vs, rfl, h, al⟩ := at_lst hx
    exact ⟨q, rfl, .inl ⟨⟨vs, .inl (.inl (r1.stp.gh _ _ h))⟩, Post.ok post1 r1 (walks_list h al)⟩⟩
  | tup ds =>
    obtain ⟨q, vs, rfl, h, al⟩ := at_tup hx
    exact ⟨q, rfl, .inr ⟨⟨vs, .inl (.inl (r1.stp.gh _ _ h))⟩, Post.ok post1 r1 (walks_tup h al)⟩⟩
  | _ => exact post1.elim
end
end Den
namespace Den
open PySem L2
section
variable {c : Cfg} {E : L2.St → XK}
def fRg : D → D → Option (List D)
  | .int i, .int j => if i.natAbs < 4611686018427387904 ∧ j.natAbs < 4611686018427387904 ∧ (j - i).toNat ≤ 1000 then some (rngD i (j - i).toNat) else none
  | _, _ => none
def mrg (a b : M D) : M (List D) := mbind a fun x => mbind b fun y => mlift (fRg x y)
def mrgT (a b : M D) : M D := mbind a fun x => mbind b fun y => mlift ((fRg x y).map D.tup)
/-- a op b op' d -/
def mchain (f g : D → D → Option D) (a b d : M D) : M D := mbind a fun x => mbind b fun y => mbind (mlift ((f x y).bind boolOf)) fun k => if k = true then mbind d fun w => mlift (g y w) else mret (.bl false)
/-- xs.index(y) of flat things -/
def idxV (y : V) : List V → Option Nat
  | [] => none
  | z :: zs => if eqV z y = true then some 0 else (idxV y zs).map (· + 1)
def fIdx (ds : List D) (y : D) : Option D := match scL ds, sc y with
  | some vs, some v => (idxV v vs).map fun j => .int (j : Int)
  | _, _ => none
def mindex (a b : M D) : M D := mbind a fun x => mbind (mlift (lstOf x)) fun ds => mbind b fun y => mlift (fIdx ds y)
end
@[simp] theorem mrg_ev (a b : M D) (l : Loc) (p : List Int) : mrg a b l p = (a l p).bind fun x p' => (b l p').bind fun y p'' => mlift (fRg x y) l p'' := rfl
@[simp] theorem mrgT_ev (a b : M D) (l : Loc) (p : List Int) : mrgT a b l p = (a l p).bind fun x p' => (b l p').bind fun y p'' => mlift ((fRg x y).map D.tup) l p'' := rfl
@[simp] theorem mchain_ev (f g : D → D → Option D) (a b d : M D) (l : Loc) (p : List Int) : mchain f g a b d l p = (a l p).bind fun x p' => (b l p').bind fun y p'' => (mlift ((f x y).bind boolOf) l p'').bind fun k p3 => if k = true then (d l p3).bind fun w p4 => mlift (g y w) l p4 else .ok (.bl false) p3 := by
  unfold mchain mbind
  congr 1; funext x p'
  dsimp only
  congr 1; funext y p''
  congr 1; funext k p3
  cases k <;> rfl
@[simp] theorem mindex_ev (a b : M D) (l : Loc) (p : List Int) : mindex a b l p = (a l p).bind fun x p' => (mlift (lstOf x) l p').bind fun ds p'' => (b l p'').bind fun y p3 => mlift (fIdx ds y) l p3 := rfl
end Den
namespace PL
open PySem L2 Den
/-- where the text's own classes stand -/
structure CA where
  Web : Addr
  Heights : Addr
  Verdict : Addr
  Paper : Addr
  Plan : Addr
  FirstPlan : Addr
  SecondPlan : Addr
  Play : Addr
  Share : Addr
  Table : Addr
  TokenPlan : Addr
end PL
namespace PL
open PySem L2 Den
noncomputable section
def dn_is_integer : MS := (sret (vand (opn fIs1 (acons (mvar 0) (acons (mret (D.ty Ty.int)) anil))) (vnot (opn fIs1 (acons (mvar 0) (acons (mret (D.ty Ty.bl)) anil))))))
def D_is_integer : RF := denF 1 1 (dn_is_integer)
def dn_check_whole : MS := (sfor (mbind (mvar 0) fun x => mlift (tupOf x)) (gset 1) (sif (mnot (mtru (mcall D_is_integer (acons (mvar 1) anil)))) (sraise 0) sskip))
def D_check_whole : RF := fun ds pot => if ds.length ≤ 1000 then denStar 2 (dn_check_whole) ds pot else .bad
def dn_whole_list : MS := (sseq (sif (mnot (mtru (opn fIs2 (acons (mvar 0) (acons (mtupd (acons (mret (D.ty Ty.lst)) (acons (mret (D.ty Ty.tup)) anil))) anil))))) (sraise 0) sskip)
    (sseq (sdrop (mstar D_check_whole (mvar 0)))
    (sret (opn fTuple (acons (mvar 0) anil)))))
def D_whole_list : RF := denF 1 1 (dn_whole_list)
def dn_check_size : MS := (sif (mtest (op2 fNe (opn fLen (acons (mvar 0) anil)) (mvar 1))) (sraise 1) sskip)
def D_check_size : RF := denF 2 2 (dn_check_size)
def dn_check_range : MS := (sif (mor (mtest (op2 fLt (mvar 0) (mvar 1))) (mtest (op2 fGt (mvar 0) (mvar 2)))) (sraise 1) sskip)
def D_check_range : RF := denF 3 3 (dn_check_range)
def dn_check_least : MS := (sif (mtest (op2 fLt (mvar 0) (mvar 1))) (sraise 1) sskip)
def D_check_least : RF := denF 2 2 (dn_check_least)
def dn_check_most : MS := (sif (mtest (op2 fGt (mvar 0) (mvar 1))) (sraise 3) sskip)
def D_check_most : RF := denF 2 2 (dn_check_most)
def dn_as_stands : MS := (sseq (sasg (mcall D_whole_list (acons (mvar 0) anil)) (gset 2))
    (sseq (sfor (mbind (mvar 2) fun x => mlift (tupOf x)) (gset 3) (sdrop (mcall D_check_range (acons (mvar 3) (acons (mret (D.int 0)) (acons (op2 fSub (mvar 1) (mret (D.int 1))) anil))))))
    (sret (opn fTuple (acons (op1 fSortSet (mvar 2)) anil)))))
def D_as_stands : RF := denF 2 4 (dn_as_stands)
def dn_is_due : MS := (sseq (sif (mtest (op2 fIsN (mvar 0) (mret D.non))) (sret (mret (D.bl true))) sskip)
    (sseq (sif (mor (mnot (mtru (opn fIs2 (acons (mvar 0) (acons (mtupd (acons (mret (D.ty Ty.lst)) (acons (mret (D.ty Ty.tup)) anil))) anil))))) (mtest (op2 fNe (opn fLen (acons (mvar 0) anil)) (mret (D.int 2))))) (sret (mret (D.bl false))) sskip)
    (sret (vand (opn fIs1 (acons (op2 fIx (mvar 0) (mret (D.int 0))) (acons (mret (D.ty Ty.str)) anil))) (mcall D_is_integer (acons (op2 fIx (mvar 0) (mret (D.int 1))) anil))))))
def D_is_due : RF := denF 1 1 (dn_is_due)
def dn_due_in_range : MS := (sret (vor (op2 fIsN (mvar 0) (mret D.non)) (vand (op2 (fInB false) (op2 fIx (mvar 0) (mret (D.int 0))) (mtupd (acons (mret (D.str "chips")) (acons (mret (D.str "less")) anil)))) (op2 fGe (op2 fIx (mvar 0) (mret (D.int 1))) (mret (D.int 0))))))
def D_due_in_range : RF := denF 1 1 (dn_due_in_range)
def dn_due_too_great : MS := (sret (vand (op2 fNotN (mvar 0) (mret D.non)) (op2 fGt (op2 fIx (mvar 0) (mret (D.int 1))) (mret (D.int 10000000000000000000000000000000000000000)))))
def D_due_too_great : RF := denF 1 1 (dn_due_too_great)
def dn_check_due : MS := (sif (mnot (mtru (mcall D_is_due (acons (mvar 0) anil)))) (sraise 0) sskip)
def D_check_due : RF := denF 1 1 (dn_check_due)
abbrev Due := Option (Bool × Int)
structure Wb where
  first : List (List Int)
  second : List (List Int)
  marks : List Int
  dues : List Due
def dI (ns : List Int) : D := .lst (ns.map .int)
def dDue : Due → D
  | none => .non
  | some (true, x) => .tup [.str "chips", .int x]
  | some (false, x) => .tup [.str "less", .int x]
def encW (wb : Wb) : List D := [.lst (wb.first.map dI), .lst (wb.second.map dI), dI wb.marks, .lst (wb.dues.map dDue)]
structure Valid (wb : Wb) : Prop where
  n1 : 1 ≤ wb.marks.length
  n2 : wb.marks.length ≤ 60
  l1 : wb.first.length = wb.marks.length
  l2 : wb.second.length = wb.marks.length
  l3 : wb.dues.length = wb.marks.length
  s1 : ∀ ss ∈ wb.first, ss.length < 60 ∧ ∀ x ∈ ss, 0 ≤ x ∧ x < (wb.marks.length : Int)
  s2 : ∀ ss ∈ wb.second, ss.length < 60 ∧ ∀ x ∈ ss, 0 ≤ x ∧ x < (wb.marks.length : Int)
  both : ∀ (i : Nat) (a b : List Int), wb.first[i]? = some a → wb.second[i]? = some b → a.isEmpty = b.isEmpty
  mks : ∀ m ∈ wb.marks, m = 1 ∨ m = 2
  du : ∀ d ∈ wb.dues, ∀ b x, d = some (b, x) → 0 ≤ x ∧ x ≤ 1000
def dS (ss : List Int) : D := .tup ((sortSet ss).map .int)
def moves (wb : Wb) (d : D) : Bool := match (fIx (.lst (wb.first.map dI)) d).bind truOf with
  | some b => b
  | none => false
def gdI : Due → Int
  | none => 0
  | some (_, x) => x
def gdD (wb : Wb) : D := match wb.dues.map gdI with
  | [] => .non
  | n :: ns => .int (maxL n ns)
def evB (wb : Wb) : Bool := match pd (.tup (wb.first.map dS)), pd (.tup (wb.second.map dS)) with
  | some a, some b => PyData.eqv a b
  | _, _ => false
def wnames : List Str := ["_size", "_first", "_second", "_marks", "_dues", "_ends", "_moving", "_greatest_due", "_even"]
def wfields (wb : Wb) : List D := [.int wb.marks.length, .tup (wb.first.map dS), .tup (wb.second.map dS), .tup (wb.marks.map .int), .tup (wb.dues.map dDue), .tup ((rngD 0 wb.marks.length).filter fun d => !moves wb d), .tup ((rngD 0 wb.marks.length).filter fun d => moves wb d), gdD wb, .bl (evB wb)]
def dn_check_web (A : CA) : MS := (sif (mnot (mtru (opn (fIsC A.Web) (acons (mvar 0) (acons (mret (D.cls A.Web)) anil))))) (sraise 0) sskip)
def D_check_web (A : CA) : RF := denF 1 1 (dn_check_web A)
def dn_check_stand (A : CA) : MS := (sdrop (mcall D_check_range (acons (mvar 1) (acons (mret (D.int 0)) (acons (op2 fSub (mfld A.Web "_size" (mvar 0)) (mret (D.int 1))) anil)))))
def D_check_stand (A : CA) : RF := denF 2 2 (dn_check_stand A)
def dn_check_moving (A : CA) : MS := (sif (mnot (mtru (op2 fIx (mfld A.Web "_first" (mvar 0)) (mvar 1)))) (sraise 2) sskip)
def D_check_moving (A : CA) : RF := denF 2 2 (dn_check_moving A)
def dn_low_of (A : CA) : MS := (sret (opn fMinL (acons (mfreeze (mcomp (mbind (op2 fIx (mfld A.Web "_first" (mvar 0)) (mvar 2)) fun x => mlift (tupOf x)) 3 mtrue (op2 fIx (mvar 1) (mvar 3)))) anil)))
def D_low_of (A : CA) : RF := denF 3 4 (dn_low_of A)
def dn_high_of (A : CA) : MS := (sret (opn fMaxL (acons (mfreeze (mcomp (mbind (op2 fIx (mfld A.Web "_second" (mvar 0)) (mvar 2)) fun x => mlift (tupOf x)) 3 mtrue (op2 fIx (mvar 1) (mvar 3)))) anil)))
def D_high_of (A : CA) : RF := denF 3 4 (dn_high_of A)
def dn_law_draw : MS := (sseq (sif (mtest (op2 fEq (mlenp (mvar 0)) (mret (D.int 0)))) (sret (mret (D.int 0))) sskip)
    (sret (op2 fMod (opn fInt (acons (mpop (mvar 0)) anil)) (mvar 1))))
def D_law_draw : RF := denF 2 2 (dn_law_draw)
def dn_law_lot : MS := (sseq (sown (mshort (acons (mcall D_law_draw (acons (mvar 0) (acons (mvar 1) anil))) anil)) 2)
    (sseq (sfor (mbind (acons (mcall D_law_draw (acons (mvar 0) (acons (mret (D.int 3)) anil))) anil) fun x => mlift (rng1 x)) (gset 3) (sseq (sasg (mcall D_law_draw (acons (mvar 0) (acons (mvar 1) anil))) (gset 4))
    (sif (mtest (minc true (mvar 4) 2)) (sappend 2 (mvar 4)) sskip)))
    (sgive 2 (sret (mvar 2)))))
def D_law_lot : RF := denF 2 5 (dn_law_lot)
def dn_law_due : MS := (sseq (sasg (mcall D_law_draw (acons (mvar 0) (acons (mret (D.int 6)) anil))) (gset 1))
    (sseq (sif (mtest (op2 fLe (mvar 1) (mret (D.int 2)))) (sret (mtupd (acons (mret (D.str "chips")) (acons (mret (D.int 0)) anil)))) sskip)
    (sseq (sif (mtest (op2 fEq (mvar 1) (mret (D.int 3)))) (sret (mtupd (acons (mret (D.str "chips")) (acons (op2 fAdd (mret (D.int 1)) (mcall D_law_draw (acons (mvar 0) (acons (mret (D.int 4)) anil)))) anil)))) sskip)
    (sseq (sif (mtest (op2 fEq (mvar 1) (mret (D.int 4)))) (sret (mtupd (acons (mret (D.str "less")) (acons (op2 fAdd (mret (D.int 1)) (mcall D_law_draw (acons (mvar 0) (acons (mret (D.int 3)) anil)))) anil)))) sskip)
    (sret (mret D.non))))))
def D_law_due : RF := denF 1 2 (dn_law_due)
def dn_law_marks : MS := (sseq (sasg (mcall D_law_draw (acons (mvar 0) (acons (mret (D.int 4)) anil))) (gset 2))
    (sseq (sif (mtest (op2 fLe (mvar 2) (mret (D.int 1)))) (sret (mfreeze (mcomp (mbind (acons (mvar 1) anil) fun x => mlift (rng1 x)) 3 mtrue (op2 fAdd (mret (D.int 1)) (mvar 2))))) sskip)
    (sret (mfreeze (mcomp (mbind (acons (mvar 1) anil) fun x => mlift (rng1 x)) 3 mtrue (op2 fAdd (mret (D.int 1)) (mcall D_law_draw (acons (mvar 0) (acons (mret (D.int 2)) anil)))))))))
def D_law_marks : RF := denF 2 4 (dn_law_marks)
def dn_law_path : MS := (sseq (sown (mshort (acons (mfreeze (mshort anil)) (acons (mfreeze (mshort anil)) anil))) 1)
    (sseq (sfor (mbind (acons (mret (D.int 2)) (acons (mvar 0) anil)) fun x => mlift (rng2 x)) (gset 2) (sseq (sasg (op2 fSub (mvar 2) (mret (D.int 1))) (gset 3))
    (sseq (sif (mtest (op2 fEq (mvar 2) (mret (D.int 2)))) (sasg (mret (D.int 0)) (gset 3)) sskip)
    (sseq (sasg (op2 fAdd (mvar 2) (mret (D.int 1))) (gset 4))
    (sseq (sif (mtest (op2 fEq (mvar 2) (op2 fSub (mvar 0) (mret (D.int 1))))) (sasg (mret (D.int 1)) (gset 4)) sskip)
    (sappend 1 (mfreeze (mshort (acons (mvar 3) (acons (mvar 4) anil))))))))))
    (sgive 1 (sret (mvar 1)))))
def D_law_path : RF := denF 1 5 (dn_law_path)
def dn_law_web : MS := (sseq (sasg (opn fMin2 (acons (mvar 1) (acons (op2 fIx (mfreeze (mshort (acons (mret (D.int 4)) (acons (mret (D.int 3)) (acons (mret (D.int 5)) (acons (mret (D.int 4)) (acons (mret (D.int 6)) (acons (mret (D.int 2)) (acons (mret (D.int 5)) (acons (mret (D.int 3)) (acons (mret (D.int 7)) (acons (mret (D.int 1)) anil)))))))))))) (mcall D_law_draw (acons (mvar 0) (acons (mret (D.int 10)) anil)))) anil))) (gset 3))
    (sseq (sasg (mcall D_law_draw (acons (mvar 0) (acons (mret (D.int 5)) anil))) (gset 4))
    (sseq (sown (mshort anil) 5)
    (sseq (sown (mshort anil) 6)
    (sseq (sif (mand (mtest (op2 fEq (mvar 4) (mret (D.int 0)))) (mtest (op2 fGe (mvar 3) (mret (D.int 2))))) (sseq (sasg (mcall D_law_path (acons (mvar 3) anil)) (gset 5))
    (sseq (sasg (op2 fCat (mfreeze (mshort (acons (mtupd (acons (mret (D.str "chips")) (acons (mret (D.int 0)) anil))) anil))) (mfreeze (mcomp (mbind (acons (op2 fSub (mvar 3) (mret (D.int 1))) anil) fun x => mlift (rng1 x)) 7 mtrue (mret D.non)))) (gset 6))
    (sgive 5 (sown (mcomp (mbind (mvar 5) fun x => mlift (lstOf x)) 9 mtrue (mfreeze (mlistN (acons (mvar 9) anil)))) 8)))) (sseq (sown (mshort anil) 8)
    (sfor (mbind (acons (mvar 3) anil) fun x => mlift (rng1 x)) (gset 7) (sseq (sasg (vand (op2 fEq (mvar 7) (mret (D.int 0))) (op2 fNe (mvar 4) (mret (D.int 4)))) (gset 10))
    (sseq (sif (mand (mtest (op2 fEq (mvar 7) (mret (D.int 1)))) (mtest (op2 fNe (mvar 4) (mret (D.int 3))))) (sasg (mret (D.bl true)) (gset 10)) sskip)
    (sseq (sif (mand (mtest (op2 fGe (mvar 7) (mret (D.int 2)))) (mtest (op2 fEq (mcall D_law_draw (acons (mvar 0) (acons (mret (D.int 8)) anil))) (mret (D.int 7))))) (sasg (mret (D.bl true)) (gset 10)) sskip)
    (sseq (sif (mtru (mvar 10)) (sseq (sappend 5 (mfreeze (mshort anil)))
    (sappend 8 (mfreeze (mshort anil)))) (sseq (sasg (mcall D_law_lot (acons (mvar 0) (acons (mvar 3) anil))) (gset 9))
    (sseq (sappend 5 (mvar 9))
    (sif (mor (mtru (mvar 2)) (mtest (op2 fEq (mcall D_law_draw (acons (mvar 0) (acons (mret (D.int 2)) anil))) (mret (D.int 0))))) (sappend 8 (mfreeze (mlistN (acons (mvar 9) anil)))) (sappend 8 (mcall D_law_lot (acons (mvar 0) (acons (mvar 3) anil))))))))
    (sseq (sasg (mret D.non) (gset 11))
    (sseq (sif (mor (mtest (op2 fEq (mvar 7) (mret (D.int 0)))) (mand (mtru (mvar 10)) (mtest (op2 fGe (mvar 7) (mret (D.int 2)))))) (sasg (mcall D_law_due (acons (mvar 0) anil)) (gset 11)) (sif (mand (mnot (mtru (mvar 10))) (mtest (op2 fEq (mcall D_law_draw (acons (mvar 0) (acons (mret (D.int 8)) anil))) (mret (D.int 7))))) (sasg (mcall D_law_due (acons (mvar 0) anil)) (gset 11)) sskip))
    (sappend 6 (mvar 11)))))))))))
    (sgive 8 (sgive 5 (sgive 6 (sret (mfreeze (mshort (acons (mvar 5) (acons (mvar 8) (acons (mcall D_law_marks (acons (mvar 0) (acons (mvar 3) anil))) (acons (mvar 6) anil)))))))))))))))
def D_law_web : RF := denF 3 12 (dn_law_web)
end
end PL
namespace PL
open PySem L2 Den
noncomputable section
def b_check_part_range_1 : MS := (sdrop (mcall D_check_size (acons (mvar 0) (acons (mvar 1) anil))))
def L_check_part_range_2 : MS := (sdrop (mcall D_check_range (acons (mvar 3) (acons (mret (D.int 0)) (acons (mvar 2) anil)))))
def b_check_part_range_2 : MS := (sfor (mbind (mvar 0) fun x => mlift (seqOf x)) (gset 3) L_check_part_range_2)
def dn_check_part_range : MS := (sseq b_check_part_range_1
    b_check_part_range_2)
def D_check_part_range : RF := denF 3 4 (dn_check_part_range)
def c_least_with_1 : M (List D) := (mcomp (mbind (mvar 0) fun x => mlift (tupOf x)) 3 (mtest (op2 fEq (op2 fIx (mvar 1) (mvar 3)) (mvar 2))) (mvar 3))
def dn_least_with : MS := (sret (opn fMinL (acons (mfreeze c_least_with_1) anil)))
def D_least_with : RF := denF 3 4 (dn_least_with)
def c_law_low_1 : M (List D) := (mcomp (mbind (op2 fIx (op2 fIx (mvar 0) (mret (D.int 0))) (mvar 2)) fun x => mlift (lstOf x)) 3 mtrue (op2 fIx (mvar 1) (mvar 3)))
def dn_law_low : MS := (sret (opn fMinL (acons (mfreeze c_law_low_1) anil)))
def D_law_low : RF := denF 3 4 (dn_law_low)
def c_law_high_1 : M (List D) := (mcomp (mbind (op2 fIx (op2 fIx (mvar 0) (mret (D.int 1))) (mvar 2)) fun x => mlift (lstOf x)) 3 mtrue (op2 fIx (mvar 1) (mvar 3)))
def dn_law_high : MS := (sret (opn fMaxL (acons (mfreeze c_law_high_1) anil)))
def D_law_high : RF := denF 3 4 (dn_law_high)
end
end PL
namespace PL
open PySem L2 Den
noncomputable section
end
end PL
namespace PL
open PySem L2 Den
noncomputable section
end
end PL
namespace PySem
open AutoSeq1 (wpAny_loadPart')
/-- enumerate(v), v told by how its iterator begins -/
theorem enum1_meets {v : Value} {ob : Obj} {HH : Heap → Prop} (B : Begins v ob HH) :
    Meets (Builtin.«enumerate.__new__» ⟨[.type "enumerate", v], []⟩) (fun _ R s => HH s.heap ∧
      R (.ok (.ret (.ref (s.heap.push ob).objs.size))) { s with heap := (s.heap.push ob).push { cls := .type "enumerate", data := .fields #[.none, .bool false, .ref s.heap.objs.size, rawInt 0, .none, .none] } }) :=
  .of_wp fun prg wd Ar Rs sh hh => by
    obtain ⟨hp, gs, dr, tk, os⟩ := sh
    obtain ⟨hB, hh⟩ := hh
    have hsub := sub_enumerate
    have begin' : ∀ {A' : Around} {E' : Value → Shared → Prop} {Q' : Value → Shared → Prop}, Q' (.ref hp.objs.size) ⟨hp.push ob, gs, dr, tk, os⟩ → wpAny (model prg wd) A' (pyIter v) Q' E' ⟨hp, gs, dr, tk, os⟩ :=
      fun q => B.iter prg wd _ _ ⟨hp, gs, dr, tk, os⟩ _ hB q
    wp_walk using begin'
    refine wpAny_stack_any fun st => wpAny_pure ?_
    split
    · rename_i cl _ _ _ _ _
      cases (cl == Value.type "enumerate")
      · wp_walk using begin'
        exact ⟨_, rfl, hh⟩
      · wp_walk using begin'
        exact ⟨_, rfl, hh⟩
    · wp_walk using begin'
      exact ⟨_, rfl, hh⟩
theorem enum1_begins {prog : Program} {w : World} {A : Around} {E : Value → Shared → Prop} {s : Shared} {v : Value} {ob : Obj} {HH : Heap → Prop} {Q : Value → Shared → Prop} (B : Begins v ob HH) (hB : HH s.heap)
    (k : ∀ h1, IsEnum h1 (s.heap.objs.size + 1) s.heap.objs.size 0 .none → h1.get? s.heap.objs.size = some ob → (∀ b u, s.heap.get? b = some u → h1.get? b = some u) → Q (.ref (s.heap.objs.size + 1)) { s with heap := h1 }) :
    wpAny (model prog w) A (call (.type "enumerate") [v]) Q E s := by
  refine callType_new F.called_enumerate (by decide) (F.typeCall_enumerate_1 _) (F.newCall_enumerate_1 _) (fun obj => F.args_object_init_2 obj _) F.entry_enumerate_new (enum1_meets B) ⟨hB, ?_⟩
  have sz : (s.heap.push ob).objs.size = s.heap.objs.size + 1 := Heap.size_push ..
  show _ ∧ _
  rw [sz]
  have isE : IsEnum ((s.heap.push ob).push { cls := .type "enumerate", data := .fields #[.none, .bool false, .ref s.heap.objs.size, rawInt 0, .none, .none] }) (s.heap.objs.size + 1) s.heap.objs.size 0 .none := by
    have g := Heap.get?_push_size (s.heap.push ob) (o := { cls := .type "enumerate", data := .fields #[.none, .bool false, .ref s.heap.objs.size, rawInt 0, .none, .none] }) rfl
    rw [sz] at g
    exact g
  exact ⟨⟨_, isE, rfl⟩, k _ isE (Heap.get?_push_of_some _ (Heap.get?_push_size _ B.free)) fun b u y => Heap.get?_push_of_some _ (Heap.get?_push_of_some _ y)⟩
end PySem
namespace Den
open PySem L2 PyProof.Rows
/-- the tuple at a, each item in a new pair -/
def Itet (K : PySem.W.Frag) (a : Addr) : It :=
  ⟨fun j H => ∃ (ys : List V) (y : V), SqT K H a ys ∧ ys[j]? = some y, fun j H u H2 => ∃ T y, u = .ref T ∧ H T = none ∧ H2 = upd H T (.tup [.int (j : Nat), y]) ∧ ∀ ys, SqT K H a ys → ys[j]? = some y, fun j H => ∃ ys : List V, SqT K H a ys ∧ ys.length ≤ j⟩
theorem turn_enumT {P : Program} {w : World} {K : PySem.W.Frag} {elts : List Expr} {kk : Nat} {tpos : Pos} (a e it : Addr) :
    Turn P w K (.Tuple elts kk tpos) (Itet K a) [e, it] e (fun j h => (∃ old, IsEnum h e it ((j : Nat) : Int) old) ∧ h.IsTupleIter it a j ∧ e ≠ it ∧ a ≠ it) where
  mem := by simp
  obj := fun j h st b hb => by
    obtain ⟨⟨old, he⟩, ⟨ob, ho, hc, hd⟩, _⟩ := st
    have two : b = e ∨ b = it := by simpa using hb
    rcases two with z | z
    · rw [z]; exact ⟨_, he, fun v q => nomatch q⟩
    · rw [z]; exact ⟨ob, ho, fun v q => by rw [hd] at q; cases q⟩
  keep := fun j h h' st k => let ⟨⟨old, he⟩, hi, hne⟩ := st; ⟨⟨old, k e (by simp) _ he⟩, hi.at fun ob q => k it (by simp) ob q, hne⟩
  item := by
    intro X hP hw hK hc j pins s σ H E I hf st hg
    subst hP hw hK
    obtain ⟨⟨old, he⟩, hit, hne, hna⟩ := st
    obtain ⟨ys, y, hq, hy⟩ := hg
    obtain ⟨its, rv, tp, hz⟩ := I.tuple hq
    have tp' : s.heap.IsTuple a its.toArray := tp
    obtain ⟨u, hu, ru⟩ := rv.get hy
    have hel : e < s.heap.objs.size := Heap.lt_size he
    have hil : it < s.heap.objs.size := by obtain ⟨_, q, _⟩ := hit; exact Heap.lt_size q
    have hal : a < s.heap.objs.size := by obtain ⟨_, q, _⟩ := tp'; exact Heap.lt_size q
    have hea : e ≠ a := fun z => by
      obtain ⟨ob, ho, hcl, _⟩ := tp'
      rw [← z] at ho
      rw [show s.heap.get? e = _ from he] at ho
      cases ho
      injection hcl with q
      exact absurd q (by decide)
    have D := Draws.tuple (prog := X.prog) (w := X.w) (A := X.A.in1) (I.ok.hd hc) it a hna its.toArray
    have hlt : j < its.toArray.size := by
      have := (List.getElem?_eq_some_iff.mp hu).1
      simpa using this
    refine wpAny_pyNext_enum_itemD D he ⟨hit, tp'⟩ hlt hne (by simp [hne, hea]) fun x1 h1 tk hx1 ho st1 hT hsz hk => ?_
    have ex : x1 = u := by
      have q1 : its.toArray[j]? = some u := by simpa using hu
      rw [q1] at hx1
      exact (Option.some.inj hx1).symm
    subst ex
    refine ⟨_, rfl, wpAny_letOwnedTupleGo_enum (s := { s with heap := h1, toks := tk + 1 }) ho fun h2 he2 sb => ?_⟩
    have hT2 : h2.get? s.heap.objs.size = some { cls := .type "tuple", data := .seq #[.int j tk, x1] } := (sb.2 _ (Nat.ne_of_gt hel)).trans hT
    have new : ObjOk X.prog X.w (upd H s.heap.objs.size (.tup [.int (j : Nat), y])) h2 s.heap.objs.size (.tup [.int (j : Nat), y]) :=
      ⟨by show 2 ≤ sizeLine; decide, [.int j tk, x1], .cons ⟨_, rfl⟩ (.cons ru .nil), ⟨_, hT2, rfl, _, rfl⟩⟩
    have I1 : Inv X pins σ (upd H s.heap.objs.size (.tup [.int (j : Nat), y])) { s with heap := h2, toks := tk + 1 } :=
      I.turnedNew (ch := [e, it]) (fun b ob hb q => (sb.2 b (fun z => hb (by simp [z]))).trans (hk b ob (fun z => hb (by simp [z])) (fun z => hb (by simp [z])) q)) hf (Nat.le_refl _) new
    refine ⟨.ref s.heap.objs.size, _, I1, rfl, ⟨_, y, rfl, I.hok.fresh (Nat.le_refl _), rfl, fun zs hzs => by rw [I.tuple_inj hzs hq]; exact hy⟩, ⟨⟨x1, ?_⟩, st1.1.at fun ob q => (sb.2 it (Ne.symm hne)).trans q, hne, hna⟩, fun b hb => ?_⟩
    · have e1 : ((j + 1 : Nat) : Int) = (j : Int) + 1 := by omega
      rw [e1]; exact he2
    · have hbl : b < s.heap.objs.size := by
        have two : b = e ∨ b = it := by simpa using hb
        rcases two with z | z
        · rw [z]; exact hel
        · rw [z]; exact hil
      rw [upd_ne (Nat.ne_of_lt hbl)]
      exact (hf b hb).1
  done := by
    intro X hP hw hK hc j pins s σ H E I hf st hg
    subst hP hw hK
    obtain ⟨⟨old, he⟩, hit, hne, hna⟩ := st
    obtain ⟨ys, hq, hy⟩ := hg
    obtain ⟨its, rv, tp, hz⟩ := I.tuple hq
    have tp' : s.heap.IsTuple a its.toArray := tp
    obtain ⟨f0, f1, f2, f3, f4, f5⟩ := hf it (by simp)
    have hl := rv.length
    have out : its.toArray[j]? = none := by simp; omega
    have hTe : s.TypeIs (.ref e) "enumerate" := ⟨_, he, rfl⟩
    unfold pyNext
    refine wpAny_bind (wpAny_attempt (wpAny_callSpecial?_slot (name := Str.ofString "__next__") hTe F.slot_enumerate_next (wpAny_call_entry F.slot_enumerate_next hTe F.entry_enumerate_next ?last (F.args_enumerate_next_1 _))))
    show wpAny _ _ (field (.ref e) 2 >>= _) _ _ _
    refine wpAny_bind (wpAny_field he rfl (x := .ref it) rfl (wpAny_bind (wpAny_nextOf_tuple_end (by exact I.ok.hd hc) hit tp' out fun h1 x1 ext1 ⟨ob, hob, hcl⟩ => ?_)))
    refine wpAny_bind (wpAny_isInstance (T := "StopIteration") (b := true) ⟨ob, hob, hcl⟩ isSubtype_stop ?_)
    exact wpAny_pure ⟨rfl, I.turned (t' := s.toks) (fun b o hb q => ext1 b o hb q) f0 f1 f3 f4 f5⟩
  self := fun A j s Q E st h => let ⟨⟨_, he⟩, _⟩ := st; wpAny_pyIter_enum he h
end Den
namespace Den
open PySem L2 PyProof.Rows
section
variable {X : Cx}
def iEnumS (K : PySem.W.Frag) (ta : TA) : TI := fun σ H R => ta σ H fun vs H1 => ∃ a, vs = [.ref a] ∧ ((∃ xs, SqL K H1 a xs ∧ R (Ite K a) H1) ∨ (∃ xs, SqT K H1 a xs ∧ R (Itet K a) H1))
theorem pi_enumS {e : Expr} {ta : TA} {p pos tpos : Pos} {elts : List Expr} {kk : Nat} (hg : Gl X "enumerate") (hm : X.mg "enumerate" = none) (ha : PA X [e] ta) (hs : starEach [e] X.env = [(false, eval e X.env)] := by rfl) :
    PI X (.Tuple elts kk tpos) (.Call (.Name "enumerate" p) [e] [] pos) (iEnumS X.K ta) := by
  refine ⟨fun pins sh σ H R I h => Call_ (ld_blt I hg hm boot_enumerate (PyProof.Rows.callWith_type1 (thn (ha.run pos pins sh σ H _ I h) fun us s1 got => ?_) hs rfl))⟩
  obtain ⟨vs, H1, I1, r1, a, rfl, q⟩ := got
  cases r1 with
  | cons r rr =>
    cases rr
    cases r
    have low : ∀ b, b ∈ [s1.heap.objs.size + 1, s1.heap.objs.size] → s1.heap.objs.size ≤ b := fun b hb => by
      have two : b = s1.heap.objs.size + 1 ∨ b = s1.heap.objs.size := by simpa using hb
      omega
    rcases q with ⟨xs, hq, q⟩ | ⟨xs, hq, q⟩
    · obtain ⟨its, rv, lp, hz⟩ := I1.list hq
      refine call_enumerate_list lp.isList fun h1 he hit hsz hk => wpAny_pyIter_enum he ?_
      exact ⟨s1.heap.objs.size + 1, [s1.heap.objs.size + 1, s1.heap.objs.size], _, _, H1, rfl, I1.kept (t' := s1.toks) hk, turn_enum a (s1.heap.objs.size + 1) s1.heap.objs.size, ⟨⟨.none, he⟩, hit, Nat.succ_ne_self _⟩, fun b hb => I1.fpOk (low b hb) (I1.hok.fresh (low b hb)), q⟩
    · obtain ⟨its, rv, tp, hz⟩ := I1.tuple hq
      have tp' : s1.heap.IsTuple a its.toArray := tp
      have hal : a < s1.heap.objs.size := by obtain ⟨_, g, _⟩ := tp'; exact Heap.lt_size g
      refine enum1_begins (begins_tuple a its.toArray) tp' fun h1 he hit hk => wpAny_pyIter_enum he ?_
      exact ⟨s1.heap.objs.size + 1, [s1.heap.objs.size + 1, s1.heap.objs.size], _, _, H1, rfl, I1.kept (t' := s1.toks) hk, turn_enumT a (s1.heap.objs.size + 1) s1.heap.objs.size, ⟨⟨.none, he⟩, ⟨_, hit, rfl, rfl⟩, Nat.succ_ne_self _, Nat.ne_of_lt hal⟩, fun b hb => I1.fpOk (low b hb) (I1.hok.fresh (low b hb)), q⟩
end
section
variable {c : Cfg} {E : L2.St → XK}
theorem walks_enumT {G : Hp} {a : Addr} {vs : List V} {ds : List D} (h : G a = some (.tup vs)) (al : AtL c.P G vs ds) : Walks c (Itet c.K a) (enumD 0 ds) G := by
  refine ⟨fun i H e z => ⟨vs, .inl (.inl (e _ _ h)), ?_⟩, fun i H e z => ?_, fun i H x H' e z hP y G2 e2 e3 => ?_⟩
  · rw [AtL.length al]; rw [enumD_len] at z; exact Nat.le_of_eq z.symm
  · have z' : i < vs.length := by rw [AtL.length al]; rw [enumD_len] at z; exact z
    exact ⟨vs, vs[i], .inl (.inl (e _ _ h)), List.getElem?_eq_getElem z'⟩
  · obtain ⟨T, v, rfl, hT, rfl, y⟩ := y
    obtain ⟨d, ed, ad⟩ := AtL.getV al (y vs (.inl (.inl (e _ _ h))))
    have g := enumD_get ds 0 i d ed
    rw [Nat.zero_add] at g
    exact ⟨_, _, g, Stp.lay e3 hT, fun b hb => upd_ne (fun z => hP b hb (by rw [z]; exact hT)), at_new_t e3 hT (.cons (.int _) (.cons (At.mono e2 ad) .nil))⟩
def enumS : List D → Option (List D)
  | [d] => (seqOf d).map (enumD 0)
  | _ => none
theorem si_enumS {t : TA} {a : M (List D)} (ha : SA c E t a) : SI c E (iEnumS c.K t) (mbind a fun x => mlift (enumS x)) := by
  intro G0 H0 G H σ l pot r Q post
  refine Sn.go ha r post fun x dx p G1 H1 s1 r1 hx post1 => ?_
  obtain ⟨ds, e, post2⟩ := post_lift0 post1
  unfold enumS at e
  split at e
  · obtain ⟨y, rfl, hy⟩ := atl1 hx
    rename_i d
    cases d with
    | lst es =>
      cases e
      obtain ⟨q, vs, rfl, h, al⟩ := at_lst hy
      exact ⟨q, rfl, .inl ⟨vs, .inl (.inl (r1.stp.gh _ _ h)), Post.ok post2 r1 (walks_enum h al)⟩⟩
    | tup es =>
      cases e
      obtain ⟨q, vs, rfl, h, al⟩ := at_tup hy
      exact ⟨q, rfl, .inr ⟨vs, .inl (.inl (r1.stp.gh _ _ h)), Post.ok post2 r1 (walks_enumT h al)⟩⟩
    | _ => cases e
  · cases e
end
end Den
namespace Den
open PySem L2
section
variable {c : Cfg} {E : St → XK}
def cellOf (i : Nat) (l : Loc) : Option (List D) := match l[i]? with
  | some (some (.cell ds)) => some ds
  | _ => none
theorem cellOf_at {i : Nat} {l : Loc} {ds : List D} (h : cellOf i l = some ds) : l[i]? = some (some (.cell ds)) := by
  unfold cellOf at h
  split at h
  · rename_i e
    cases h
    exact e
  · cases h
end
section
variable {X : Cx} {CX : CXT} {C g : Addr} {n : Nat} {sp : Sp} {E : XK}
end
section
variable {c : Cfg} {E : St → XK}
end
end Den
namespace DenB
open PySem
open PySem.Sem (wp)
theorem truthy_tupN {prog : Program} {w : World} {A : Around} {E : Value → Shared → Prop} {s : Shared} {l : Addr} {items : Array Value} {Q : Bool → Shared → Prop} (hl : s.heap.IsTuple l items) (hfit : (items.size : Int) < 2 ^ 63)
    (h : Q (!items.isEmpty) { s with toks := s.toks + 1 + 1 }) : wpAny (model prog w) A (truthy (.ref l)) Q E s := PyProof.Rows.truthy_tuple hl hfit h
theorem meets_bool_tup (l : Addr) (items : Array Value) (hfit : (items.size : Int) < 2 ^ 63) :
    Meets (Builtin.«bool.__new__» ⟨[.type "bool", .ref l], []⟩) (fun _ R s => s.heap.IsTuple l items ∧ ∀ t, R (.ok (.ret (.bool (!items.isEmpty)))) { s with toks := t }) :=
  Meets.of_wp fun prog w A R s hs => by
    obtain ⟨hl, hs⟩ := hs
    obtain ⟨hp, g, d, tk, os⟩ := s
    have f1 := F.conv_sub_bool
    repeat (any_goals (first | assumption | (with_reducible refine truthy_tupN hl hfit ?_) | wp_step))
    all_goals first | exact ⟨_, rfl, hs _⟩ | exact hs _ | skip
theorem call_bool_tup {prog : Program} {w : World} {A : Around} {E : Value → Shared → Prop} {s : Shared} {l : Addr} {items : Array Value} {Q : Value → Shared → Prop} (hfit : (items.size : Int) < 2 ^ 63) (hl : s.heap.IsTuple l items)
    (h : ∀ t, Q (.bool (!items.isEmpty)) { s with toks := t }) : wpAny (model prog w) A (call (.type "bool") [.ref l]) Q E s :=
  call_bool_1 (meets_bool_tup l items hfit) ⟨hl, fun t => ⟨rfl, h t⟩⟩
end DenB
namespace Den
open PySem L2
section
variable {X : Cx}
def rBoolS (K : PySem.W.Frag) : List V → Hp → VK → Prop := fun xs H Q => ∃ (a : Addr) (zs : List V), xs = [.ref a] ∧ (SqL K H a zs ∨ SqT K H a zs) ∧ Q (.bl (!zs.isEmpty)) H
theorem call_boolS : CallR X (.type "bool") (rBoolS X.K) := by
  intro pins s σ H xs us Q I r h
  obtain ⟨a, zs, rfl, hq | hq, q⟩ := h
  · exact call_boolL pins s σ H _ us Q I r ⟨a, zs, rfl, hq, q⟩
  · obtain rfl := Vals.ref1 r
    obtain ⟨its, rv, pl, hz⟩ := I.tuple hq
    have hl := line63
    have hlen := rv.length
    refine DenB.call_bool_tup (by simp only [List.size_toArray]; omega) pl fun t => ?_
    exact ⟨.bl (!zs.isEmpty), H, I.tok _, by rw [isEmpty_of rv]; rfl, q⟩
end
section
variable {c : Cfg}
def fBoolS : List D → Option D
  | [d] => (seqOf d).map fun ds => .bl (!ds.isEmpty)
  | _ => none
theorem sn_boolS : SN c (rBoolS c.K) fBoolS := ⟨fun G H xs ds d gh _ hx e => by
  unfold fBoolS at e
  split at e
  · obtain ⟨x, rfl, hx1⟩ := atl1 hx
    rename_i dx
    cases dx with
    | lst es =>
      obtain ⟨p, vs, rfl, h, a⟩ := at_lst hx1
      cases e
      exact ops_pure gh (.bl _) fun Q q => ⟨p, vs, rfl, .inl (.inl (.inl (gh _ _ h))), by rw [isEmpty_at a]; exact q⟩
    | tup es =>
      obtain ⟨p, vs, rfl, h, a⟩ := at_tup hx1
      cases e
      exact ops_pure gh (.bl _) fun Q q => ⟨p, vs, rfl, .inr (.inl (.inl (gh _ _ h))), by rw [isEmpty_at a]; exact q⟩
    | _ => cases e
  · cases e⟩
end
end Den
namespace PL
open PySem L2 Den
noncomputable section
def dn_check_one_or_two : MS := (sif (mtest (op2 (fInB true) (mvar 0) (mtupd (acons (mret (D.int 1)) (acons (mret (D.int 2)) anil))))) (sraise 1) sskip)
def D_check_one_or_two : RF := denF 1 1 (dn_check_one_or_two)
def b_due_at_1 : MS := (sif (mtest (op2 fIsN (mvar 0) (mret D.non))) (sret (op2 fAdd (mvar 1) (mret (D.int 1)))) sskip)
def b_due_at_2 : MS := (sif (mtest (op2 fEq (op2 fIx (mvar 0) (mret (D.int 0))) (mret (D.str "chips")))) (sret (opn fMin2 (acons (op2 fIx (mvar 0) (mret (D.int 1))) (acons (op2 fAdd (mvar 1) (mret (D.int 1))) anil)))) sskip)
def b_due_at_3 : MS := (sret (opn fMax2 (acons (mret (D.int 0)) (acons (op2 fSub (op2 fAdd (mvar 1) (mret (D.int 1))) (op2 fIx (mvar 0) (mret (D.int 1)))) anil))))
def dn_due_at : MS := (sseq b_due_at_1
    (sseq b_due_at_2
    b_due_at_3))
def D_due_at : RF := denF 2 2 (dn_due_at)
def L_check_kinds_k09_1 : MS := (sif (mnot (mtru (opn fIs2 (acons (mvar 4) (acons (mtupd (acons (mret (D.ty Ty.lst)) (acons (mret (D.ty Ty.tup)) anil))) anil))))) (sraise 0) sskip)
def b_check_kinds_k09_1 : MS := (sfor (mbind (mtupd (acons (mvar 0) (acons (mvar 1) (acons (mvar 3) anil)))) fun x => mlift (tupOf x)) (gset 4) L_check_kinds_k09_1)
def L_check_kinds_k09_2 : MS := (sdrop (mcall D_whole_list (acons (mvar 4) anil)))
def b_check_kinds_k09_2 : MS := (sfor (mbind (mtupd (astar (mvar 0) (astar (mvar 1) (acons (mvar 2) anil)))) fun x => mlift (tupOf x)) (gset 4) L_check_kinds_k09_2)
def L_check_kinds_k09_3 : MS := (sdrop (mcall D_check_due (acons (mvar 5) anil)))
def b_check_kinds_k09_3 : MS := (sfor (mbind (mvar 3) fun x => mlift (seqOf x)) (gset 5) L_check_kinds_k09_3)
def dn_check_kinds_k09 : MS := (sseq b_check_kinds_k09_1
    (sseq b_check_kinds_k09_2
    b_check_kinds_k09_3))
def D_check_kinds_k09 : RF := denF 4 6 (dn_check_kinds_k09)
def L_check_steps_k09_1l1 : MS := (sif (mor (mtest (op2 fLt (mvar 4) (mret (D.int 0)))) (mtest (op2 fGe (mvar 4) (opn fLen (acons (mvar 0) anil))))) (sraise 2) sskip)
def b_check_steps_k09_1l1 : MS := (sfor (mbind (mtupd (astar (mvar 3) (astar (op2 fIx (mvar 1) (mvar 2)) anil))) fun x => mlift (tupOf x)) (gset 4) L_check_steps_k09_1l1)
def b_check_steps_k09_1l2 : MS := (sif (mtest (op2 fNe (opn fBoolS (acons (mvar 3) anil)) (opn fBoolS (acons (op2 fIx (mvar 1) (mvar 2)) anil)))) (sraise 2) sskip)
def L_check_steps_k09_1 : MS := (sseq b_check_steps_k09_1l1
    b_check_steps_k09_1l2)
def dn_check_steps_k09 : MS := (sfor (mbind (acons (mvar 0) anil) fun x => mlift (enumS x)) (gset2 2 3) L_check_steps_k09_1)
def D_check_steps_k09 : RF := denF 2 5 (dn_check_steps_k09)
def b_check_parts_k09_1 : MS := (sdrop (mcall D_check_kinds_k09 (acons (mvar 0) (acons (mvar 1) (acons (mvar 2) (acons (mvar 3) anil))))))
def b_check_parts_k09_2 : MS := (sasg (opn fLen (acons (mvar 2) anil)) (gset 4))
def b_check_parts_k09_3 : MS := (sif (mor (mtest (op2 fEq (mvar 4) (mret (D.int 0)))) (mtest (op2 (fEqD true) (mfreeze (mshort (acons (opn fLen (acons (mvar 0) anil)) (acons (opn fLen (acons (mvar 1) anil)) (acons (opn fLen (acons (mvar 3) anil)) anil))))) (op2 fRep (mfreeze (mshort (acons (mvar 4) anil))) (mret (D.int 3)))))) (sraise 2) sskip)
def b_check_parts_k09_4 : MS := (sdrop (mcall D_check_steps_k09 (acons (mvar 0) (acons (mvar 1) anil))))
def L_check_parts_k09_5 : MS := (sif (mtest (op2 (fInB true) (mvar 5) (mtupd (acons (mret (D.int 1)) (acons (mret (D.int 2)) anil))))) (sraise 2) sskip)
def b_check_parts_k09_5 : MS := (sfor (mbind (mvar 2) fun x => mlift (seqOf x)) (gset 5) L_check_parts_k09_5)
def L_check_parts_k09_6 : MS := (sif (mnot (mtru (mcall D_due_in_range (acons (mvar 6) anil)))) (sraise 2) sskip)
def b_check_parts_k09_6 : MS := (sfor (mbind (mvar 3) fun x => mlift (seqOf x)) (gset 6) L_check_parts_k09_6)
def b_check_parts_k09_7 : MS := (sdrop (mcall D_check_most (acons (mvar 4) (acons (mret (D.int 60)) anil))))
def L_check_parts_k09_8 : MS := (sif (mtru (mcall D_due_too_great (acons (mvar 6) anil))) (sraise 3) sskip)
def b_check_parts_k09_8 : MS := (sfor (mbind (mvar 3) fun x => mlift (seqOf x)) (gset 6) L_check_parts_k09_8)
def dn_check_parts_k09 : MS := (sseq b_check_parts_k09_1
    (sseq b_check_parts_k09_2
    (sseq b_check_parts_k09_3
    (sseq b_check_parts_k09_4
    (sseq b_check_parts_k09_5
    (sseq b_check_parts_k09_6
    (sseq b_check_parts_k09_7
    b_check_parts_k09_8)))))))
def D_check_parts_k09 : RF := denF 4 7 (dn_check_parts_k09)
def b_Web_init_k09_01 : MS := (sdrop (mcall D_check_parts_k09 (acons (mvar 1) (acons (mvar 2) (acons (mvar 3) (acons (mvar 4) anil))))))
def b_Web_init_k09_02 : MS := (sasg (opn fLen (acons (mvar 3) anil)) (gset 5))
def c_Web_init_k09_1 : M (List D) := (mcomp (mbind (mvar 1) fun x => mlift (seqOf x)) 6 mtrue (mcall D_as_stands (acons (mvar 6) (acons (mvar 5) anil))))
def b_Web_init_k09_04 (A : CA) : MS := (sfldO A.Web 0 "_first" (opn fTuple (acons (mfreeze c_Web_init_k09_1) anil)))
def c_Web_init_k09_2 : M (List D) := (mcomp (mbind (mvar 2) fun x => mlift (seqOf x)) 6 mtrue (mcall D_as_stands (acons (mvar 6) (acons (mvar 5) anil))))
def b_Web_init_k09_05 (A : CA) : MS := (sfldO A.Web 0 "_second" (opn fTuple (acons (mfreeze c_Web_init_k09_2) anil)))
def b_Web_init_k09_06 (A : CA) : MS := (sfldO A.Web 0 "_marks" (opn fTuple (acons (mvar 3) anil)))
def c_Web_init_k09_3 : M (List D) := (mcomp (mbind (mvar 4) fun x => mlift (seqOf x)) 7 mtrue (mif (mtest (op2 fIsN (mvar 7) (mret D.non))) (mret D.non) (opn fTuple (acons (mvar 7) anil))))
def b_Web_init_k09_07 (A : CA) : MS := (sfldO A.Web 0 "_dues" (opn fTuple (acons (mfreeze c_Web_init_k09_3) anil)))
def c_Web_init_k09_4 : M (List D) := (mcomp (mbind (acons (mvar 5) anil) fun x => mlift (rng1 x)) 8 (mnot (mtru (op2 fIx (mvar 1) (mvar 8)))) (mvar 8))
def b_Web_init_k09_08 (A : CA) : MS := (sfldO A.Web 0 "_ends" (opn fTuple (acons (mfreeze c_Web_init_k09_4) anil)))
def c_Web_init_k09_5 : M (List D) := (mcomp (mbind (acons (mvar 5) anil) fun x => mlift (rng1 x)) 8 (mtru (op2 fIx (mvar 1) (mvar 8))) (mvar 8))
def b_Web_init_k09_09 (A : CA) : MS := (sfldO A.Web 0 "_moving" (opn fTuple (acons (mfreeze c_Web_init_k09_5) anil)))
def c_Web_init_k09_6 : M (List D) := (mcomp (mbind (mvar 4) fun x => mlift (seqOf x)) 7 mtrue (mif (mtest (op2 fIsN (mvar 7) (mret D.non))) (mret (D.int 0)) (op2 fIx (mvar 7) (mret (D.int 1)))))
def b_Web_init_k09_10 (A : CA) : MS := (sfldO A.Web 0 "_greatest_due" (opn fMaxL (acons (mfreeze c_Web_init_k09_6) anil)))
def b_Web_init_k09_11 (A : CA) : MS := (sfldO A.Web 0 "_even" (op2 (fEqD false) (mfldO A.Web 0 "_first") (mfldO A.Web 0 "_second")))
def dn_Web_init_k09 (A : CA) : MS := (sseq b_Web_init_k09_01
    (sseq b_Web_init_k09_02
    (sseq (sfldO A.Web 0 "_size" (mvar 5))
    (sseq (b_Web_init_k09_04 A)
    (sseq (b_Web_init_k09_05 A)
    (sseq (b_Web_init_k09_06 A)
    (sseq (b_Web_init_k09_07 A)
    (sseq (b_Web_init_k09_08 A)
    (sseq (b_Web_init_k09_09 A)
    (sseq (b_Web_init_k09_10 A)
    (b_Web_init_k09_11 A)))))))))))
def sqD (b : Bool) (ds : List D) : D := if b then .tup ds else .lst ds
def sqI (s : Bool × List Int) : D := sqD s.1 (s.2.map .int)
def sqDue (s : Bool × Due) : D := match s.2 with
  | none => .non
  | some (w, x) => sqD s.1 [.str (if w then "chips" else "less"), .int x]
structure Wg where
  first : Bool × List (Bool × List Int)
  second : Bool × List (Bool × List Int)
  marks : Bool × List Int
  dues : Bool × List (Bool × Due)
def Wg.wb (g : Wg) : Wb := ⟨g.first.2.map Prod.snd, g.second.2.map Prod.snd, g.marks.2, g.dues.2.map Prod.snd⟩
def encG (g : Wg) : List D := [sqD g.first.1 (g.first.2.map sqI), sqD g.second.1 (g.second.2.map sqI), sqI g.marks, sqD g.dues.1 (g.dues.2.map sqDue)]
structure ValidG (wb : Wb) : Prop where
  n1 : 1 ≤ wb.marks.length
  n2 : wb.marks.length ≤ 60
  l1 : wb.first.length = wb.marks.length
  l2 : wb.second.length = wb.marks.length
  l3 : wb.dues.length = wb.marks.length
  s1 : ∀ ss ∈ wb.first, ss.length < 64 ∧ ∀ x ∈ ss, 0 ≤ x ∧ x < (wb.marks.length : Int)
  s2 : ∀ ss ∈ wb.second, ss.length < 64 ∧ ∀ x ∈ ss, 0 ≤ x ∧ x < (wb.marks.length : Int)
  both : ∀ (i : Nat) (a b : List Int), wb.first[i]? = some a → wb.second[i]? = some b → a.isEmpty = b.isEmpty
  mks : ∀ m ∈ wb.marks, m = 1 ∨ m = 2
  du : ∀ d ∈ wb.dues, ∀ b x, d = some (b, x) → 0 ≤ x ∧ x ≤ 10000000000000000000000000000000000000000
open Classical in
def D_Web_init_k09 (_ : CA) : RI := fun ds pot => if h : ∃ g, ValidG (Wg.wb g) ∧ ds = encG g then .ok (wnames, wfields (choose h).wb) pot else .bad

def c_law_built_k09_1 : M (List D) := (mcomp (mbind (op2 fIx (mvar 0) (mret (D.int 1))) fun x => mlift (lstOf x)) 1 mtrue (mfreeze (mlistN (acons (mvar 1) anil))))
def c_law_built_k09_2 : M (List D) := (mcomp (mbind (op2 fIx (mvar 0) (mret (D.int 0))) fun x => mlift (lstOf x)) 1 mtrue (mfreeze (mlistN (acons (mvar 1) anil))))
def dn_law_built_k09 (A : CA) : MS := (sret (mmake A.Web (D_Web_init_k09 A) (acons (mfreeze c_law_built_k09_2) (acons (mfreeze c_law_built_k09_1) (acons (mfreeze (mlistN (acons (op2 fIx (mvar 0) (mret (D.int 2))) anil))) (acons (mfreeze (mlistN (acons (op2 fIx (mvar 0) (mret (D.int 3))) anil))) anil))))))
def D_law_built_k09 (A : CA) : RF := denF 1 2 (dn_law_built_k09 A)
end
end PL
namespace DenB
open PySem PySem.Calls
section
variable {prog : Program} {w : World} {A : Around} {E : Value → Shared → Prop} {s : Shared} {K : PySem.W.Frag} {x C L f : Addr} {ox : Obj} {od : Option Obj} {h₀ : Heap} {m : Str → Option Value} {b tb : Value}
end
end DenB
namespace DenB
open PySem PySem.Calls
section
variable {prog : Program} {w : World} {A : Around} {E : Value → Shared → Prop} {s : Shared} {K : PySem.W.Frag} {x C L f : Addr} {ox : Obj} {od : Option Obj}
end
end DenB
namespace Den
open PySem L2 ItX
end Den
namespace Den
open PySem L2
section
variable {X : Cx} {CX : CXT} {C g : Addr} {n : Nat} {sp : Sp} {E : XK} {pins : List (Addr × Obj)} {σ : St} {H : Hp} {s : Shared}
end
section
variable {c : Cfg} {E : St → XK}
/-- the walk -/
def itOwn (C : Addr) (f : Str) : D → Option (List D)
  | .ins C' ns ds => if C' = C then ((ns.zip ds).lookup f).bind tupOf else none
  | _ => none
end
end Den
namespace Den
open PySem L2
section
variable {c : Cfg} {E : St → XK}
def stryB (B : Nat) (body : MS) (hs : List (Nat × MS)) : MS := fun l p => match body l p with
  | .err n l' p' => if n < B then handle n hs l' p' else .bad
  | o => o
inductive SuitesB (c : Cfg) (B : Nat) : List (Value × (Addr → Value → Option Addr → TS)) → List (Nat × MS) → Prop
  | nil : SuitesB c B [] []
  | cons {m : Nat} {ts : Addr → Value → Option Addr → TS} {s : MS} {l : List (Value × (Addr → Value → Option Addr → TS))} {hs : List (Nat × MS)} (hm : m < B) (h : ∀ a cls d, SS c (fun _ => E0) (ts a cls d) s) (t : SuitesB c B l hs) : SuitesB c B ((.ref (c.ec m), ts) :: l) ((m, s) :: hs)
def ApartB (c : Cfg) (B : Nat) : Prop := ∀ n m : Nat, n < B → m < B → PySem.W.exmOne c.K (.ref (c.ec n)) (.ref (c.ec m)) = some (decide (n = m))
theorem ss_manyB {B : Nat} {De : Ends} {ls : List (Value × (Addr → Value → Option Addr → TS))} {hs : List (Nat × MS)} (ap : ApartB c B) (su : SuitesB c B ls hs) {n : Nat} {G0 H0 G' H' : Hp} {σ' : St} {l' : Loc} {p' : List Int} (r : Rel c G0 H0 G' H' σ' l' p') (hn : n < B)
    (post : PostS c E G0 H0 G' De (handle n hs l' p')) : wMany c.K (fun cls d σ H => E σ cls d H) De ls (.ref (c.ec n)) none σ' H' := by
  induction su with
  | nil => exact post G' H' σ' (Ex.refl _) r
  | @cons m ts s l hs hm h t ih =>
    refine ⟨decide (n = m), ap n m hn hm, fun e a _ => ?_, fun e => ?_⟩
    · unfold handle at post
      rw [if_pos (of_decide_eq_true e)] at post
      exact h _ _ _ _ _ _ _ _ _ _ r De (PostS.noE post)
    · unfold handle at post
      rw [if_neg (of_decide_eq_false e)] at post
      exact ih post
theorem ss_tryB {B : Nat} {tb : WX → TS} {body : MS} {ls : List (Value × (Addr → Value → Option Addr → TS))} {hs : List (Nat × MS)} (ap : ApartB c B) (hb : ∀ W : WX, SS c (fun σ cls d H => W cls d σ H) (tb W) body) (su : SuitesB c B ls hs) :
    SS c E (fun D σ H => tb (wMany c.K (fun cls d σ H => E σ cls d H) D ls) D σ H) (stryB B body hs) := by
  intro G0 H0 G H σ l pot r De post
  refine hb _ G0 H0 G H σ l pot r De ?_
  unfold stryB at post
  cases e : body l pot with
  | err n l' p' =>
    rw [e] at post
    dsimp only at post
    split at post
    · rename_i hn
      exact fun G' H' σ' e' r' => ss_manyB ap su r' hn (PostS.mono post e')
    · exact post.elim
  | nx l' p' => rw [e] at post; exact post
  | rt d p' => rw [e] at post; exact post
  | bk l' p' => rw [e] at post; exact post
  | ct l' p' => rw [e] at post; exact post
  | bad => rw [e] at post; exact post
end
end Den
namespace Den
open PySem L2
section
variable {c : Cfg} {E : St → XK}
def vnotT (a : M D) : M D := mbind (mtru a) fun b => mret (.bl (!b))
theorem se_notT {t : TE} {a : M D} (ha : SE c E t a) : SE c E (tNotT c.K t) (vnotT a) := by
  intro G0 H0 G H σ l pot rl Q post
  have post' : Post c E (rD c) G0 H0 G H σ l (mbind a (fun x => mbind (mlift (truOf x)) fun b => mret (.bl (!b))) l pot) Q := by
    unfold vnotT mtru at post
    unfold mbind at post ⊢
    cases e : a l pot <;> simp only [e, R.bind] at post ⊢ <;> exact post
  refine Sn.go ha rl post' fun x dx p G1 H1 s1 r1 hx post1 => ?_
  cases e : truOf dx with
  | none => rw [e] at post1; exact post1.elim
  | some b =>
    rw [e] at post1
    exact ⟨b, tru_at r1.stp.gh hx e, Post.ok post1 r1 (.bl _)⟩
end
end Den
namespace Den
open PySem L2 StX
section
variable {X : Cx} {CX : CXT} {k : Nat} {f C : Addr} {sp : Sp} {E : St → XK} {x : Str} {e : Expr} {es : List Expr} {t : TA} {p pos : Pos}
end
section
variable {c : Cfg} {E : St → XK}
end
end Den
namespace PL
open PySem L2 Den
noncomputable section
end
end PL
namespace Den
open PySem L2 ItX
section
variable {c : Cfg} {E : St → XK}
def mlistO (C : Addr) (f : Str) (a : M (List D)) : M (List D) := mbind a fun ds => match ds with
  | [d] => mlift (itOwn C f d)
  | _ => fun _ _ => .bad
@[simp] theorem mlistO_ev (C : Addr) (f : Str) (a : M (List D)) (l : Loc) (p : List Int) {d : D} {p' : List Int} (h : a l p = .ok [d] p') : mlistO C f a l p = mlift (itOwn C f d) l p' := by
  unfold mlistO
  rw [mbind_ok h]
end
end Den
namespace PL
open PySem L2 Den
noncomputable section
end
end PL
namespace Den
open PySem L2
section
variable {c : Cfg} {E : St → XK}
theorem Rel.lend {G0 H0 G H : Hp} {σ : St} {l : Loc} {pot : List Int} {i : Nat} {ds : List D} (r : Rel c G0 H0 G H σ l pot) (hc : l[i]? = some (some (.cell ds))) :
    ∃ p vs, G p = none ∧ H p = some (.lst vs) ∧ ¬ c.B p ∧ Rel c G0 H0 (upd G p (.lst vs)) H σ (l.set i (some (.dat (.lst ds)))) pot := by
  have q := r.slot i _ hc
  have hi : i < l.length := (List.getElem?_eq_some_iff.mp hc).1
  cases ho : σ[i]? with
  | none => rw [ho] at q; exact q.elim
  | some o =>
    cases o with
    | none => rw [ho] at q; exact q.elim
    | some v =>
      cases v with
      | ref p =>
        rw [ho] at q
        obtain ⟨vs, h1, h2, h3, h4⟩ := q
        have hP : ¬ c.B p := fun z => r.hP p z h4
        have r1 : Rel c G0 H0 G H σ (l.set i none) pot := by
          refine ⟨r.stp, r.pot, r.gP, r.hP, by rw [List.length_set, r.len], fun j x e => ?_, fun j k x y e1 e2 o1 o2 ne => ?_⟩
          · by_cases z : j = i
            · subst z; rw [List.getElem?_set_self hi] at e; cases e
            · rw [List.getElem?_set_ne (Ne.symm z)] at e; exact r.slot j x e
          · have nn : ∀ (m : Nat) (x : L), (l.set i none)[m]? = some (some x) → m ≠ i := fun m x e z => by
              subst z; rw [List.getElem?_set_self hi] at e; cases e
            have nj := nn j x e1
            have nk := nn k y e2
            rw [List.getElem?_set_ne (Ne.symm nj)] at e1
            rw [List.getElem?_set_ne (Ne.symm nk)] at e2
            exact r.dist j k x y e1 e2 o1 o2 ne
        have r2 := Rel.freeze r1 h1 h4 hP (fun j x e o z => by
          have nj : j ≠ i := fun w => by subst w; rw [List.getElem?_set_self hi] at e; cases e
          rw [List.getElem?_set_ne (Ne.symm nj)] at e
          exact r.dist j i _ _ e hc o rfl nj (by rw [z, ho])) h3
        have r3 := Rel.set (i := i) r2 (v := .ref p) (d := .lst ds) (.lst upd_same (AtL.mono (Ex.new h3) h2)) (by rw [List.length_set]; exact hi)
        have e1 : σ.set i (some (.ref p)) = σ := by
          have hσ : i < σ.length := by rw [r.len]; exact hi
          refine List.ext_getElem? fun j => ?_
          by_cases z : j = i
          · subst z; rw [List.getElem?_set_self hσ, ho]
          · rw [List.getElem?_set_ne (Ne.symm z)]
        rw [e1, List.set_set] at r3
        exact ⟨p, vs, h3, h1, hP, r3⟩
      | _ => rw [ho] at q; exact q.elim
/-- what stands, but for p -/
def less (G : Hp) (p : Addr) : Hp := fun q => if q = p then none else G q
theorem less_some {G : Hp} {p q : Addr} {o : HO} (h : less G p q = some o) : q ≠ p ∧ G q = some o := by
  unfold less at h
  by_cases z : q = p
  · rw [if_pos z] at h; cases h
  · rw [if_neg z] at h; exact ⟨z, h⟩
theorem Stp.back {G H G2 H2 : Hp} {p : Addr} {o : HO} (gp : G p = none) (s : Stp c.B (upd G p o) H G2 H2) : Stp c.B G H (less G2 p) H2 := by
  refine ⟨fun a u e => ?_, fun a u e => s.gh a u (less_some e).2, s.keep, s.there, fun a u e => ?_⟩
  · have ne : a ≠ p := fun z => by rw [z, gp] at e; cases e
    show (if a = p then none else G2 a) = some u
    rw [if_neg ne]
    exact s.gg a u (by rw [upd_ne ne]; exact e)
  · obtain ⟨ne, e2⟩ := less_some e
    rcases s.new a u e2 with z | z
    · rw [upd_ne ne] at z; exact .inl z
    · exact .inr z
def mlendG {β : Type} (i : Nat) (ok : β → Bool) (e : M β) : M β := fun l p => match Den.cellOf i l with
  | some ds => (match e (l.set i (some (.dat (.lst ds)))) p with
    | .ok b q => if ok b = true then .ok b q else .bad
    | _ => .bad)
  | none => .bad
theorem sn_lend {α β : Type} {rel : Hp → α → β → Prop} {t : St → Hp → (α → Hp → Prop) → Prop} {e : M β} {i : Nat} {ok : β → Bool} (free : ∀ G G' a b, ok b = true → rel G a b → rel G' a b) (h : Sn c E rel t e) : Sn c E rel t (mlendG i ok e) := by
  intro G0 H0 G H σ l pot r Q post
  unfold mlendG at post
  cases ec : Den.cellOf i l with
  | none => rw [ec] at post; exact post.elim
  | some ds =>
    rw [ec] at post
    dsimp only at post
    obtain ⟨p, vs, gp, hp, hP, r'⟩ := r.lend (cellOf_at ec)
    refine h _ _ _ _ _ _ _ r' Q ?_
    cases e1 : e (l.set i (some (.dat (.lst ds)))) pot with
    | ok b q =>
      rw [e1] at post
      dsimp only at post
      by_cases z : ok b = true
      · rw [if_pos z] at post
        exact fun a G2 H2 s2 r2 ra => post a _ H2 (s2.back gp) (r.step (s2.back gp) r2.pot) (free _ _ _ _ z ra)
      · rw [if_neg z] at post; exact post.elim
    | err n q => rw [e1] at post; exact post.elim
    | bad => rw [e1] at post; exact post.elim
def mlendT (i : Nat) (e : M Bool) : M Bool := mlendG i (fun _ => true) e
theorem st_lend {i : Nat} {t : TT} {e : M Bool} (h : ST c E t e) : ST c E t (mlendT i e) := sn_lend (fun _ _ _ _ _ a => a) h
theorem cellOf_ev {i : Nat} {l : Loc} {ds : List D} (h : l[i]? = some (some (.cell ds))) : Den.cellOf i l = some ds := by
  unfold Den.cellOf
  rw [h]
theorem mlendG_ev {β : Type} {i : Nat} {ok : β → Bool} {e : M β} {l : Loc} {p q : List Int} {ds : List D} {b : β} (hc : l[i]? = some (some (.cell ds))) (h : e (l.set i (some (.dat (.lst ds)))) p = .ok b q) (hb : ok b = true) : mlendG i ok e l p = .ok b q := by
  unfold mlendG
  rw [cellOf_ev hc]
  simp only [h, hb, if_true]
end
end Den
namespace Den
open PySem L2
section
variable {X : Cx}
end
section
variable {c : Cfg} {E : St → XK}
/-- ints, in ascending order -/
def insW (k : Int) : List Int → List Int
  | [] => [k]
  | n :: ns => if k ≤ n then k :: n :: ns else n :: insW k ns
end
end Den
namespace Den
open PySem L2
section
variable {c : Cfg} {E : St → XK}
end
end Den
namespace Den
open PySem L2
section
variable {c : Cfg} {E : St → XK}
end
end Den
namespace PL
open PySem L2 Den
noncomputable section
end
end PL
namespace PL
open PySem L2 Den
noncomputable section
end
end PL
namespace Den
open PySem L2
section
variable {c : Cfg} {E : St → XK}
end
end Den
namespace Den
open PySem L2
section
variable {c : Cfg} {E : St → XK}
def insM (C : Addr) (m : Str) : D → Option D
  | .ins C' ns ds => if C' = C ∧ ns.contains m = false then some (.ins C' ns ds) else none
  | _ => none
def mmeth (C : Addr) (m : Str) (f : RF) (a : M D) (b : M (List D)) : M D := mbind a fun d => mbind (mlift (insM C m d)) fun x => mbind b fun ys _ p => f (x :: ys) p
end
section
variable {c : Cfg} {E : St → XK}
@[simp] theorem mmeth_ev (C : Addr) (m : Str) (f : RF) (a : M D) (b : M (List D)) (l : Loc) (p : List Int) : mmeth C m f a b l p = (a l p).bind fun d p' => (mlift (insM C m d) l p').bind fun x p'' => (b l p'').bind fun ys q => f (x :: ys) q := rfl
end
end Den
namespace L2
open PySem PySem.Spec PyProof.Rows
end L2
namespace Den
open PySem L2
end Den
namespace FX
open PySem L2 Den
noncomputable section
variable {K : PySem.W.Frag} {P : Program} {w : World} {mg : Str → Option Value} {base : Heap}
theorem pss_any {X : Cx} {st : List Stmt} : PSs X st (fun D σ H => ∃ t, PSs X st t ∧ t D σ H) := ⟨fun pins s σ H D I h => by
  obtain ⟨t, ht, h⟩ := h
  exact ht.run pins s σ H D I h⟩
def spLaw (K : PySem.W.Frag) : Sp := fun vs H Q _ => ∃ (a : Addr) (ns : List Int), vs = [.ref a] ∧ SqL K H a (ns.map V.int) ∧ ns.length ≤ 63 ∧ ∀ H', Q (.bl true) H'
/-- the slots of the law behind its first statement: the pot alone -/
def potLoc (m : Nat) : Den.Loc := none :: some (.dat .pot) :: List.replicate m none
theorem pot_rel {ec : Nat → Addr} {p : Addr} {H' : Hp} {pot : List Int} {m : Nat} {a : Addr} (hp : H' p = some (.lst (pot.map V.int))) : Rel (potCfg K p ec) (fun _ => none) H' (fun _ => none) H' (some (.ref a) :: some (.ref p) :: List.replicate m none) (potLoc m) pot := by
  have key : ∀ (i : Nat) (x : L), (potLoc m)[i]? = some (some x) → i = 1 ∧ x = .dat .pot := fun i x e => by
    match i, e with
    | 0, e => cases e
    | 1, e => cases e; exact ⟨rfl, rfl⟩
    | n + 2, e =>
      have e' : (List.replicate m (none : Option L))[n]? = some (some x) := e
      rw [List.getElem?_replicate] at e'
      split at e' <;> cases e'
  refine ⟨Stp.refl (fun _ _ z => nomatch z), hp, fun _ _ => rfl, fun a b z => (potCfg K p ec).full (p := pot) hp a b z, by simp [potLoc], fun i x e => ?_, fun i j x y e1 e2 o1 => ?_⟩
  · obtain ⟨rfl, rfl⟩ := key i x e
    exact At.pot
  · obtain ⟨rfl, rfl⟩ := key i x e1
    cases o1
theorem kitCls_at {t : Value} {C : Addr} {b : Bool} (i : PySem.W.isClsIn K C = true) (ty : PySem.W.typeIn K (.ref C) = some (.type "type")) (s : PySem.W.subIn K t (.ref C) = some b) : PySem.W.kitCls K t (.ref C) = some b := by
  have e : ((PySem.W.clsIn K C).isSome && PySem.W.typeIn K (.ref C) == some (.type "type")) = true := by
    rw [ty, show (PySem.W.clsIn K C).isSome = true from i]
    rfl
  unfold PySem.W.kitCls
  simp only [e, if_true]
  exact s
theorem exm_at {t : Value} {C : Addr} {b : Bool} (bp : PySem.W.subIn K (.ref C) (.type "BaseException") = some true) (i : PySem.W.isClsIn K C = true) (ty : PySem.W.typeIn K (.ref C) = some (.type "type")) (s : PySem.W.subIn K t (.ref C) = some b) : PySem.W.exmOne K t (.ref C) = some b := by
  unfold PySem.W.exmOne
  rw [if_pos (by rw [bp]; rfl)]
  exact kitCls_at i ty s
theorem sub_no {n : String} {C : Addr} (vs : List Value) (e : fastBuiltinMro n = some vs) (h : ∀ v ∈ vs, ∃ m, v = .type m) : PySem.W.subIn K (.type n) (.ref C) = some false := by
  show (fastBuiltinMro n).map (fun x => x.contains (Value.ref C)) = _
  rw [e]
  show some (vs.contains (Value.ref C)) = _
  congr 1
  cases hc : vs.contains (Value.ref C) with
  | false => rfl
  | true =>
    have := List.contains_iff_mem.mp hc
    obtain ⟨m, z⟩ := h _ this
    cases z
theorem clsF_at {C : Addr} (cl : Cls K C) (ha : PySem.W.findIn K (.ref C) "__class__" = some (some (.builtin "object.__class__"))) (i : PySem.W.isClsIn K C = true) (ty : PySem.W.typeIn K (.ref C) = some (.type "type")) (hm : PySem.W.mroIn K C (.type "object") = some true) : Den.ClsF K C := by
  have et : PySem.W.typeIn K (.builtin "object.__class__") = some (.type "getset_descriptor") := by
    show PySem.W.pureOf (fastBuiltinType "object.__class__") = _
    decide +kernel
  have kit : ∀ {n : String} (vs : List Value), fastBuiltinMro n = some vs → (∀ v ∈ vs, ∃ m, v = .type m) → PySem.W.kitOne K (.type n) (.ref C) = some false := fun vs e h => by
    unfold PySem.W.kitOne
    rw [if_neg (fun z => by cases (beq_iff_eq.mp z))]
    exact kitCls_at i ty (sub_no vs e h)
  refine ⟨cl, ha, ?_, ?_, hm, ?_, kit [.type "list", .type "object"] (by decide +kernel) ?_, kit [.type "tuple", .type "object"] (by decide +kernel) ?_, kit [.type "int", .type "object"] (by decide +kernel) ?_, kit [.type "bool", .type "int", .type "object"] (by decide +kernel) ?_, kit [.type "str", .type "object"] (by decide +kernel) ?_, kit [.type "NoneType", .type "object"] (by decide +kernel) ?_⟩
  · unfold PySem.W.specialIn
    rw [et]
    show PySem.fastLookup "getset_descriptor" "__get__" = _
    decide +kernel
  · unfold PySem.W.takesIn PySem.W.specialIn
    rw [et]
    have : PySem.W.findIn K (.type "getset_descriptor") "__set__" = some (some (.builtin "getset_descriptor.__set__")) := by
      show PySem.fastLookup "getset_descriptor" "__set__" = _
      decide +kernel
    simp only [Option.bind_some, this]
  · unfold PySem.W.kitOne
    rw [if_pos (by simp)]
  all_goals simp
theorem prop_at {C p g : Addr} {f : Str} {d : Option Addr} {vs : Array Value} {sl : Array (Option Value)} {rest : List Value} (at_ : PySem.W.findIn K (.ref C) f = some (some (.ref p))) (l : K.lookup p = some ⟨.type "property", d, .fields vs, sl⟩) (e : vs.toList = .ref g :: rest) : PropOf K C f p g := by
  have et : PySem.W.typeIn K (.ref p) = some (.type "property") := by
    show (K.lookup p).map (fun x => x.cls) = _
    rw [l]
    rfl
  refine ⟨at_, ?_, ?_, rest, ?_⟩
  · unfold PySem.W.specialIn
    rw [et]
    show PySem.fastLookup "property" "__get__" = _
    decide +kernel
  · unfold PySem.W.takesIn PySem.W.specialIn
    rw [et]
    have : PySem.W.findIn K (.type "property") "__set__" = some (some (.builtin "property.__set__")) := by
      show PySem.fastLookup "property" "__set__" = _
      decide +kernel
    simp only [Option.bind_some, this]
  · unfold PySem.W.recIn
    rw [l]
    show (if ("property" == "property") = true then some vs.toList else none) = _
    rw [if_pos (by decide), e]
def FnIn (K : PySem.W.Frag) (x qual : Str) (st : Stmt) (f : Addr) : Prop := ∃ fd, Fun K x qual st f fd
theorem fnIn_mk {x qual : Str} {st : Stmt} {f : Addr} {oc : Value} {od an : Option Addr} {osl : Array (Option Value)} {kV doc pm cdv ct : Value} (l : K.lookup f = some ⟨oc, od, .func (PySem.W.fnOf x qual (defArgs st) (defBody st) (defScope st) .none kV doc pm an cdv ct), osl⟩) (c : PySem.W.codeIn K cdv qual = true) (k : PySem.W.keepIn K (.ref f) = true) : FnIn K x qual st f := ⟨_, fun_mk (st := st) l c k⟩
end
end FX
namespace Den
open PySem L2
section
variable {X : Cx}
end
section
variable {c : Cfg} {E : St → XK}
/-- C.m(..), m a method of the class -/
def mcmeth (C : Addr) (f : RF) (b : M (List D)) : M D := mbind b fun ys _ p => f (.cls C :: ys) p
variable {P : Program} {w : World} {mg : Str → Option Value} {base : Heap}
end
section
variable {c : Cfg} {E : St → XK}
@[simp] theorem mcmeth_ev (C : Addr) (f : RF) (b : M (List D)) (l : Loc) (p : List Int) : mcmeth C f b l p = (b l p).bind fun ys q => f (.cls C :: ys) q := rfl
end
end Den
namespace FX
open PySem L2 Den
variable {K : PySem.W.Frag}
end FX
namespace DenM
open PySem PySem.Spec PyProof.Rows
section
variable {prog : Program} {w : World} {A : Around} {E : Value → Shared → Prop} {s : Shared} {l : Addr} {xs : Array (Int × Tok)} {d : Value}
end
end DenM
namespace L2
open PySem PySem.Spec PyProof.Rows
section
variable {X : Cx}
end
end L2
namespace Den
open PySem L2
section
variable {c : Cfg} {E : St → XK}
theorem AtL.reverse {P : Addr} {G : Hp} : ∀ {vs : List V} {ds : List D}, AtL P G vs ds → AtL P G vs.reverse ds.reverse
  | _, _, .nil => .nil
  | _, _, .cons h t => by
    rw [List.reverse_cons, List.reverse_cons]
    exact AtL.append (AtL.reverse t) (.cons h .nil)
/-- a built-in with keywords that lays nothing -/
structure SNK (c : Cfg) (r : List V → List V → Hp → VK → Prop) (f : List D → List D → Option D) : Prop where
  run : ∀ (G H : Hp) (xs zs : List V) (ds es : List D) (d : D), Ex G H → AtL c.P G xs ds → AtL c.P G zs es → f ds es = some d → ∃ v, At c.P G v d ∧ ∀ Q : VK, Q v H → r xs zs H Q
def mckw (f : List D → List D → Option D) (a b : M (List D)) : M D := mbind a fun xs => mbind b fun zs => mlift (f xs zs)
def fRev2 : D → Option (List D)
  | .lst ds => some (ds.take (ds.length - 1)).reverse
  | _ => none
def mrev2 (a : M D) : M (List D) := mbind a fun x => mlift (fRev2 x)
/-- a new list by cases -/
def mifN (t : M Bool) (a b : M (List D)) : M (List D) := mbind t fun x => if x = true then a else b
@[simp] theorem mckw_ev (f : List D → List D → Option D) (a b : M (List D)) (l : Loc) (p : List Int) : mckw f a b l p = (a l p).bind fun xs p' => (b l p').bind fun zs p'' => mlift (f xs zs) l p'' := rfl
@[simp] theorem mrev2_ev (a : M D) (l : Loc) (p : List Int) : mrev2 a l p = (a l p).bind fun y p' => mlift (fRev2 y) l p' := rfl
@[simp] theorem mifN_ev (t : M Bool) (a b : M (List D)) (l : Loc) (p : List Int) : mifN t a b l p = (t l p).bind fun x p' => (if x = true then a else b) l p' := rfl
end
end Den
namespace PL
open PySem L2 Den
noncomputable section
end
end PL
namespace PL
open PySem L2 Den
noncomputable section
end
end PL
namespace L2
open PySem PySem.Spec PyProof.Rows
section
variable {X : Cx} {CX : CXT} {k n : Nat} {f : Addr} {fd : FuncData} {ps ks : List Str} {sp : Sp} {E : St → XK} {x : Str} {p pos : Pos} {e : Expr} {es : List Expr} {kws : List Keyword} {t tk : TA} {gV : List V → List V → List V}
end
section
variable {K : PySem.W.Frag} {x qual : Str} {params : Arguments} {body : List Stmt} {scope : Scope} {dv kv : V} {kn : Str} {f : Addr} {fd : FuncData} {ps : List Str}
end
end L2
namespace Den
open PySem L2
section
variable {c : Cfg} {E : St → XK}
/-- f(.., k = v): mid stands for the defaults between them -/
def mcallK (f : RF) (n m : Nat) (mid : List D) (a b : M (List D)) : M D := mbind a fun xs => mbind b fun zs _ p => if xs.length = n ∧ zs.length = m then f (xs ++ mid ++ zs) p else .bad
variable {P : Program} {w : World} {mg : Str → Option Value} {base : Heap}
@[simp] theorem mcallK_ev (f : RF) (n m : Nat) (mid : List D) (a b : M (List D)) (l : Loc) (p : List Int) : mcallK f n m mid a b l p = (a l p).bind fun xs q => (b l q).bind fun zs q2 => if xs.length = n ∧ zs.length = m then f (xs ++ mid ++ zs) q2 else .bad := rfl
end
end Den
namespace FX
open PySem L2 Den
variable {K : PySem.W.Frag}
end FX
namespace PL
open PySem L2 Den
noncomputable section
end
end PL
namespace Den
open PySem L2
def then2 (r : R (List D)) (K : List Int → R (List D)) : R (List D) := match r with
  | .ok r p => pre r (K p)
  | _ => .bad
def comp22 (i j : Nat) (it : M (List D)) (e : M D) : List D → M (List D)
  | [] => mret []
  | d :: ds => fun l p => if i < l.length ∧ j < l.length then (match it ((l.set j none).set i (some (.dat d))) p with
    | .ok es p1 => if es.length ≤ 1000 then then2 (comp j mtrue e es ((l.set j none).set i (some (.dat d))) p1) (fun p2 => comp22 i j it e ds l p2) else .bad
    | _ => .bad) else .bad
def mcomp22 (a : M (List D)) (i j : Nat) (it : M (List D)) (e : M D) : M (List D) := mbind a fun ds => if ds.length ≤ 1000 then comp22 i j it e ds else fun _ _ => .bad
theorem pre_pre (a b : List D) (r : R (List D)) : pre a (pre b r) = pre (a ++ b) r := by
  cases r with
  | ok r p => show R.ok (a ++ (b ++ r)) p = R.ok (a ++ b ++ r) p; rw [List.append_assoc]
  | err n p => rfl
  | bad => rfl
theorem tYes_if {σ : St} {H : Hp} {A B : Hp → Prop} (h : A H) : tYes σ H (fun b H6 => if b = true then A H6 else B H6) := by
  show (if true = true then A H else B H)
  rw [if_pos rfl]
  exact h
section
variable {c : Cfg} {E : St → XK}
theorem noD_of {B : Addr → Prop} {Dl : Addr} {Ga Ha Gb Hb : Hp} (s : Stp B Ga Ha Gb Hb) (h1 : Ga Dl = none) (h2 : Ha Dl ≠ none) : Gb Dl = none := by
  cases eg : Gb Dl with
  | none => rfl
  | some u =>
    rcases s.new Dl u eg with z | z
    · rw [h1] at z; cases z
    · exact absurd z h2
theorem lc2_inner {te : TE} {e : M D} {j : Nat} (he : SE c (fun _ => E0) te e) {G0 H0 G1 H1 Gi Hi : Hp} {σ σ2 : St} {l l2 : Loc} {Q : VK} {J1 : It} {es : List D} {Dl : Addr} {p0 : List Int} {acc0 : List V} {aD0 : List D} {K : List Int → R (List D)} {n0 : Nat} {Nx : Hp → Prop}
    (w : Walks c J1 es Gi) (hes : es.length ≤ 1000) (hn0 : n0 ≤ 1000000) (hj : j < l2.length) (hPD : ∀ a, c.B a → a ≠ Dl) (hD : H1 Dl = none)
    (rel : ∀ {G H : Hp} {p : List Int}, Stp c.B G1 H1 G H → Ex Gi G → c.inv p H → Rel c G0 H0 G H σ2 l2 p)
    (s0 : Stp c.B G1 H1 Gi Hi) (i0 : c.inv p0 Hi) (h0 : Hi Dl = some (.lst acc0)) (a0 : AtL c.P Gi acc0 aD0) (g0 : Gi Dl = none) (m0 : aD0.length ≤ n0)
    (hNx : ∀ G H p acc aD, Stp c.B G1 H1 G H → c.inv p H → H Dl = some (.lst acc) → AtL c.P G acc aD → G Dl = none → aD.length ≤ n0 + 1000 → PostN c E G0 H0 G1 H1 σ l (pre aD (K p)) Q → Nx H)
    (post : PostN c E G0 H0 G1 H1 σ l (pre aD0 (then2 (comp j mtrue e es l2 p0) K)) Q) :
    ∃ W1 : Nat → Nat → Hp → Prop, (∃ m, W1 0 m Hi) ∧ ∀ jj k H, W1 jj k H →
      (J1.stop jj H ∧ Nx H) ∨ (J1.go jj H ∧ ∃ Nx1 : Hp → Prop, (∀ H', Nx1 H' → ∃ k', k' < k ∧ W1 (jj + 1) k' H') ∧ ∀ x H', J1.yld jj H x H' → gName j x (wipe σ2 [j]) H' fun σ3 H5 => wipe σ3 [j] = wipe σ2 [j] ∧ tYes σ3 H5 fun b H6 =>
        if b = true then te σ3 H6 fun y H7 => ∃ acc, H7 Dl = some (.lst acc) ∧ acc.length < sizeLine ∧ Nx1 (upd H7 Dl (.lst (acc ++ [y]))) else Nx1 H6) := by
  refine ⟨fun jj m H => m = es.length - jj ∧ jj ≤ es.length ∧ ∃ G p acc aD, Stp c.B G1 H1 G H ∧ Ex Gi G ∧ c.inv p H ∧ H Dl = some (.lst acc) ∧ AtL c.P G acc aD ∧ G Dl = none ∧ aD.length ≤ n0 + jj ∧ PostN c E G0 H0 G1 H1 σ l (pre aD (then2 (comp j mtrue e (es.drop jj) l2 p) K)) Q,
    ⟨_, rfl, Nat.zero_le _, Gi, p0, acc0, aD0, s0, Ex.refl _, i0, h0, a0, g0, m0, post⟩, ?_⟩
  rintro jj m H ⟨rfl, hjj, G, p, acc, aD, sG, eG, hp, hDl, al, hG, hl, post⟩
  by_cases hlt : jj < es.length
  · refine .inr ⟨w.go jj H (eG.trans sG.gh) hlt, fun H => ∃ G p acc aD, Stp c.B G1 H1 G H ∧ Ex Gi G ∧ c.inv p H ∧ H Dl = some (.lst acc) ∧ AtL c.P G acc aD ∧ G Dl = none ∧ aD.length ≤ n0 + (jj + 1) ∧ PostN c E G0 H0 G1 H1 σ l (pre aD (then2 (comp j mtrue e (es.drop (jj + 1)) l2 p) K)) Q,
      fun H' ⟨G, p, acc, aD, h⟩ => ⟨_, by omega, rfl, hlt, G, p, acc, aD, h⟩, fun x H' y => ?_⟩
    obtain ⟨d, G3, ed, s3, hP3, ad⟩ := w.yld jj H x H' (eG.trans sG.gh) hlt (c.full hp) y G eG sG.gh
    have edr : es.drop jj = d :: es.drop (jj + 1) := by
      obtain ⟨h1, h2⟩ := List.getElem?_eq_some_iff.mp ed
      rw [List.drop_eq_getElem_cons h1, h2]
    rw [edr] at post
    unfold comp at post
    rw [if_pos hj] at post
    have s13 := sG.trans s3
    have e3 : Ex Gi G3 := eG.trans s3.gg
    have r3 := rel s13 e3 (c.ext hP3 hp)
    have hDl3 : H' Dl = some (.lst acc) := s3.keep Dl _ hDl (fun b => hPD _ b rfl)
    have hG3 := noD_of s3 hG (by rw [hDl]; exact fun z => nomatch z)
    have r4 := r3.set ad hj
    show wipe ((wipe σ2 [j]).set j (some x)) [j] = wipe σ2 [j] ∧ tYes ((wipe σ2 [j]).set j (some x)) H' _
    have ew : (wipe σ2 [j]).set j (some x) = σ2.set j (some x) := by
      show (σ2.set j none).set j (some x) = σ2.set j (some x)
      rw [List.set_set]
    rw [ew]
    refine ⟨by show (σ2.set j (some x)).set j none = σ2.set j none; rw [List.set_set], tYes_if ?_⟩
    refine he _ _ _ _ _ _ _ r4 _ ?_
    have et : turn mtrue e (l2.set j (some (.dat d))) p = mbind e (fun x => mret (some x)) (l2.set j (some (.dat d))) p := rfl
    rw [et] at post
    cases e2 : e (l2.set j (some (.dat d))) p with
    | err n p2 => rw [mbind_err e2] at post; exact post.elim
    | bad => rw [mbind_bad e2] at post; exact post.elim
    | ok y p2 =>
      rw [mbind_ok e2] at post
      dsimp only [mret] at post
      intro v G6 H6 s6 r6 av
      have s16 := s13.trans s6
      have hDl6 : H6 Dl = some (.lst acc) := s6.keep Dl _ hDl3 (fun b => hPD _ b rfl)
      have hG6 := noD_of s6 hG3 (by rw [hDl3]; exact fun z => nomatch z)
      have al6 : AtL c.P G6 acc aD := AtL.mono (s3.gg.trans s6.gg) al
      refine ⟨acc, hDl6, ?_, G6, p2, acc ++ [v], aD ++ [y], s16.poke hD hG6, e3.trans s6.gg, c.ext (fun a b => upd_ne (hPD a b)) r6.pot, upd_same, AtL.append al6 (.cons av .nil), hG6, by rw [List.length_append]; simp only [List.length_cons, List.length_nil]; omega, ?_⟩
      · rw [AtL.length al6]
        have z : aD.length ≤ 1001000 := by omega
        exact Nat.lt_of_le_of_lt z (by decide)
      · cases e3 : comp j mtrue e (es.drop (jj + 1)) l2 p2 with
        | ok r' p3 =>
          rw [e3] at post
          have post' : PostN c E G0 H0 G1 H1 σ l (pre aD (pre ([y] ++ r') (K p3))) Q := post
          show PostN c E G0 H0 G1 H1 σ l (pre (aD ++ [y]) (pre r' (K p3))) Q
          rw [pre_pre] at post' ⊢
          rw [List.append_assoc]
          exact post'
        | err n p3 => rw [e3] at post; exact post.elim
        | bad => rw [e3] at post; exact post.elim
  · have ej : jj = es.length := by omega
    refine .inl ⟨w.stop jj H (eG.trans sG.gh) ej, ?_⟩
    rw [ej, List.drop_length] at post
    have post' : PostN c E G0 H0 G1 H1 σ l (pre aD (pre [] (K p))) Q := post
    rw [pre_nil] at post'
    exact hNx G H p acc aD sG hp hDl al hG (by omega) post'
theorem sen_lc2 {wi wi1 : TI} {i j : Nat} {te : TE} {a it : M (List D)} {e : M D} (hij : i ≠ j) (ha : SI c E wi a) (hi1 : SI c (fun _ => E0) wi1 it) (he : SE c (fun _ => E0) te e) : SEN c E (tLc2 wi (gName i) tYes wi1 (gName j) tYes te [i, j] [j]) (mcomp22 a i j it e) := by
  intro G0 H0 G H σ l pot r Q post
  refine Sn.goN ha r post fun J ds p G1 H1 s1 r1 w post1 => ?_
  split at post1
  · rename_i hlen
    intro Dl hD
    have hPD : ∀ a, c.B a → a ≠ Dl := fun a b z => r1.hp a b (by rw [z]; exact hD)
    have hG1 : G1 Dl = none := by
      cases eg : G1 Dl with
      | none => rfl
      | some u => have := r1.stp.gh Dl u eg; rw [hD] at this; cases this
    refine ⟨fun k m H => m = ds.length - k ∧ k ≤ ds.length ∧ ∃ G p acc aD, Stp c.B G1 H1 G H ∧ c.inv p H ∧ H Dl = some (.lst acc) ∧ AtL c.P G acc aD ∧ G Dl = none ∧ aD.length ≤ k * 1000 ∧ PostN c E G0 H0 G1 H1 σ l (pre aD (comp22 i j it e (ds.drop k) l p)) Q,
      ⟨_, rfl, Nat.zero_le _, G1, p, [], [], Stp.lay0 r1.stp.gh hD, c.ext (fun a b => upd_ne (hPD a b)) r1.pot, upd_same, .nil, hG1, Nat.zero_le _, by rw [pre_nil]; exact post1⟩, ?_⟩
    rintro k m H ⟨rfl, hk, G, p, acc, aD, sG, hp, hDl, al, hG, hl, post⟩
    by_cases hlt : k < ds.length
    · refine .inr ⟨w.go k H (sG.gg.trans sG.gh) hlt, fun H => ∃ G p acc aD, Stp c.B G1 H1 G H ∧ c.inv p H ∧ H Dl = some (.lst acc) ∧ AtL c.P G acc aD ∧ G Dl = none ∧ aD.length ≤ (k + 1) * 1000 ∧ PostN c E G0 H0 G1 H1 σ l (pre aD (comp22 i j it e (ds.drop (k + 1)) l p)) Q,
        fun H' ⟨G, p, acc, aD, h⟩ => ⟨_, by omega, rfl, hlt, G, p, acc, aD, h⟩, fun x H' y => ?_⟩
      obtain ⟨d, G3, ed, s3, hP3, ad⟩ := w.yld k H x H' (sG.gg.trans sG.gh) hlt (c.full hp) y G sG.gg sG.gh
      have edr : ds.drop k = d :: ds.drop (k + 1) := by
        obtain ⟨h1, h2⟩ := List.getElem?_eq_some_iff.mp ed
        rw [List.drop_eq_getElem_cons h1, h2]
      rw [edr] at post
      unfold comp22 at post
      by_cases hb : i < l.length ∧ j < l.length
      · rw [if_pos hb] at post
        have s13 := sG.trans s3
        have r3 : Rel c G0 H0 G3 H' σ l p := r1.step s13 (c.ext hP3 hp)
        have hDl3 : H' Dl = some (.lst acc) := s3.keep Dl _ hDl (fun b => hPD _ b rfl)
        have hG3 := noD_of s3 hG (by rw [hDl]; exact fun z => nomatch z)
        have hi' : i < (l.set j none).length := by rw [List.length_set]; exact hb.1
        have r4 := (r3.wiped (i := j)).set ad hi'
        have ew : (wipe σ [i, j]).set i (some x) = (σ.set j none).set i (some x) := by
          show ((σ.set j none).set i none).set i (some x) = _
          rw [List.set_set]
        show wipe ((wipe σ [i, j]).set i (some x)) [i, j] = wipe σ [i, j] ∧ tYes ((wipe σ [i, j]).set i (some x)) H' _
        rw [ew]
        refine ⟨?_, tYes_if ?_⟩
        · show (((σ.set j none).set i (some x)).set j none).set i none = (σ.set j none).set i none
          rw [List.set_comm none none (Ne.symm hij), List.set_set, List.set_comm none none hij, List.set_set]
        · refine hi1 _ _ _ _ _ _ _ r4 _ ?_
          cases e1 : it ((l.set j none).set i (some (.dat d))) p with
          | err n p1 => rw [e1] at post; exact post.elim
          | bad => rw [e1] at post; exact post.elim
          | ok es p1 =>
            rw [e1] at post
            dsimp only at post
            by_cases hes : es.length ≤ 1000
            · rw [if_pos hes] at post
              intro J1 G5 H5 s5 r5 w1
              have s15 := s13.trans s5
              have hDl5 : H5 Dl = some (.lst acc) := s5.keep Dl _ hDl3 (fun b => hPD _ b rfl)
              have hG5 := noD_of s5 hG3 (by rw [hDl3]; exact fun z => nomatch z)
              refine lc2_inner (n0 := k * 1000) he w1 hes (by omega) (by rw [List.length_set, List.length_set]; exact hb.2) hPD hD (fun {G H p} s eg ip => ?_) s15 r5.pot hDl5 (AtL.mono (s3.gg.trans s5.gg) al) hG5 hl (fun G H p acc aD s ip h1 h2 h3 h4 h5 => ⟨G, p, acc, aD, s, ip, h1, h2, h3, by omega, h5⟩) post
              exact ((r1.step s ip).wiped (i := j)).set (At.mono (s5.gg.trans eg) ad) hi'
            · rw [if_neg hes] at post
              exact post.elim
      · rw [if_neg hb] at post
        exact post.elim
    · have ej : k = ds.length := by omega
      refine .inl ⟨w.stop k H (sG.gg.trans sG.gh) ej, ?_⟩
      rw [ej, List.drop_length] at post
      have post' : PostN c E G0 H0 G1 H1 σ l (.ok (aD ++ []) p) Q := post
      rw [List.append_nil] at post'
      exact post' Dl acc G H sG (r1.step sG hp) hDl al hG hD
  · exact post1.elim
end
end Den
namespace PL
open PySem L2 Den
noncomputable section
def dn_check_due_range : MS := (sif (mnot (mtru (mcall D_due_in_range (acons (mvar 0) anil)))) (sraise 1) sskip)
def D_check_due_range : RF := denF 1 1 (dn_check_due_range)
def dn_check_due_size : MS := (sif (mtru (mcall D_due_too_great (acons (mvar 0) anil))) (sraise 3) sskip)
def D_check_due_size : RF := denF 1 1 (dn_check_due_size)
def b_due_number_1 : MS := (sdrop (mcall D_check_due (acons (mvar 0) anil)))
def b_due_number_2 : MS := (sdrop (mcall D_check_whole (acons (mvar 1) anil)))
def b_due_number_3 : MS := (sdrop (mcall D_check_due_range (acons (mvar 0) anil)))
def b_due_number_4 : MS := (sdrop (mcall D_check_least (acons (mvar 1) (acons (mret (D.int 0)) anil))))
def b_due_number_5 : MS := (sdrop (mcall D_check_due_size (acons (mvar 0) anil)))
def b_due_number_6 : MS := (sret (mcall D_due_at (acons (mvar 0) (acons (mvar 1) anil))))
def dn_due_number : MS := (sseq b_due_number_1
    (sseq b_due_number_2
    (sseq b_due_number_3
    (sseq b_due_number_4
    (sseq b_due_number_5
    b_due_number_6)))))
def D_due_number : RF := denF 2 2 (dn_due_number)
def dn_check_even (A : CA) : MS := (sif (mnot (mtru (mfld A.Web "_even" (mvar 0)))) (sraise 2) sskip)
def D_check_even (A : CA) : RF := denF 1 1 (dn_check_even A)
def b_token_bought_1 : MS := (sif (mtest (op2 fGt (mvar 1) (mvar 3))) (sret (mtupd (acons (mret (D.int 1)) (acons (op2 fSub (mvar 0) (op2 fMul (mret (D.int 2)) (mvar 1))) anil)))) sskip)
def b_token_bought_2 : MS := (sif (mtest (op2 fLt (mvar 1) (mvar 3))) (sret (mtupd (acons (mret (D.int 2)) (acons (op2 fAdd (mvar 0) (op2 fMul (mret (D.int 2)) (mvar 3))) anil)))) sskip)
def b_token_bought_3 : MS := (sif (mtest (op2 fEq (op2 fMod (mvar 0) (mret (D.int 2))) (mret (D.int 1)))) (sret (mif (mtru (mvar 2)) (mtupd (acons (mret (D.int 1)) (acons (op2 fSub (op2 fSub (mvar 0) (op2 fMul (mret (D.int 2)) (mvar 1))) (mret (D.int 1))) anil))) (mtupd (acons (mret (D.int 2)) (acons (op2 fAdd (mvar 0) (op2 fMul (mret (D.int 2)) (mvar 3))) anil))))) sskip)
def b_token_bought_4 : MS := (sret (mif (mtru (mvar 4)) (mtupd (acons (mret (D.int 2)) (acons (op2 fAdd (op2 fAdd (mvar 0) (op2 fMul (mret (D.int 2)) (mvar 3))) (mret (D.int 1))) anil))) (mtupd (acons (mret (D.int 1)) (acons (op2 fSub (mvar 0) (op2 fMul (mret (D.int 2)) (mvar 1))) anil)))))
def dn_token_bought : MS := (sseq b_token_bought_1
    (sseq b_token_bought_2
    (sseq b_token_bought_3
    b_token_bought_4)))
def D_token_bought : RF := denF 5 5 (dn_token_bought)
def b_bids_of_1 : MS := (sasg (mif (mtest (op2 fEq (mvar 2) (mret (D.int 1)))) (op2 fDiv (mvar 1) (mret (D.int 2))) (op2 fSub (mvar 0) (op2 fDiv (mvar 1) (mret (D.int 2))))) (gset 3))
def b_bids_of_2 : MS := (sasg (mif (mtest (op2 fEq (op2 fMod (mvar 1) (mret (D.int 2))) (op2 fSub (mret (D.int 2)) (mvar 2)))) (mtupd (acons (mret (D.bl false)) (acons (mret (D.bl true)) anil))) (mtupd (acons (mret (D.bl false)) anil))) (gset 4))
def c_bids_of_1 : M (List D) := (mcomp22 (mbind (acons (op2 fAdd (mvar 3) (mret (D.int 1))) anil) fun x => mlift (rng1 x)) 5 6 (mbind (mvar 4) fun x => mlift (tupOf x)) (mtupd (acons (mvar 5) (acons (mvar 6) anil))))
def dn_bids_of : MS := (sseq b_bids_of_1
    (sseq b_bids_of_2
    (sret (mfreeze c_bids_of_1))))
def D_bids_of : RF := denF 3 7 (dn_bids_of)
def b_first_size_1t1 : MS := (sasg (opn fMax2 (acons (mret (D.int 0)) (acons (op2 fSub (op2 fSub (mvar 0) (mvar 1)) (mret (D.int 1))) anil))) (gset 2))
def b_first_size_1t2 : MS := (sret (op2 fAdd (mvar 2) (op2 fMod (mvar 2) (mret (D.int 2)))))
def b_first_size_1 : MS := (sif (mtest (op2 fEq (op2 fMod (mvar 1) (mret (D.int 2))) (mret (D.int 0)))) (sseq b_first_size_1t1
    b_first_size_1t2) sskip)
def b_first_size_2 : MS := (sif (mtest (op2 fGe (mvar 1) (mvar 0))) (sret (mret (D.int 0))) sskip)
def b_first_size_4 : MS := (sret (op2 fAdd (op2 fSub (mvar 2) (mret (D.int 1))) (op2 fMod (mvar 2) (mret (D.int 2)))))
def dn_first_size : MS := (sseq b_first_size_1
    (sseq b_first_size_2
    (sseq (sasg (op2 fSub (mvar 0) (mvar 1)) (gset 2))
    b_first_size_4)))
def D_first_size : RF := denF 2 3 (dn_first_size)
def b_second_size_1t1 : MS := (sasg (opn fMax2 (acons (mret (D.int 0)) (acons (op2 fSub (mvar 1) (mvar 0)) anil))) (gset 2))
def b_second_size_1t2 : MS := (sret (op2 fAdd (mvar 2) (op2 fMod (mvar 2) (mret (D.int 2)))))
def b_second_size_1 : MS := (sif (mtest (op2 fEq (op2 fMod (mvar 1) (mret (D.int 2))) (mret (D.int 1)))) (sseq b_second_size_1t1
    b_second_size_1t2) sskip)
def b_second_size_2 : MS := (sif (mtest (op2 fLt (mvar 1) (mvar 0))) (sret (mret (D.int 0))) sskip)
def b_second_size_4 : MS := (sret (op2 fSub (op2 fAdd (mvar 2) (mret (D.int 1))) (op2 fMod (mvar 2) (mret (D.int 2)))))
def dn_second_size : MS := (sseq b_second_size_1
    (sseq b_second_size_2
    (sseq (sasg (op2 fSub (mvar 1) (mvar 0)) (gset 2))
    b_second_size_4)))
def D_second_size : RF := denF 2 3 (dn_second_size)
def b_token_first_told_1 (A : CA) : MS := (sasg (mcall D_first_size (acons (mcall (D_high_of A) (acons (mvar 0) (acons (mvar 1) (acons (mvar 2) anil)))) (acons (mvar 3) anil))) (gset 4))
def b_token_first_told_2 (A : CA) : MS := (sasg (mcall D_least_with (acons (op2 fIx (mfld A.Web "_first" (mvar 0)) (mvar 2)) (acons (mvar 1) (acons (mcall (D_low_of A) (acons (mvar 0) (acons (mvar 1) (acons (mvar 2) anil)))) anil)))) (gset 5))
def b_token_first_told_3 : MS := (sret (mtupd (acons (opn fMin2 (acons (op2 fDiv (mvar 4) (mret (D.int 2))) (acons (op2 fDiv (mvar 3) (mret (D.int 2))) anil))) (acons (op2 fEq (op2 fMod (mvar 4) (mret (D.int 2))) (mret (D.int 1))) (acons (mvar 5) anil)))))
def dn_token_first_told (A : CA) : MS := (sseq (b_token_first_told_1 A)
    (sseq (b_token_first_told_2 A)
    b_token_first_told_3))
def D_token_first_told (A : CA) : RF := denF 4 6 (dn_token_first_told A)
def b_check_token_kinds_1 (A : CA) : MS := (sdrop (mcall (D_check_web A) (acons (mvar 0) anil)))
def b_check_token_kinds_2 : MS := (sdrop (mcall D_check_whole (acons (mvar 1) anil)))
def b_check_token_kinds_3 : MS := (sdrop (mcall D_whole_list (acons (mvar 2) anil)))
def dn_check_token_kinds (A : CA) : MS := (sseq (b_check_token_kinds_1 A)
    (sseq b_check_token_kinds_2
    b_check_token_kinds_3))
def D_check_token_kinds (A : CA) : RF := denF 3 3 (dn_check_token_kinds A)
def b_check_token_row_1 : MS := (sdrop (mcall D_check_least (acons (mvar 1) (acons (mret (D.int 0)) anil))))
def b_check_token_row_2 (A : CA) : MS := (sdrop (mcall D_check_part_range (acons (mvar 2) (acons (mfld A.Web "_size" (mvar 0)) (acons (op2 fMul (mret (D.int 2)) (op2 fAdd (mvar 1) (mret (D.int 1)))) anil)))))
def dn_check_token_row (A : CA) : MS := (sseq b_check_token_row_1
    (b_check_token_row_2 A))
def D_check_token_row (A : CA) : RF := denF 3 3 (dn_check_token_row A)
def b_check_holding_1 (A : CA) : MS := (sdrop (mcall (D_check_stand A) (acons (mvar 0) (acons (mvar 2) anil))))
def b_check_holding_2 : MS := (sdrop (mcall D_check_range (acons (mvar 3) (acons (mret (D.int 0)) (acons (op2 fAdd (op2 fMul (mret (D.int 2)) (mvar 1)) (mret (D.int 1))) anil)))))
def dn_check_holding (A : CA) : MS := (sseq (b_check_holding_1 A)
    b_check_holding_2)
def D_check_holding (A : CA) : RF := denF 4 4 (dn_check_holding A)
def b_check_token_bid_1 (A : CA) : MS := (sdrop (mcall (D_check_token_kinds A) (acons (mvar 0) (acons (mvar 1) (acons (mvar 2) anil)))))
def b_check_token_bid_2 : MS := (sdrop (mcall D_check_whole (acons (mvar 3) (acons (mvar 4) anil))))
def b_check_token_bid_3 (A : CA) : MS := (sdrop (mcall (D_check_even A) (acons (mvar 0) anil)))
def b_check_token_bid_4 (A : CA) : MS := (sdrop (mcall (D_check_token_row A) (acons (mvar 0) (acons (mvar 1) (acons (mvar 2) anil)))))
def b_check_token_bid_5 (A : CA) : MS := (sdrop (mcall (D_check_holding A) (acons (mvar 0) (acons (mvar 1) (acons (mvar 3) (acons (mvar 4) anil))))))
def b_check_token_bid_6 (A : CA) : MS := (sdrop (mcall (D_check_moving A) (acons (mvar 0) (acons (mvar 3) anil))))
def b_check_token_bid_7 : MS := (sdrop (mcall D_check_most (acons (mvar 1) (acons (mret (D.int 10000000000000000000000000000000000000000)) anil))))
def dn_check_token_bid (A : CA) : MS := (sseq (b_check_token_bid_1 A)
    (sseq b_check_token_bid_2
    (sseq (b_check_token_bid_3 A)
    (sseq (b_check_token_bid_4 A)
    (sseq (b_check_token_bid_5 A)
    (sseq (b_check_token_bid_6 A)
    b_check_token_bid_7))))))
def D_check_token_bid (A : CA) : RF := denF 5 5 (dn_check_token_bid A)
def b_token_first_1 (A : CA) : MS := (sdrop (mcall (D_check_token_bid A) (acons (mvar 0) (acons (mvar 1) (acons (mvar 2) (acons (mvar 3) (acons (mvar 4) anil)))))))
def b_token_first_2 (A : CA) : MS := (sret (mcall (D_token_first_told A) (acons (mvar 0) (acons (mvar 2) (acons (mvar 3) (acons (mvar 4) anil))))))
def dn_token_first (A : CA) : MS := (sseq (b_token_first_1 A)
    (b_token_first_2 A))
def D_token_first (A : CA) : RF := denF 5 5 (dn_token_first A)
def b_token_second_1 (A : CA) : MS := (sdrop (mcall (D_check_token_bid A) (acons (mvar 0) (acons (mvar 1) (acons (mvar 2) (acons (mvar 3) (acons (mvar 4) anil)))))))
def b_token_second_2 (A : CA) : MS := (sasg (mcall D_second_size (acons (mcall (D_low_of A) (acons (mvar 0) (acons (mvar 2) (acons (mvar 3) anil)))) (acons (mvar 4) anil))) (gset 5))
def b_token_second_3 (A : CA) : MS := (sasg (mcall D_least_with (acons (op2 fIx (mfld A.Web "_second" (mvar 0)) (mvar 3)) (acons (mvar 2) (acons (mcall (D_high_of A) (acons (mvar 0) (acons (mvar 2) (acons (mvar 3) anil)))) anil)))) (gset 6))
def b_token_second_4 : MS := (sret (mtupd (acons (opn fMin2 (acons (op2 fDiv (mvar 5) (mret (D.int 2))) (acons (op2 fSub (mvar 1) (op2 fDiv (mvar 4) (mret (D.int 2)))) anil))) (acons (op2 fEq (op2 fMod (mvar 5) (mret (D.int 2))) (mret (D.int 1))) (acons (mvar 6) anil)))))
def dn_token_second (A : CA) : MS := (sseq (b_token_second_1 A)
    (sseq (b_token_second_2 A)
    (sseq (b_token_second_3 A)
    b_token_second_4)))
def D_token_second (A : CA) : RF := denF 5 7 (dn_token_second A)
def b_token_serves_01 (A : CA) : MS := (sdrop (mcall (D_check_token_kinds A) (acons (mvar 0) (acons (mvar 1) (acons (mvar 2) anil)))))
def b_token_serves_02 : MS := (sdrop (mcall D_check_whole (acons (mvar 3) (acons (mvar 4) (acons (mvar 5) (acons (mvar 6) anil))))))
def b_token_serves_03 : MS := (sif (mnot (mtru (opn fIs1 (acons (mvar 7) (acons (mret (D.ty Ty.bl)) anil))))) (sraise 0) sskip)
def b_token_serves_04 (A : CA) : MS := (sdrop (mcall (D_check_even A) (acons (mvar 0) anil)))
def b_token_serves_05 (A : CA) : MS := (sdrop (mcall (D_check_token_row A) (acons (mvar 0) (acons (mvar 1) (acons (mvar 2) anil)))))
def b_token_serves_06 (A : CA) : MS := (sdrop (mcall (D_check_holding A) (acons (mvar 0) (acons (mvar 1) (acons (mvar 3) (acons (mvar 4) anil))))))
def b_token_serves_07 : MS := (sdrop (mcall D_check_one_or_two (acons (mvar 5) anil)))
def b_token_serves_08 : MS := (sdrop (mcall D_check_range (acons (mvar 6) (acons (mret (D.int 0)) (acons (mif (mtest (op2 fEq (mvar 5) (mret (D.int 1)))) (op2 fDiv (mvar 4) (mret (D.int 2))) (op2 fSub (mvar 1) (op2 fDiv (mvar 4) (mret (D.int 2))))) anil)))))
def b_token_serves_09 (A : CA) : MS := (sdrop (mcall (D_check_moving A) (acons (mvar 0) (acons (mvar 3) anil))))
def b_token_serves_10 : MS := (sif (mand (mtru (mvar 7)) (mtest (op2 fNe (op2 fMod (mvar 4) (mret (D.int 2))) (op2 fSub (mret (D.int 2)) (mvar 5))))) (sraise 5) sskip)
def b_token_serves_11 : MS := (sdrop (mcall D_check_most (acons (mvar 1) (acons (mret (D.int 200)) anil))))
def b_token_serves_12 (A : CA) : MS := (sasg (mcall (D_low_of A) (acons (mvar 0) (acons (mvar 2) (acons (mvar 3) anil)))) (gset 8))
def b_token_serves_13 (A : CA) : MS := (sasg (mcall (D_high_of A) (acons (mvar 0) (acons (mvar 2) (acons (mvar 3) anil)))) (gset 9))
def b_token_serves_14l1 : MS := (sif (mtest (op2 fEq (mvar 5) (mret (D.int 1)))) (sasg (mcall D_token_bought (acons (mvar 4) (acons (mvar 6) (acons (mvar 7) (acons (mvar 10) (acons (mvar 11) anil)))))) (gset2 12 13)) (sasg (mcall D_token_bought (acons (mvar 4) (acons (mvar 10) (acons (mvar 11) (acons (mvar 6) (acons (mvar 7) anil)))))) (gset2 12 13)))
def b_token_serves_14l2 : MS := (sasg (op2 fGe (mvar 13) (mif (mtest (op2 fEq (mvar 12) (mret (D.int 1)))) (mvar 8) (mvar 9))) (gset 14))
def b_token_serves_14l3 : MS := (sif (mtest (op2 fNe (mvar 14) (op2 fEq (mvar 5) (mret (D.int 1))))) (sret (mret (D.bl false))) sskip)
def L_token_serves_14 : MS := (sseq b_token_serves_14l1
    (sseq b_token_serves_14l2
    b_token_serves_14l3))
def b_token_serves_14 : MS := (sfor (mbind (mcall D_bids_of (acons (mvar 1) (acons (mvar 4) (acons (op2 fSub (mret (D.int 3)) (mvar 5)) anil)))) fun x => mlift (lstOf x)) (gset2 10 11) L_token_serves_14)
def dn_token_serves (A : CA) : MS := (sseq (b_token_serves_01 A)
    (sseq b_token_serves_02
    (sseq b_token_serves_03
    (sseq (b_token_serves_04 A)
    (sseq (b_token_serves_05 A)
    (sseq (b_token_serves_06 A)
    (sseq b_token_serves_07
    (sseq b_token_serves_08
    (sseq (b_token_serves_09 A)
    (sseq b_token_serves_10
    (sseq b_token_serves_11
    (sseq (b_token_serves_12 A)
    (sseq (b_token_serves_13 A)
    (sseq b_token_serves_14
    (sret (mret (D.bl true)))))))))))))))))
def D_token_serves (A : CA) : RF := denF 8 15 (dn_token_serves A)
def dn_token_half_of : MS := (sret (op2 fDiv (op2 fAdd (op2 fAdd (mvar 0) (mvar 1)) (op2 fMod (mvar 0) (mret (D.int 2)))) (mret (D.int 2))))
def D_token_half_of : RF := denF 2 2 (dn_token_half_of)
def b_token_half_1 : MS := (sdrop (mcall D_check_whole (acons (mvar 0) (acons (mvar 1) anil))))
def b_token_half_2 : MS := (sret (mcall D_token_half_of (acons (mvar 0) (acons (mvar 1) anil))))
def dn_token_half : MS := (sseq b_token_half_1
    b_token_half_2)
def D_token_half : RF := denF 2 2 (dn_token_half)
def b_token_price_of_1 (A : CA) : MS := (sif (mnot (mtru (op2 fIx (mfld A.Web "_first" (mvar 0)) (mvar 3)))) (sret (op2 fMul (mret (D.int 2)) (op2 fAdd (mvar 1) (mret (D.int 1))))) sskip)
def b_token_price_of_2 (A : CA) : MS := (sret (mcall D_token_half_of (acons (mcall (D_low_of A) (acons (mvar 0) (acons (mvar 2) (acons (mvar 3) anil)))) (acons (mcall (D_high_of A) (acons (mvar 0) (acons (mvar 2) (acons (mvar 3) anil)))) anil))))
def dn_token_price_of (A : CA) : MS := (sseq (b_token_price_of_1 A)
    (b_token_price_of_2 A))
def D_token_price_of (A : CA) : RF := denF 4 4 (dn_token_price_of A)
def b_token_price_1 (A : CA) : MS := (sdrop (mcall (D_check_web A) (acons (mvar 0) anil)))
def b_token_price_2 : MS := (sdrop (mcall D_check_whole (acons (mvar 1) (acons (mvar 3) anil))))
def b_token_price_3 : MS := (sdrop (mcall D_whole_list (acons (mvar 2) anil)))
def b_token_price_4 (A : CA) : MS := (sdrop (mcall (D_check_even A) (acons (mvar 0) anil)))
def b_token_price_5 : MS := (sdrop (mcall D_check_least (acons (mvar 1) (acons (mret (D.int 0)) anil))))
def b_token_price_6 (A : CA) : MS := (sdrop (mcall D_check_size (acons (mvar 2) (acons (mfld A.Web "_size" (mvar 0)) anil))))
def b_token_price_7 (A : CA) : MS := (sdrop (mcall (D_check_stand A) (acons (mvar 0) (acons (mvar 3) anil))))
def b_token_price_8 : MS := (sdrop (mcall D_check_most (acons (mvar 1) (acons (mret (D.int 10000000000000000000000000000000000000000)) anil))))
def b_token_price_9 (A : CA) : MS := (sret (mcall (D_token_price_of A) (acons (mvar 0) (acons (mvar 1) (acons (mvar 2) (acons (mvar 3) anil))))))
def dn_token_price (A : CA) : MS := (sseq (b_token_price_1 A)
    (sseq b_token_price_2
    (sseq b_token_price_3
    (sseq (b_token_price_4 A)
    (sseq b_token_price_5
    (sseq (b_token_price_6 A)
    (sseq (b_token_price_7 A)
    (sseq b_token_price_8
    (b_token_price_9 A)))))))))
def D_token_price (A : CA) : RF := denF 4 4 (dn_token_price A)
def dn_token_due : MS := (sret (op2 fMul (mret (D.int 2)) (mcall D_due_number (acons (mvar 0) (acons (mvar 1) anil)))))
def D_token_due : RF := denF 2 2 (dn_token_due)
def c_law_token_row_1 : M (List D) := (mcomp (mbind (op2 fIx (mvar 0) (mret (D.int 3))) fun x => mlift (lstOf x)) 3 mtrue (op2 fMul (mret (D.int 2)) (mcall D_due_at (acons (mvar 3) (acons (mvar 1) anil)))))
def b_law_token_row_2 : MS := (sasg (mfreeze (mlistN (acons (mvar 2) anil))) (gset 4))
def b_law_token_row_3l2l1 : MS := (sasg (op2 fAdd (op2 fMul (mret (D.int 2)) (mvar 1)) (mret (D.int 2))) (gset 8))
def b_law_token_row_3l2l2t1 : MS := (sasg (mcall D_law_low (acons (mvar 0) (acons (mvar 4) (acons (mvar 7) anil)))) (gset 9))
def b_law_token_row_3l2l2t2 : MS := (sasg (op2 fDiv (op2 fAdd (op2 fAdd (mvar 9) (mcall D_law_high (acons (mvar 0) (acons (mvar 4) (acons (mvar 7) anil))))) (op2 fMod (opn fInt (acons (mvar 9) anil)) (mret (D.int 2)))) (mret (D.int 2))) (gset 8))
def b_law_token_row_3l2l2 : MS := (sif (mtest (op2 fGt (opn fLen (acons (op2 fIx (op2 fIx (mvar 0) (mret (D.int 0))) (mvar 7)) anil)) (mret (D.int 0)))) (sseq b_law_token_row_3l2l2t1
    b_law_token_row_3l2l2t2) sskip)
def b_law_token_row_3l2l3 : MS := (sappend 6 (opn fMin2 (acons (op2 fIx (mvar 2) (mvar 7)) (acons (mvar 8) anil))))
def L_law_token_row_3l2 : MS := (sseq b_law_token_row_3l2l1
    (sseq b_law_token_row_3l2l2
    b_law_token_row_3l2l3))
def b_law_token_row_3l2 : MS := (sfor (mbind (acons (opn fLen (acons (mvar 4) anil)) anil) fun x => mlift (rng1 x)) (gset 7) L_law_token_row_3l2)
def b_law_token_row_3l3 : MS := (sif (mlendT 6 (mtest (op2 (fEqD false) (mvar 6) (mvar 4)))) (sret (mvar 4)) sskip)
def L_law_token_row_3 : MS := (sseq (sown (mshort anil) 6)
    (sseq b_law_token_row_3l2
    (sseq b_law_token_row_3l3
    (sgive 6 (sasg (mvar 6) (gset 4))))))
def b_law_token_row_3 : MS := (sfor (mbind (acons (op2 fAdd (op2 fMul (opn fLen (acons (mvar 4) anil)) (op2 fAdd (op2 fMul (mret (D.int 2)) (mvar 1)) (mret (D.int 3)))) (mret (D.int 1))) anil) fun x => mlift (rng1 x)) (gset 5) L_law_token_row_3)
def dn_law_token_row : MS := (sseq (sasg (mfreeze c_law_token_row_1) (gset 2))
    (sseq b_law_token_row_2
    (sseq b_law_token_row_3
    (sret (mvar 4)))))
def D_law_token_row : RF := denF 2 10 (dn_law_token_row)
def dn_law_half_chips : MS := (sret (op2 fDiv (op2 fAdd (op2 fAdd (mvar 0) (mvar 1)) (op2 fMod (opn fInt (acons (mvar 0) anil)) (mret (D.int 2)))) (mret (D.int 2))))
def D_law_half_chips : RF := denF 2 2 (dn_law_half_chips)
def b_law_after_1 : MS := (sif (mtest (op2 fGt (mvar 1) (mvar 3))) (sret (mfreeze (mshort (acons (mret (D.int 1)) (acons (op2 fSub (mvar 0) (op2 fMul (mret (D.int 2)) (mvar 1))) anil))))) sskip)
def b_law_after_2 : MS := (sif (mtest (op2 fLt (mvar 1) (mvar 3))) (sret (mfreeze (mshort (acons (mret (D.int 2)) (acons (op2 fAdd (mvar 0) (op2 fMul (mret (D.int 2)) (mvar 3))) anil))))) sskip)
def b_law_after_3t1 : MS := (sif (mtru (mvar 2)) (sret (mfreeze (mshort (acons (mret (D.int 1)) (acons (op2 fSub (op2 fSub (mvar 0) (op2 fMul (mret (D.int 2)) (mvar 1))) (mret (D.int 1))) anil))))) sskip)
def b_law_after_3t2 : MS := (sret (mfreeze (mshort (acons (mret (D.int 2)) (acons (op2 fAdd (mvar 0) (op2 fMul (mret (D.int 2)) (mvar 3))) anil)))))
def b_law_after_3 : MS := (sif (mtest (op2 fEq (op2 fMod (opn fInt (acons (mvar 0) anil)) (mret (D.int 2))) (mret (D.int 1)))) (sseq b_law_after_3t1
    b_law_after_3t2) sskip)
def b_law_after_4 : MS := (sif (mtru (mvar 4)) (sret (mfreeze (mshort (acons (mret (D.int 2)) (acons (op2 fAdd (op2 fAdd (mvar 0) (op2 fMul (mret (D.int 2)) (mvar 3))) (mret (D.int 1))) anil))))) sskip)
def b_law_after_5 : MS := (sret (mfreeze (mshort (acons (mret (D.int 1)) (acons (op2 fSub (mvar 0) (op2 fMul (mret (D.int 2)) (mvar 1))) anil)))))
def dn_law_after : MS := (sseq b_law_after_1
    (sseq b_law_after_2
    (sseq b_law_after_3
    (sseq b_law_after_4
    b_law_after_5))))
def D_law_after : RF := denF 5 5 (dn_law_after)
def b_law_bids_1 : MS := (sasg (op2 fDiv (mvar 1) (mret (D.int 2))) (gset 3))
def b_law_bids_2 : MS := (sasg (op2 fMod (opn fInt (acons (mvar 1) anil)) (mret (D.int 2))) (gset 4))
def b_law_bids_3t2 : MS := (sasg (op2 fSub (mret (D.int 1)) (mvar 4)) (gset 4))
def b_law_bids_3 : MS := (sif (mtest (op2 fEq (mvar 2) (mret (D.int 2)))) (sseq (sasg (op2 fSub (mvar 0) (mvar 3)) (gset 3))
    b_law_bids_3t2) sskip)
def c_law_bids_1 : M (List D) := (mcomp (mbind (acons (op2 fAdd (mvar 3) (mret (D.int 1))) anil) fun x => mlift (rng1 x)) 6 mtrue (mtupd (acons (mvar 6) (acons (mret (D.bl false)) anil))))
def c_law_bids_2 : M (List D) := (mcomp (mbind (acons (op2 fAdd (mvar 3) (mret (D.int 1))) anil) fun x => mlift (rng1 x)) 6 mtrue (mtupd (acons (mvar 6) (acons (mret (D.bl true)) anil))))
def b_law_bids_5 : MS := (sif (mtest (op2 fEq (mvar 4) (mret (D.int 1)))) (sasg (op2 fCat (mvar 5) (mfreeze c_law_bids_2)) (gset 5)) sskip)
def dn_law_bids : MS := (sseq b_law_bids_1
    (sseq b_law_bids_2
    (sseq b_law_bids_3
    (sseq (sasg (mfreeze c_law_bids_1) (gset 5))
    (sseq b_law_bids_5
    (sret (mvar 5)))))))
def D_law_bids : RF := denF 3 7 (dn_law_bids)
def b_law_own_serves_1l1 : MS := (sif (mtest (op2 fEq (mvar 4) (mret (D.int 1)))) (sasg (mcall D_law_after (acons (mvar 3) (acons (op2 fIx (mvar 5) (mret (D.int 0))) (acons (op2 fIx (mvar 5) (mret (D.int 1))) (acons (op2 fIx (mvar 6) (mret (D.int 0))) (acons (op2 fIx (mvar 6) (mret (D.int 1))) anil)))))) (gset 7)) (sasg (mcall D_law_after (acons (mvar 3) (acons (op2 fIx (mvar 6) (mret (D.int 0))) (acons (op2 fIx (mvar 6) (mret (D.int 1))) (acons (op2 fIx (mvar 5) (mret (D.int 0))) (acons (op2 fIx (mvar 5) (mret (D.int 1))) anil)))))) (gset 7)))
def b_law_own_serves_1l2 : MS := (sasg (op2 fGe (op2 fIx (mvar 7) (mret (D.int 1))) (op2 fIx (mfreeze (mshort (acons (mvar 0) (acons (mvar 1) anil)))) (op2 fSub (op2 fIx (mvar 7) (mret (D.int 0))) (mret (D.int 1))))) (gset 8))
def b_law_own_serves_1l3 : MS := (sif (mtest (op2 fNe (mvar 8) (op2 fEq (mvar 4) (mret (D.int 1))))) (sret (mret (D.bl false))) sskip)
def L_law_own_serves_1 : MS := (sseq b_law_own_serves_1l1
    (sseq b_law_own_serves_1l2
    b_law_own_serves_1l3))
def b_law_own_serves_1 : MS := (sfor (mbind (mcall D_law_bids (acons (mvar 2) (acons (mvar 3) (acons (op2 fSub (mret (D.int 3)) (mvar 4)) anil)))) fun x => mlift (lstOf x)) (gset 6) L_law_own_serves_1)
def dn_law_own_serves : MS := (sseq b_law_own_serves_1
    (sret (mret (D.bl true))))
def D_law_own_serves : RF := denF 6 9 (dn_law_own_serves)
def b_law_size_1t1 : MS := (sasg (opn fMax2 (acons (mret (D.int 0)) (acons (op2 fSub (op2 fSub (mvar 1) (mvar 2)) (mret (D.int 1))) anil))) (gset 4))
def b_law_size_1t2 : MS := (sret (op2 fAdd (mvar 4) (op2 fMod (opn fInt (acons (mvar 4) anil)) (mret (D.int 2)))))
def b_law_size_1 : MS := (sif (mand (mtest (op2 fEq (mvar 3) (mret (D.int 1)))) (mtest (op2 fEq (op2 fMod (opn fInt (acons (mvar 2) anil)) (mret (D.int 2))) (mret (D.int 0))))) (sseq b_law_size_1t1
    b_law_size_1t2) sskip)
def b_law_size_2t2 : MS := (sif (mtest (op2 fLe (mvar 4) (mret (D.int 0)))) (sret (mret (D.int 0))) sskip)
def b_law_size_2t3 : MS := (sret (op2 fAdd (op2 fSub (mvar 4) (mret (D.int 1))) (op2 fMod (opn fInt (acons (mvar 4) anil)) (mret (D.int 2)))))
def b_law_size_2 : MS := (sif (mtest (op2 fEq (mvar 3) (mret (D.int 1)))) (sseq (sasg (op2 fSub (mvar 1) (mvar 2)) (gset 4))
    (sseq b_law_size_2t2
    b_law_size_2t3)) sskip)
def b_law_size_4 : MS := (sif (mtest (op2 fEq (op2 fMod (opn fInt (acons (mvar 2) anil)) (mret (D.int 2))) (mret (D.int 1)))) (sret (op2 fAdd (opn fMax2 (acons (mret (D.int 0)) (acons (mvar 4) anil))) (op2 fMod (opn fInt (acons (opn fMax2 (acons (mret (D.int 0)) (acons (mvar 4) anil))) anil)) (mret (D.int 2))))) sskip)
def b_law_size_5 : MS := (sif (mtest (op2 fLt (mvar 4) (mret (D.int 0)))) (sret (mret (D.int 0))) sskip)
def b_law_size_6 : MS := (sret (op2 fSub (op2 fAdd (mvar 4) (mret (D.int 1))) (op2 fMod (opn fInt (acons (mvar 4) anil)) (mret (D.int 2)))))
def dn_law_size : MS := (sseq b_law_size_1
    (sseq b_law_size_2
    (sseq (sasg (op2 fSub (mvar 2) (mvar 0)) (gset 4))
    (sseq b_law_size_4
    (sseq b_law_size_5
    b_law_size_6)))))
def D_law_size : RF := denF 4 5 (dn_law_size)
def b_law_one_side_01 : MS := (sasg (mcall D_law_low (acons (mvar 1) (acons (mvar 3) (acons (mvar 4) anil)))) (gset 8))
def b_law_one_side_02 : MS := (sasg (mcall D_law_high (acons (mvar 1) (acons (mvar 3) (acons (mvar 4) anil)))) (gset 9))
def b_law_one_side_03 : MS := (sasg (mcall D_law_size (acons (mvar 8) (acons (mvar 9) (acons (mvar 5) (acons (mvar 6) anil))))) (gset 10))
def b_law_one_side_04 : MS := (sasg (op2 fDiv (mvar 5) (mret (D.int 2))) (gset 11))
def b_law_one_side_06 : MS := (sasg (op2 fIx (op2 fIx (mvar 1) (mret (D.int 0))) (mvar 4)) (gset 13))
def b_law_one_side_07t1 : MS := (sasg (op2 fSub (mvar 2) (mvar 11)) (gset 11))
def b_law_one_side_07t3 : MS := (sasg (op2 fIx (op2 fIx (mvar 1) (mret (D.int 1))) (mvar 4)) (gset 13))
def b_law_one_side_07 : MS := (sif (mtest (op2 fEq (mvar 6) (mret (D.int 2)))) (sseq b_law_one_side_07t1
    (sseq (sasg (mvar 9) (gset 12))
    b_law_one_side_07t3)) sskip)
def c_law_one_side_1 : M (List D) := (mcomp (mbind (mvar 13) fun x => mlift (lstOf x)) 15 (mtest (op2 fEq (op2 fIx (mvar 3) (mvar 15)) (mvar 12))) (mvar 15))
def b_law_one_side_08 : MS := (sasg (opn fMinL (acons (mfreeze c_law_one_side_1) anil)) (gset 14))
def b_law_one_side_09 (A : CA) : MS := (sif (mtest (op2 fEq (mvar 6) (mret (D.int 1)))) (sasg (mcall (D_token_first A) (acons (mvar 0) (acons (mvar 2) (acons (mvar 3) (acons (mvar 4) (acons (mvar 5) anil)))))) (gset 16)) (sasg (mcall (D_token_second A) (acons (mvar 0) (acons (mvar 2) (acons (mvar 3) (acons (mvar 4) (acons (mvar 5) anil)))))) (gset 16)))
def b_law_one_side_10 : MS := (sif (mor (mnot (mtru (opn fIs1 (acons (mvar 16) (acons (mret (D.ty Ty.tup)) anil))))) (mtest (op2 (fEqD true) (mvar 16) (mtupd (acons (opn fMin2 (acons (op2 fDiv (mvar 10) (mret (D.int 2))) (acons (mvar 11) anil))) (acons (op2 fEq (op2 fMod (opn fInt (acons (mvar 10) anil)) (mret (D.int 2))) (mret (D.int 1))) (acons (mvar 14) anil))))))) (sret (mret (D.bl false))) sskip)
def b_law_one_side_11 : MS := (sif (mor (mnot (mtru (mcall D_is_integer (acons (op2 fIx (mvar 16) (mret (D.int 0))) anil)))) (mor (mnot (mtru (opn fIs1 (acons (op2 fIx (mvar 16) (mret (D.int 1))) (acons (mret (D.ty Ty.bl)) anil))))) (mnot (mtru (mcall D_is_integer (acons (op2 fIx (mvar 16) (mret (D.int 2))) anil)))))) (sret (mret (D.bl false))) sskip)
def b_law_one_side_12l1 (A : CA) : MS := (sasg (mcall (D_token_serves A) (acons (mvar 0) (acons (mvar 2) (acons (mvar 3) (acons (mvar 4) (acons (mvar 5) (acons (mvar 6) (acons (op2 fIx (mvar 17) (mret (D.int 0))) (acons (op2 fIx (mvar 17) (mret (D.int 1))) anil))))))))) (gset 18))
def b_law_one_side_12l2 : MS := (sif (mor (mnot (mtru (opn fIs1 (acons (mvar 18) (acons (mret (D.ty Ty.bl)) anil))))) (mtest (op2 fNe (mvar 18) (mcall D_law_own_serves (acons (mvar 8) (acons (mvar 9) (acons (mvar 2) (acons (mvar 5) (acons (mvar 6) (acons (mvar 17) anil)))))))))) (sret (mret (D.bl false))) sskip)
def b_law_one_side_12l3 : MS := (sasg (op2 fAdd (op2 fMul (mret (D.int 2)) (op2 fIx (mvar 17) (mret (D.int 0)))) (opn fInt (acons (op2 fIx (mvar 17) (mret (D.int 1))) anil))) (gset 19))
def b_law_one_side_12l4 : MS := (sif (mand (mtru (mvar 18)) (mor (mnot (mtru (mvar 7))) (mtest (op2 fLt (mvar 19) (mvar 10))))) (sret (mret (D.bl false))) sskip)
def b_law_one_side_12l5 : MS := (sif (mand (mtru (mvar 7)) (mand (mtest (op2 fEq (mvar 19) (mvar 10))) (mnot (mtru (mvar 18))))) (sret (mret (D.bl false))) sskip)
def L_law_one_side_12 (A : CA) : MS := (sseq (b_law_one_side_12l1 A)
    (sseq b_law_one_side_12l2
    (sseq b_law_one_side_12l3
    (sseq b_law_one_side_12l4
    b_law_one_side_12l5))))
def b_law_one_side_12 (A : CA) : MS := (sfor (mbind (mcall D_law_bids (acons (mvar 2) (acons (mvar 5) (acons (mvar 6) anil)))) fun x => mlift (lstOf x)) (gset 17) (L_law_one_side_12 A))
def b_law_one_side_13 : MS := (sret (vor (vnotT (mvar 7)) (op2 fLe (op2 fDiv (mvar 10) (mret (D.int 2))) (mvar 11))))
def dn_law_one_side (A : CA) : MS := (sseq b_law_one_side_01
    (sseq b_law_one_side_02
    (sseq b_law_one_side_03
    (sseq b_law_one_side_04
    (sseq (sasg (mvar 8) (gset 12))
    (sseq b_law_one_side_06
    (sseq b_law_one_side_07
    (sseq b_law_one_side_08
    (sseq (b_law_one_side_09 A)
    (sseq b_law_one_side_10
    (sseq b_law_one_side_11
    (sseq (b_law_one_side_12 A)
    b_law_one_side_13))))))))))))
def D_law_one_side (A : CA) : RF := denF 8 20 (dn_law_one_side A)
def b_law_refused_k56_2y1 (A : CA) : MS := (sif (mtest (op2 fEq (mvar 0) (mret (D.int 0)))) (sdrop (mcall (D_token_first A) (acons (mvar 1) (acons (mvar 2) (acons (mvar 3) (acons (mvar 4) (acons (mvar 5) anil))))))) sskip)
def b_law_refused_k56_2y2 (A : CA) : MS := (sif (mtest (op2 fEq (mvar 0) (mret (D.int 1)))) (sdrop (mcall (D_token_second A) (acons (mvar 1) (acons (mvar 2) (acons (mvar 3) (acons (mvar 4) (acons (mvar 5) anil))))))) sskip)
def b_law_refused_k56_2y3 (A : CA) : MS := (sif (mtest (op2 fEq (mvar 0) (mret (D.int 2)))) (sdrop (mcall (D_token_serves A) (acons (mvar 1) (acons (mvar 2) (acons (mvar 3) (acons (mvar 4) (acons (mvar 5) (acons (mvar 6) (acons (mvar 7) (acons (mvar 8) anil)))))))))) sskip)
def b_law_refused_k56_2 (A : CA) : MS := (stryB 6 (sseq (b_law_refused_k56_2y1 A)
    (sseq (b_law_refused_k56_2y2 A)
    (b_law_refused_k56_2y3 A))) [(3, (sasg (mret (D.str "much")) (gset 9))), (5, (sasg (mret (D.str "deed")) (gset 9))), (4, (sasg (mret (D.str "text")) (gset 9))), (2, (sasg (mret (D.str "web")) (gset 9))), (1, (sasg (mret (D.str "number")) (gset 9))), (0, (sasg (mret (D.str "kind")) (gset 9)))])
def dn_law_refused_k56 (A : CA) : MS := (sseq (sasg (mret (D.str "none")) (gset 9))
    (sseq (b_law_refused_k56_2 A)
    (sret (mvar 9))))
def D_law_refused_k56 (A : CA) : RF := denF 9 10 (dn_law_refused_k56 A)
def b_law_bad_k56_01 : MS := (sasg (mcall D_law_draw (acons (mvar 0) (acons (mret (D.int 7)) anil))) (gset 6))
def b_law_bad_k56_02 : MS := (sasg (mcall D_law_draw (acons (mvar 0) (acons (mret (D.int 3)) anil))) (gset 7))
def b_law_bad_k56_03 : MS := (sasg (mcall D_law_draw (acons (mvar 0) (acons (op2 fAdd (op2 fMul (mret (D.int 2)) (mvar 3)) (mret (D.int 2))) anil))) (gset 8))
def b_law_bad_k56_04t1 : MS := (sasg (op2 fCat (mfreeze (mcut (mvar 4) onone (osome (op1 fNeg (mret (D.int 1)))))) (mfreeze (mshort (acons (op2 fAdd (op2 fMul (mret (D.int 2)) (mvar 3)) (mret (D.int 3))) anil)))) (gset 9))
def b_law_bad_k56_04t2 (A : CA) : MS := (sret (op2 fEq (mcall (D_law_refused_k56 A) (acons (mvar 7) (acons (mvar 2) (acons (mvar 3) (acons (mvar 9) (acons (mvar 5) (acons (mvar 8) (acons (mret (D.int 1)) (acons (mret (D.int 0)) (acons (mret (D.bl false)) anil)))))))))) (mret (D.str "number"))))
def b_law_bad_k56_04 (A : CA) : MS := (sif (mtest (op2 fEq (mvar 6) (mret (D.int 0)))) (sseq b_law_bad_k56_04t1
    (b_law_bad_k56_04t2 A)) sskip)
def b_law_bad_k56_05 (A : CA) : MS := (sif (mtest (op2 fEq (mvar 6) (mret (D.int 1)))) (sret (op2 fEq (mcall (D_law_refused_k56 A) (acons (mvar 7) (acons (mvar 2) (acons (mvar 3) (acons (mvar 4) (acons (mvar 5) (acons (op2 fAdd (op2 fMul (mret (D.int 2)) (mvar 3)) (mret (D.int 2))) (acons (mret (D.int 1)) (acons (mret (D.int 0)) (acons (mret (D.bl false)) anil)))))))))) (mret (D.str "number")))) sskip)
def b_law_bad_k56_06t1 (A : CA) : MS := (sif (mtest (op2 fNe (mcall (D_law_refused_k56 A) (acons (mret (D.int 2)) (acons (mvar 2) (acons (mvar 3) (acons (mvar 4) (acons (mvar 5) (acons (mvar 8) (acons (op2 fMul (mret (D.int 3)) (mcall D_law_draw (acons (mvar 0) (acons (mret (D.int 2)) anil)))) (acons (mret (D.int 0)) (acons (mret (D.bl false)) anil)))))))))) (mret (D.str "number")))) (sret (mret (D.bl false))) sskip)
def b_law_bad_k56_06t2 (A : CA) : MS := (sret (op2 fEq (mcall (D_law_refused_k56 A) (acons (mret (D.int 2)) (acons (mvar 2) (acons (mvar 3) (acons (mvar 4) (acons (mvar 5) (acons (mvar 8) (acons (mret (D.int 1)) (acons (op2 fAdd (op2 fDiv (mvar 8) (mret (D.int 2))) (mret (D.int 1))) (acons (mret (D.bl false)) anil)))))))))) (mret (D.str "number"))))
def b_law_bad_k56_06 (A : CA) : MS := (sif (mtest (op2 fEq (mvar 6) (mret (D.int 2)))) (sseq (b_law_bad_k56_06t1 A)
    (b_law_bad_k56_06t2 A)) sskip)
def b_law_bad_k56_07 (A : CA) : MS := (sif (mtest (op2 fEq (mvar 6) (mret (D.int 3)))) (sret (op2 fEq (mcall (D_law_refused_k56 A) (acons (mret (D.int 2)) (acons (mvar 2) (acons (mvar 3) (acons (mvar 4) (acons (mvar 5) (acons (mvar 8) (acons (op2 fAdd (mret (D.int 1)) (op2 fMod (opn fInt (acons (mvar 8) anil)) (mret (D.int 2)))) (acons (mret (D.int 0)) (acons (mret (D.bl true)) anil)))))))))) (mret (D.str "deed")))) sskip)
def b_law_bad_k56_08 (A : CA) : MS := (sif (mtest (op2 fEq (mvar 6) (mret (D.int 4)))) (sret (op2 fEq (mcall (D_law_refused_k56 A) (acons (mret (D.int 2)) (acons (mvar 2) (acons (mvar 3) (acons (mvar 4) (acons (mvar 5) (acons (mvar 8) (acons (mret (D.int 1)) (acons (mret (D.int 0)) (acons (mret (D.int 1)) anil)))))))))) (mret (D.str "kind")))) sskip)
def c_law_bad_k56_1 : M (List D) := (mcomp (mbind (acons (opn fLen (acons (mvar 4) anil)) anil) fun x => mlift (rng1 x)) 11 (mtest (op2 fEq (opn fLen (acons (op2 fIx (op2 fIx (mvar 1) (mret (D.int 0))) (mvar 11)) anil)) (mret (D.int 0)))) (mvar 11))
def b_law_bad_k56_09t2 (A : CA) : MS := (sret (vor (op2 fEq (opn fLen (acons (mvar 10) anil)) (mret (D.int 0))) (op2 fEq (mcall (D_law_refused_k56 A) (acons (mvar 7) (acons (mvar 2) (acons (mvar 3) (acons (mvar 4) (acons (op2 fIx (mvar 10) (mret (D.int 0))) (acons (mvar 8) (acons (mret (D.int 1)) (acons (mret (D.int 0)) (acons (mret (D.bl false)) anil)))))))))) (mret (D.str "web")))))
def b_law_bad_k56_09 (A : CA) : MS := (sif (mtest (op2 fEq (mvar 6) (mret (D.int 5)))) (sseq (sasg (mfreeze c_law_bad_k56_1) (gset 10))
    (b_law_bad_k56_09t2 A)) sskip)
def b_law_bad_k56_10 (A : CA) : MS := (sasg (mcall (D_law_built_k09 A) (acons (mfreeze (mshort (acons (mfreeze (mshort (acons (mfreeze (mshort anil)) (acons (mfreeze (mshort anil)) (acons (mfreeze (mshort (acons (mret (D.int 0)) (acons (mret (D.int 1)) anil)))) anil))))) (acons (mfreeze (mshort (acons (mfreeze (mshort anil)) (acons (mfreeze (mshort anil)) (acons (mfreeze (mshort (acons (mret (D.int 1)) anil))) anil))))) (acons (mfreeze (mshort (acons (mret (D.int 1)) (acons (mret (D.int 1)) (acons (mret (D.int 2)) anil))))) (acons (mfreeze (mshort (acons (mtupd (acons (mret (D.str "chips")) (acons (mret (D.int 0)) anil))) (acons (mret D.non) (acons (mret D.non) anil))))) anil)))))) anil)) (gset 12))
def b_law_bad_k56_11 (A : CA) : MS := (sret (op2 fEq (mcall (D_law_refused_k56 A) (acons (mvar 7) (acons (mvar 12) (acons (mvar 3) (acons (mfreeze (mshort (acons (mret (D.int 0)) anil))) (acons (mret (D.int 9)) (acons (mvar 8) (acons (mret (D.int 1)) (acons (mret (D.int 0)) (acons (mret (D.bl false)) anil)))))))))) (mret (D.str "web"))))
def dn_law_bad_k56 (A : CA) : MS := (sseq b_law_bad_k56_01
    (sseq b_law_bad_k56_02
    (sseq b_law_bad_k56_03
    (sseq (b_law_bad_k56_04 A)
    (sseq (b_law_bad_k56_05 A)
    (sseq (b_law_bad_k56_06 A)
    (sseq (b_law_bad_k56_07 A)
    (sseq (b_law_bad_k56_08 A)
    (sseq (b_law_bad_k56_09 A)
    (sseq (b_law_bad_k56_10 A)
    (b_law_bad_k56_11 A)))))))))))
def D_law_bad_k56 (A : CA) : RF := denF 6 13 (dn_law_bad_k56 A)
def c_law_rows_k56_1 : M (List D) := (mcomp (mbind (op2 fIx (mvar 1) (mret (D.int 2))) fun x => mlift (lstOf x)) 3 mtrue (mcall D_law_draw (acons (mvar 0) (acons (op2 fAdd (op2 fMul (mret (D.int 2)) (mvar 2)) (mret (D.int 3))) anil))))
def b_law_rows_k56_1 : MS := (sif (mtest (op2 fEq (mcall D_law_draw (acons (mvar 0) (acons (mret (D.int 3)) anil))) (mret (D.int 2)))) (sret (mfreeze c_law_rows_k56_1)) sskip)
def b_law_rows_k56_2 : MS := (sasg (mcall D_law_token_row (acons (mvar 1) (acons (mvar 2) anil))) (gset 4))
def c_law_rows_k56_2 : M (List D) := (mcomp (mbind (mvar 4) fun x => mlift (lstOf x)) 5 mtrue (opn fMin2 (acons (op2 fAdd (op2 fMul (mret (D.int 2)) (mvar 2)) (mret (D.int 2))) (acons (opn fMax2 (acons (mret (D.int 0)) (acons (op2 fSub (op2 fAdd (mvar 5) (mcall D_law_draw (acons (mvar 0) (acons (mret (D.int 3)) anil)))) (mret (D.int 1))) anil))) anil))))
def dn_law_rows_k56 : MS := (sseq b_law_rows_k56_1
    (sseq b_law_rows_k56_2
    (sret (mfreeze c_law_rows_k56_2))))
def D_law_rows_k56 : RF := denF 3 6 (dn_law_rows_k56)
def b_law_k56_01 : MS := (sasg (mcall D_law_web (acons (mvar 1) (acons (mret (D.int 6)) (acons (mret (D.bl true)) anil)))) (gset 2))
def b_law_k56_02 (A : CA) : MS := (sasg (mcall (D_law_built_k09 A) (acons (mvar 2) anil)) (gset 3))
def b_law_k56_03 : MS := (sasg (mcall D_law_draw (acons (mvar 1) (acons (mret (D.int 5)) anil))) (gset 4))
def b_law_k56_04 : MS := (sasg (mcall D_law_rows_k56 (acons (mvar 1) (acons (mvar 2) (acons (mvar 4) anil)))) (gset 5))
def b_law_k56_05 : MS := (sasg (op2 fSub (mcall D_law_draw (acons (mvar 1) (acons (mret (D.int 30)) anil))) (mret (D.int 15))) (gset 6))
def b_law_k56_06 : MS := (sasg (op2 fSub (mcall D_law_draw (acons (mvar 1) (acons (mret (D.int 30)) anil))) (mret (D.int 15))) (gset 7))
def b_law_k56_07 : MS := (sif (mor (mnot (mtru (mcall D_is_integer (acons (mcall D_token_half (acons (mvar 6) (acons (mvar 7) anil))) anil)))) (mtest (op2 fNe (mcall D_token_half (acons (mvar 6) (acons (mvar 7) anil))) (mcall D_law_half_chips (acons (mvar 6) (acons (mvar 7) anil)))))) (sret (mret (D.bl false))) sskip)
def b_law_k56_08 : MS := (sasg (mcall D_law_draw (acons (mvar 1) (acons (opn fLen (acons (mvar 5) anil)) anil))) (gset 8))
def b_law_k56_09 : MS := (sif (mtest (op2 fNe (mcall D_token_due (acons (op2 fIx (op2 fIx (mvar 2) (mret (D.int 3))) (mvar 8)) (acons (mvar 4) anil))) (op2 fMul (mret (D.int 2)) (mcall D_due_at (acons (op2 fIx (op2 fIx (mvar 2) (mret (D.int 3))) (mvar 8)) (acons (mvar 4) anil)))))) (sret (mret (D.bl false))) sskip)
def c_law_k56_1 : M (List D) := (mcomp (mbind (acons (opn fLen (acons (mvar 5) anil)) anil) fun x => mlift (rng1 x)) 10 (mtest (op2 fGt (opn fLen (acons (op2 fIx (op2 fIx (mvar 2) (mret (D.int 0))) (mvar 10)) anil)) (mret (D.int 0)))) (mvar 10))
def b_law_k56_11 (A : CA) : MS := (sif (mtest (op2 fEq (opn fLen (acons (mvar 9) anil)) (mret (D.int 0)))) (sret (op2 fEq (mcall (D_token_price A) (acons (mvar 3) (acons (mvar 4) (acons (mvar 5) (acons (mvar 8) anil))))) (op2 fAdd (op2 fMul (mret (D.int 2)) (mvar 4)) (mret (D.int 2))))) sskip)
def b_law_k56_12 : MS := (sasg (op2 fIx (mvar 9) (mcall D_law_draw (acons (mvar 1) (acons (opn fLen (acons (mvar 9) anil)) anil)))) (gset 10))
def b_law_k56_13 : MS := (sasg (mcall D_law_half_chips (acons (mcall D_law_low (acons (mvar 2) (acons (mvar 5) (acons (mvar 10) anil)))) (acons (mcall D_law_high (acons (mvar 2) (acons (mvar 5) (acons (mvar 10) anil)))) anil))) (gset 11))
def b_law_k56_14 (A : CA) : MS := (sasg (mcall (D_token_price A) (acons (mvar 3) (acons (mvar 4) (acons (mvar 5) (acons (mvar 10) anil))))) (gset 12))
def c_law_k56_2 : M (List D) := (mcomp (mbind (mvar 5) fun x => mlift (lstOf x)) 14 mtrue (op2 fSub (mvar 14) (mret (D.int 40))))
def b_law_k56_16 (A : CA) : MS := (sif (mor (mnot (mtru (mcall D_is_integer (acons (mvar 12) anil)))) (mor (mtest (op2 fNe (mvar 12) (mvar 11))) (mtest (op2 fNe (mcall (D_token_price A) (acons (mvar 3) (acons (mvar 4) (acons (mvar 13) (acons (mvar 10) anil))))) (op2 fSub (mvar 11) (mret (D.int 40))))))) (sret (mret (D.bl false))) sskip)
def b_law_k56_17l1 (A : CA) : MS := (sif (mnot (mtru (mcall (D_law_one_side A) (acons (mvar 3) (acons (mvar 2) (acons (mvar 4) (acons (mvar 5) (acons (mvar 10) (acons (mvar 15) (acons (mret (D.int 1)) (acons (op2 fGe (mvar 15) (mvar 11)) anil))))))))))) (sret (mret (D.bl false))) sskip)
def b_law_k56_17l2 (A : CA) : MS := (sif (mnot (mtru (mcall (D_law_one_side A) (acons (mvar 3) (acons (mvar 2) (acons (mvar 4) (acons (mvar 5) (acons (mvar 10) (acons (mvar 15) (acons (mret (D.int 2)) (acons (op2 fLt (mvar 15) (mvar 11)) anil))))))))))) (sret (mret (D.bl false))) sskip)
def L_law_k56_17 (A : CA) : MS := (sseq (b_law_k56_17l1 A)
    (b_law_k56_17l2 A))
def b_law_k56_17 (A : CA) : MS := (sfor (mbind (acons (op2 fAdd (op2 fMul (mret (D.int 2)) (mvar 4)) (mret (D.int 2))) anil) fun x => mlift (rng1 x)) (gset 15) (L_law_k56_17 A))
def b_law_k56_18 (A : CA) : MS := (sret (mcall (D_law_bad_k56 A) (acons (mvar 1) (acons (mvar 2) (acons (mvar 3) (acons (mvar 4) (acons (mvar 5) (acons (mvar 10) anil))))))))
def dn_law_k56 (A : CA) : MS := (sseq b_law_k56_01
    (sseq (b_law_k56_02 A)
    (sseq b_law_k56_03
    (sseq b_law_k56_04
    (sseq b_law_k56_05
    (sseq b_law_k56_06
    (sseq b_law_k56_07
    (sseq b_law_k56_08
    (sseq b_law_k56_09
    (sseq (sasg (mfreeze c_law_k56_1) (gset 9))
    (sseq (b_law_k56_11 A)
    (sseq b_law_k56_12
    (sseq b_law_k56_13
    (sseq (b_law_k56_14 A)
    (sseq (sasg (mfreeze c_law_k56_2) (gset 13))
    (sseq (b_law_k56_16 A)
    (sseq (b_law_k56_17 A)
    (b_law_k56_18 A))))))))))))))))))
end
end PL
namespace K56
open PySem L2 Den PL
def top (i : Nat) : Stmt := PySem.Challenge.pw_pursewebs_k56_token_bids.main.body.getD i (.Pass ⟨0, 0, 0, 0⟩)
abbrev s_is_integer : Stmt := top 11
abbrev s_check_whole : Stmt := top 12
abbrev s_whole_list : Stmt := top 13
abbrev s_check_size : Stmt := top 14
abbrev s_check_range : Stmt := top 15
abbrev s_check_least : Stmt := top 16
abbrev s_check_one_or_two : Stmt := top 17
abbrev s_check_most : Stmt := top 18
abbrev s_as_stands : Stmt := top 19
abbrev s_is_due : Stmt := top 21
abbrev s_due_in_range : Stmt := top 22
abbrev s_due_too_great : Stmt := top 23
abbrev s_check_due : Stmt := top 24
abbrev s_check_due_range : Stmt := top 25
abbrev s_check_due_size : Stmt := top 26
abbrev s_due_at : Stmt := top 27
abbrev s_due_number : Stmt := top 28
abbrev s_check_kinds : Stmt := top 32
abbrev s_check_steps : Stmt := top 33
abbrev s_check_parts : Stmt := top 31
abbrev s_Web_init : Stmt := inClass (top 35) 0
abbrev s_check_web : Stmt := top 36
abbrev s_check_stand : Stmt := top 38
abbrev s_check_moving : Stmt := top 39
abbrev s_check_even : Stmt := top 40
abbrev s_check_part_range : Stmt := top 41
abbrev s_low_of : Stmt := top 43
abbrev s_high_of : Stmt := top 44
abbrev s_least_with : Stmt := top 46
abbrev s_token_bought : Stmt := top 48
abbrev s_bids_of : Stmt := top 49
abbrev s_first_size : Stmt := top 52
abbrev s_second_size : Stmt := top 53
abbrev s_token_first_told : Stmt := top 54
abbrev s_check_token_kinds : Stmt := top 55
abbrev s_check_token_row : Stmt := top 56
abbrev s_check_holding : Stmt := top 57
abbrev s_check_token_bid : Stmt := top 58
abbrev s_token_first : Stmt := top 59
abbrev s_token_second : Stmt := top 60
abbrev s_token_serves : Stmt := top 61
abbrev s_token_half_of : Stmt := top 63
abbrev s_token_half : Stmt := top 64
abbrev s_token_price_of : Stmt := top 65
abbrev s_token_price : Stmt := top 66
abbrev s_token_due : Stmt := top 67
abbrev s_law_draw : Stmt := top 70
abbrev s_law_whole : Stmt := top 71
abbrev s_law_lot : Stmt := top 72
abbrev s_law_due : Stmt := top 73
abbrev s_law_marks : Stmt := top 74
abbrev s_law_path : Stmt := top 75
abbrev s_law_web : Stmt := top 76
abbrev s_law_due_at : Stmt := top 77
abbrev s_law_low : Stmt := top 78
abbrev s_law_high : Stmt := top 79
abbrev s_law_made : Stmt := top 80
abbrev s_law_token_row : Stmt := top 81
abbrev s_law_half_chips : Stmt := top 82
abbrev s_law_after : Stmt := top 83
abbrev s_law_bids : Stmt := top 84
abbrev s_law_own_serves : Stmt := top 85
abbrev s_law_size : Stmt := top 86
abbrev s_law_one_side : Stmt := top 87
abbrev s_law_refused : Stmt := top 88
abbrev s_law_bad : Stmt := top 89
abbrev s_law_rows : Stmt := top 90
abbrev s_law : Stmt := top 91
abbrev s_law_pot : Stmt := top 69
abbrev s_Web_even : Stmt := inClass (top 35) 9
abbrev s_Web_first : Stmt := inClass (top 35) 2
abbrev s_Web_second : Stmt := inClass (top 35) 3
abbrev s_Web_size : Stmt := inClass (top 35) 1
structure Adr where
  ca : CA
  is_integer : Addr
  fd_is_integer : FuncData
  check_whole : Addr
  fd_check_whole : FuncData
  whole_list : Addr
  fd_whole_list : FuncData
  check_size : Addr
  fd_check_size : FuncData
  check_range : Addr
  fd_check_range : FuncData
  check_least : Addr
  fd_check_least : FuncData
  check_one_or_two : Addr
  fd_check_one_or_two : FuncData
  check_most : Addr
  fd_check_most : FuncData
  as_stands : Addr
  fd_as_stands : FuncData
  is_due : Addr
  fd_is_due : FuncData
  due_in_range : Addr
  fd_due_in_range : FuncData
  due_too_great : Addr
  fd_due_too_great : FuncData
  check_due : Addr
  fd_check_due : FuncData
  check_due_range : Addr
  fd_check_due_range : FuncData
  check_due_size : Addr
  fd_check_due_size : FuncData
  due_at : Addr
  fd_due_at : FuncData
  due_number : Addr
  fd_due_number : FuncData
  check_kinds : Addr
  fd_check_kinds : FuncData
  check_steps : Addr
  fd_check_steps : FuncData
  check_parts : Addr
  fd_check_parts : FuncData
  Web_init : Addr
  fd_Web_init : FuncData
  check_web : Addr
  fd_check_web : FuncData
  check_stand : Addr
  fd_check_stand : FuncData
  check_moving : Addr
  fd_check_moving : FuncData
  check_even : Addr
  fd_check_even : FuncData
  check_part_range : Addr
  fd_check_part_range : FuncData
  low_of : Addr
  fd_low_of : FuncData
  high_of : Addr
  fd_high_of : FuncData
  least_with : Addr
  fd_least_with : FuncData
  token_bought : Addr
  fd_token_bought : FuncData
  bids_of : Addr
  fd_bids_of : FuncData
  first_size : Addr
  fd_first_size : FuncData
  second_size : Addr
  fd_second_size : FuncData
  token_first_told : Addr
  fd_token_first_told : FuncData
  check_token_kinds : Addr
  fd_check_token_kinds : FuncData
  check_token_row : Addr
  fd_check_token_row : FuncData
  check_holding : Addr
  fd_check_holding : FuncData
  check_token_bid : Addr
  fd_check_token_bid : FuncData
  token_first : Addr
  fd_token_first : FuncData
  token_second : Addr
  fd_token_second : FuncData
  token_serves : Addr
  fd_token_serves : FuncData
  token_half_of : Addr
  fd_token_half_of : FuncData
  token_half : Addr
  fd_token_half : FuncData
  token_price_of : Addr
  fd_token_price_of : FuncData
  token_price : Addr
  fd_token_price : FuncData
  token_due : Addr
  fd_token_due : FuncData
  law_draw : Addr
  fd_law_draw : FuncData
  law_whole : Addr
  fd_law_whole : FuncData
  law_lot : Addr
  fd_law_lot : FuncData
  law_due : Addr
  fd_law_due : FuncData
  law_marks : Addr
  fd_law_marks : FuncData
  law_path : Addr
  fd_law_path : FuncData
  law_web : Addr
  fd_law_web : FuncData
  law_due_at : Addr
  fd_law_due_at : FuncData
  law_low : Addr
  fd_law_low : FuncData
  law_high : Addr
  fd_law_high : FuncData
  law_made : Addr
  fd_law_made : FuncData
  law_token_row : Addr
  fd_law_token_row : FuncData
  law_half_chips : Addr
  fd_law_half_chips : FuncData
  law_after : Addr
  fd_law_after : FuncData
  law_bids : Addr
  fd_law_bids : FuncData
  law_own_serves : Addr
  fd_law_own_serves : FuncData
  law_size : Addr
  fd_law_size : FuncData
  law_one_side : Addr
  fd_law_one_side : FuncData
  law_refused : Addr
  fd_law_refused : FuncData
  law_bad : Addr
  fd_law_bad : FuncData
  law_rows : Addr
  fd_law_rows : FuncData
  Web_even : Addr
  fd_Web_even : FuncData
  Web_first : Addr
  fd_Web_first : FuncData
  Web_second : Addr
  fd_Web_second : FuncData
  Web_size : Addr
  fd_Web_size : FuncData
  pr_Web_even : Addr
  pr_Web_first : Addr
  pr_Web_second : Addr
  pr_Web_size : Addr
structure Txt (c : Cfg) (mg : Str → Option Value) (A : Adr) : Prop where
  pl : c.Pot
  F_is_integer : Fun c.K "is_integer" "is_integer" s_is_integer A.is_integer A.fd_is_integer
  m_is_integer : mg "is_integer" = some (.ref A.is_integer)
  F_check_whole : Fun c.K "check_whole" "check_whole" s_check_whole A.check_whole A.fd_check_whole
  m_check_whole : mg "check_whole" = some (.ref A.check_whole)
  F_whole_list : Fun c.K "whole_list" "whole_list" s_whole_list A.whole_list A.fd_whole_list
  m_whole_list : mg "whole_list" = some (.ref A.whole_list)
  F_check_size : Fun c.K "check_size" "check_size" s_check_size A.check_size A.fd_check_size
  m_check_size : mg "check_size" = some (.ref A.check_size)
  F_check_range : Fun c.K "check_range" "check_range" s_check_range A.check_range A.fd_check_range
  m_check_range : mg "check_range" = some (.ref A.check_range)
  F_check_least : Fun c.K "check_least" "check_least" s_check_least A.check_least A.fd_check_least
  m_check_least : mg "check_least" = some (.ref A.check_least)
  F_check_one_or_two : Fun c.K "check_one_or_two" "check_one_or_two" s_check_one_or_two A.check_one_or_two A.fd_check_one_or_two
  m_check_one_or_two : mg "check_one_or_two" = some (.ref A.check_one_or_two)
  F_check_most : Fun c.K "check_most" "check_most" s_check_most A.check_most A.fd_check_most
  m_check_most : mg "check_most" = some (.ref A.check_most)
  F_as_stands : Fun c.K "as_stands" "as_stands" s_as_stands A.as_stands A.fd_as_stands
  m_as_stands : mg "as_stands" = some (.ref A.as_stands)
  F_is_due : Fun c.K "is_due" "is_due" s_is_due A.is_due A.fd_is_due
  m_is_due : mg "is_due" = some (.ref A.is_due)
  F_due_in_range : Fun c.K "due_in_range" "due_in_range" s_due_in_range A.due_in_range A.fd_due_in_range
  m_due_in_range : mg "due_in_range" = some (.ref A.due_in_range)
  F_due_too_great : Fun c.K "due_too_great" "due_too_great" s_due_too_great A.due_too_great A.fd_due_too_great
  m_due_too_great : mg "due_too_great" = some (.ref A.due_too_great)
  F_check_due : Fun c.K "check_due" "check_due" s_check_due A.check_due A.fd_check_due
  m_check_due : mg "check_due" = some (.ref A.check_due)
  F_check_due_range : Fun c.K "check_due_range" "check_due_range" s_check_due_range A.check_due_range A.fd_check_due_range
  m_check_due_range : mg "check_due_range" = some (.ref A.check_due_range)
  F_check_due_size : Fun c.K "check_due_size" "check_due_size" s_check_due_size A.check_due_size A.fd_check_due_size
  m_check_due_size : mg "check_due_size" = some (.ref A.check_due_size)
  F_due_at : Fun c.K "due_at" "due_at" s_due_at A.due_at A.fd_due_at
  m_due_at : mg "due_at" = some (.ref A.due_at)
  F_due_number : Fun c.K "due_number" "due_number" s_due_number A.due_number A.fd_due_number
  m_due_number : mg "due_number" = some (.ref A.due_number)
  F_check_kinds : Fun c.K "check_kinds" "check_kinds" s_check_kinds A.check_kinds A.fd_check_kinds
  m_check_kinds : mg "check_kinds" = some (.ref A.check_kinds)
  F_check_steps : Fun c.K "check_steps" "check_steps" s_check_steps A.check_steps A.fd_check_steps
  m_check_steps : mg "check_steps" = some (.ref A.check_steps)
  F_check_parts : Fun c.K "check_parts" "check_parts" s_check_parts A.check_parts A.fd_check_parts
  m_check_parts : mg "check_parts" = some (.ref A.check_parts)
  F_Web_init : Fun c.K "__init__" "Web.__init__" s_Web_init A.Web_init A.fd_Web_init
  F_check_web : Fun c.K "check_web" "check_web" s_check_web A.check_web A.fd_check_web
  m_check_web : mg "check_web" = some (.ref A.check_web)
  F_check_stand : Fun c.K "check_stand" "check_stand" s_check_stand A.check_stand A.fd_check_stand
  m_check_stand : mg "check_stand" = some (.ref A.check_stand)
  F_check_moving : Fun c.K "check_moving" "check_moving" s_check_moving A.check_moving A.fd_check_moving
  m_check_moving : mg "check_moving" = some (.ref A.check_moving)
  F_check_even : Fun c.K "check_even" "check_even" s_check_even A.check_even A.fd_check_even
  m_check_even : mg "check_even" = some (.ref A.check_even)
  F_check_part_range : Fun c.K "check_part_range" "check_part_range" s_check_part_range A.check_part_range A.fd_check_part_range
  m_check_part_range : mg "check_part_range" = some (.ref A.check_part_range)
  F_low_of : Fun c.K "low_of" "low_of" s_low_of A.low_of A.fd_low_of
  m_low_of : mg "low_of" = some (.ref A.low_of)
  F_high_of : Fun c.K "high_of" "high_of" s_high_of A.high_of A.fd_high_of
  m_high_of : mg "high_of" = some (.ref A.high_of)
  F_least_with : Fun c.K "least_with" "least_with" s_least_with A.least_with A.fd_least_with
  m_least_with : mg "least_with" = some (.ref A.least_with)
  F_token_bought : Fun c.K "token_bought" "token_bought" s_token_bought A.token_bought A.fd_token_bought
  m_token_bought : mg "token_bought" = some (.ref A.token_bought)
  F_bids_of : Fun c.K "bids_of" "bids_of" s_bids_of A.bids_of A.fd_bids_of
  m_bids_of : mg "bids_of" = some (.ref A.bids_of)
  F_first_size : Fun c.K "first_size" "first_size" s_first_size A.first_size A.fd_first_size
  m_first_size : mg "first_size" = some (.ref A.first_size)
  F_second_size : Fun c.K "second_size" "second_size" s_second_size A.second_size A.fd_second_size
  m_second_size : mg "second_size" = some (.ref A.second_size)
  F_token_first_told : Fun c.K "token_first_told" "token_first_told" s_token_first_told A.token_first_told A.fd_token_first_told
  m_token_first_told : mg "token_first_told" = some (.ref A.token_first_told)
  F_check_token_kinds : Fun c.K "check_token_kinds" "check_token_kinds" s_check_token_kinds A.check_token_kinds A.fd_check_token_kinds
  m_check_token_kinds : mg "check_token_kinds" = some (.ref A.check_token_kinds)
  F_check_token_row : Fun c.K "check_token_row" "check_token_row" s_check_token_row A.check_token_row A.fd_check_token_row
  m_check_token_row : mg "check_token_row" = some (.ref A.check_token_row)
  F_check_holding : Fun c.K "check_holding" "check_holding" s_check_holding A.check_holding A.fd_check_holding
  m_check_holding : mg "check_holding" = some (.ref A.check_holding)
  F_check_token_bid : Fun c.K "check_token_bid" "check_token_bid" s_check_token_bid A.check_token_bid A.fd_check_token_bid
  m_check_token_bid : mg "check_token_bid" = some (.ref A.check_token_bid)
  F_token_first : Fun c.K "token_first" "token_first" s_token_first A.token_first A.fd_token_first
  m_token_first : mg "token_first" = some (.ref A.token_first)
  F_token_second : Fun c.K "token_second" "token_second" s_token_second A.token_second A.fd_token_second
  m_token_second : mg "token_second" = some (.ref A.token_second)
  F_token_serves : Fun c.K "token_serves" "token_serves" s_token_serves A.token_serves A.fd_token_serves
  m_token_serves : mg "token_serves" = some (.ref A.token_serves)
  F_token_half_of : Fun c.K "token_half_of" "token_half_of" s_token_half_of A.token_half_of A.fd_token_half_of
  m_token_half_of : mg "token_half_of" = some (.ref A.token_half_of)
  F_token_half : Fun c.K "token_half" "token_half" s_token_half A.token_half A.fd_token_half
  m_token_half : mg "token_half" = some (.ref A.token_half)
  F_token_price_of : Fun c.K "token_price_of" "token_price_of" s_token_price_of A.token_price_of A.fd_token_price_of
  m_token_price_of : mg "token_price_of" = some (.ref A.token_price_of)
  F_token_price : Fun c.K "token_price" "token_price" s_token_price A.token_price A.fd_token_price
  m_token_price : mg "token_price" = some (.ref A.token_price)
  F_token_due : Fun c.K "token_due" "token_due" s_token_due A.token_due A.fd_token_due
  m_token_due : mg "token_due" = some (.ref A.token_due)
  F_law_draw : Fun c.K "_law_draw" "_law_draw" s_law_draw A.law_draw A.fd_law_draw
  m_law_draw : mg "_law_draw" = some (.ref A.law_draw)
  F_law_whole : Fun c.K "_law_whole" "_law_whole" s_law_whole A.law_whole A.fd_law_whole
  m_law_whole : mg "_law_whole" = some (.ref A.law_whole)
  F_law_lot : Fun c.K "_law_lot" "_law_lot" s_law_lot A.law_lot A.fd_law_lot
  m_law_lot : mg "_law_lot" = some (.ref A.law_lot)
  F_law_due : Fun c.K "_law_due" "_law_due" s_law_due A.law_due A.fd_law_due
  m_law_due : mg "_law_due" = some (.ref A.law_due)
  F_law_marks : Fun c.K "_law_marks" "_law_marks" s_law_marks A.law_marks A.fd_law_marks
  m_law_marks : mg "_law_marks" = some (.ref A.law_marks)
  F_law_path : Fun c.K "_law_path" "_law_path" s_law_path A.law_path A.fd_law_path
  m_law_path : mg "_law_path" = some (.ref A.law_path)
  F_law_web : Fun c.K "_law_web" "_law_web" s_law_web A.law_web A.fd_law_web
  m_law_web : mg "_law_web" = some (.ref A.law_web)
  F_law_due_at : Fun c.K "_law_due_at" "_law_due_at" s_law_due_at A.law_due_at A.fd_law_due_at
  m_law_due_at : mg "_law_due_at" = some (.ref A.law_due_at)
  F_law_low : Fun c.K "_law_low" "_law_low" s_law_low A.law_low A.fd_law_low
  m_law_low : mg "_law_low" = some (.ref A.law_low)
  F_law_high : Fun c.K "_law_high" "_law_high" s_law_high A.law_high A.fd_law_high
  m_law_high : mg "_law_high" = some (.ref A.law_high)
  F_law_made : Fun c.K "_law_made" "_law_made" s_law_made A.law_made A.fd_law_made
  m_law_made : mg "_law_made" = some (.ref A.law_made)
  F_law_token_row : Fun c.K "_law_token_row" "_law_token_row" s_law_token_row A.law_token_row A.fd_law_token_row
  m_law_token_row : mg "_law_token_row" = some (.ref A.law_token_row)
  F_law_half_chips : Fun c.K "_law_half_chips" "_law_half_chips" s_law_half_chips A.law_half_chips A.fd_law_half_chips
  m_law_half_chips : mg "_law_half_chips" = some (.ref A.law_half_chips)
  F_law_after : Fun c.K "_law_after" "_law_after" s_law_after A.law_after A.fd_law_after
  m_law_after : mg "_law_after" = some (.ref A.law_after)
  F_law_bids : Fun c.K "_law_bids" "_law_bids" s_law_bids A.law_bids A.fd_law_bids
  m_law_bids : mg "_law_bids" = some (.ref A.law_bids)
  F_law_own_serves : Fun c.K "_law_own_serves" "_law_own_serves" s_law_own_serves A.law_own_serves A.fd_law_own_serves
  m_law_own_serves : mg "_law_own_serves" = some (.ref A.law_own_serves)
  F_law_size : Fun c.K "_law_size" "_law_size" s_law_size A.law_size A.fd_law_size
  m_law_size : mg "_law_size" = some (.ref A.law_size)
  F_law_one_side : Fun c.K "_law_one_side" "_law_one_side" s_law_one_side A.law_one_side A.fd_law_one_side
  m_law_one_side : mg "_law_one_side" = some (.ref A.law_one_side)
  F_law_refused : Fun c.K "_law_refused" "_law_refused" s_law_refused A.law_refused A.fd_law_refused
  m_law_refused : mg "_law_refused" = some (.ref A.law_refused)
  F_law_bad : Fun c.K "_law_bad" "_law_bad" s_law_bad A.law_bad A.fd_law_bad
  m_law_bad : mg "_law_bad" = some (.ref A.law_bad)
  F_law_rows : Fun c.K "_law_rows" "_law_rows" s_law_rows A.law_rows A.fd_law_rows
  m_law_rows : mg "_law_rows" = some (.ref A.law_rows)
  F_Web_even : Fun c.K "even" "Web.even" s_Web_even A.Web_even A.fd_Web_even
  p_Web_even : PropOf c.K A.ca.Web "even" A.pr_Web_even A.Web_even
  F_Web_first : Fun c.K "first" "Web.first" s_Web_first A.Web_first A.fd_Web_first
  p_Web_first : PropOf c.K A.ca.Web "first" A.pr_Web_first A.Web_first
  F_Web_second : Fun c.K "second" "Web.second" s_Web_second A.Web_second A.fd_Web_second
  p_Web_second : PropOf c.K A.ca.Web "second" A.pr_Web_second A.Web_second
  F_Web_size : Fun c.K "size" "Web.size" s_Web_size A.Web_size A.fd_Web_size
  p_Web_size : PropOf c.K A.ca.Web "size" A.pr_Web_size A.Web_size
  m_Web : mg "Web" = some (.ref A.ca.Web)
  f_Web : ClsF c.K A.ca.Web
  mk_Web : Mk c.K A.ca.Web A.Web_init
  a_Web__dues : NoAttr c.K A.ca.Web "_dues"
  a_Web__ends : NoAttr c.K A.ca.Web "_ends"
  a_Web__even : NoAttr c.K A.ca.Web "_even"
  a_Web__first : NoAttr c.K A.ca.Web "_first"
  a_Web__greatest_due : NoAttr c.K A.ca.Web "_greatest_due"
  a_Web__marks : NoAttr c.K A.ca.Web "_marks"
  a_Web__moving : NoAttr c.K A.ca.Web "_moving"
  a_Web__second : NoAttr c.K A.ca.Web "_second"
  a_Web__size : NoAttr c.K A.ca.Web "_size"
  c_GREATEST : ∃ t, mg "GREATEST" = some (.int 10000000000000000000000000000000000000000 t)
  c_MOST_STANDS : ∃ t, mg "MOST_STANDS" = some (.int 60 t)
  c_MOST_SERVING_CHIPS : ∃ t, mg "MOST_SERVING_CHIPS" = some (.int 200 t)
  n_bool : mg "bool" = none
  n_enumerate : mg "enumerate" = none
  n_int : mg "int" = none
  n_isinstance : mg "isinstance" = none
  n_len : mg "len" = none
  n_list : mg "list" = none
  n_max : mg "max" = none
  n_min : mg "min" = none
  n_range : mg "range" = none
  n_set : mg "set" = none
  n_sorted : mg "sorted" = none
  n_str : mg "str" = none
  n_tuple : mg "tuple" = none
  mE0 : mg "WrongKind" = some (.ref (c.ec 0))
  xE0 : PySem.W.excIn c.K (c.ec 0) [.type "Exception", .type "BaseException", .type "object"] "Exception.__new__" = true
  kE0 : PySem.W.keepIn c.K (.ref (c.ec 0)) = true
  bE0 : PySem.W.subIn c.K (.ref (c.ec 0)) (.type "BaseException") = some true
  tE0 : PySem.W.typeIn c.K (.ref (c.ec 0)) = some (.type "type")
  mE1 : mg "WrongNumber" = some (.ref (c.ec 1))
  xE1 : PySem.W.excIn c.K (c.ec 1) [.type "Exception", .type "BaseException", .type "object"] "Exception.__new__" = true
  kE1 : PySem.W.keepIn c.K (.ref (c.ec 1)) = true
  bE1 : PySem.W.subIn c.K (.ref (c.ec 1)) (.type "BaseException") = some true
  tE1 : PySem.W.typeIn c.K (.ref (c.ec 1)) = some (.type "type")
  mE2 : mg "WrongWeb" = some (.ref (c.ec 2))
  xE2 : PySem.W.excIn c.K (c.ec 2) [.type "Exception", .type "BaseException", .type "object"] "Exception.__new__" = true
  kE2 : PySem.W.keepIn c.K (.ref (c.ec 2)) = true
  bE2 : PySem.W.subIn c.K (.ref (c.ec 2)) (.type "BaseException") = some true
  tE2 : PySem.W.typeIn c.K (.ref (c.ec 2)) = some (.type "type")
  mE3 : mg "TooMuch" = some (.ref (c.ec 3))
  xE3 : PySem.W.excIn c.K (c.ec 3) [.type "Exception", .type "BaseException", .type "object"] "Exception.__new__" = true
  kE3 : PySem.W.keepIn c.K (.ref (c.ec 3)) = true
  bE3 : PySem.W.subIn c.K (.ref (c.ec 3)) (.type "BaseException") = some true
  tE3 : PySem.W.typeIn c.K (.ref (c.ec 3)) = some (.type "type")
  mE4 : mg "WrongText" = some (.ref (c.ec 4))
  xE4 : PySem.W.excIn c.K (c.ec 4) [.type "Exception", .type "BaseException", .type "object"] "Exception.__new__" = true
  kE4 : PySem.W.keepIn c.K (.ref (c.ec 4)) = true
  bE4 : PySem.W.subIn c.K (.ref (c.ec 4)) (.type "BaseException") = some true
  tE4 : PySem.W.typeIn c.K (.ref (c.ec 4)) = some (.type "type")
  mE5 : mg "WrongDeed" = some (.ref (c.ec 5))
  xE5 : PySem.W.excIn c.K (c.ec 5) [.type "Exception", .type "BaseException", .type "object"] "Exception.__new__" = true
  kE5 : PySem.W.keepIn c.K (.ref (c.ec 5)) = true
  bE5 : PySem.W.subIn c.K (.ref (c.ec 5)) (.type "BaseException") = some true
  tE5 : PySem.W.typeIn c.K (.ref (c.ec 5)) = some (.type "type")
  apart : ApartB c 6
theorem gsc_Web_even : FnScope ["self"] ["self"] (defScope s_Web_even) := ⟨rfl, rfl, rfl, by decide +kernel, rfl, by decide +kernel, by decide +kernel⟩
theorem gsc_Web_first : FnScope ["self"] ["self"] (defScope s_Web_first) := ⟨rfl, rfl, rfl, by decide +kernel, rfl, by decide +kernel, by decide +kernel⟩
theorem gsc_Web_second : FnScope ["self"] ["self"] (defScope s_Web_second) := ⟨rfl, rfl, rfl, by decide +kernel, rfl, by decide +kernel, by decide +kernel⟩
theorem gsc_Web_size : FnScope ["self"] ["self"] (defScope s_Web_size) := ⟨rfl, rfl, rfl, by decide +kernel, rfl, by decide +kernel, by decide +kernel⟩
abbrev Nn_is_integer : List Str := ["thing"]
theorem sc_is_integer : FnScope Nn_is_integer ["thing"] (defScope s_is_integer) := ⟨rfl, rfl, rfl, by decide +kernel, rfl, by decide +kernel, by decide +kernel⟩
abbrev Nn_check_whole : List Str := ["things", "thing"]
theorem sc_check_whole : FnScope Nn_check_whole ["things"] (defScope s_check_whole) := ⟨rfl, rfl, rfl, by decide +kernel, rfl, by decide +kernel, by decide +kernel⟩
abbrev Nn_whole_list : List Str := ["thing"]
theorem sc_whole_list : FnScope Nn_whole_list ["thing"] (defScope s_whole_list) := ⟨rfl, rfl, rfl, by decide +kernel, rfl, by decide +kernel, by decide +kernel⟩
abbrev Nn_check_size : List Str := ["row", "size"]
theorem sc_check_size : FnScope Nn_check_size ["row", "size"] (defScope s_check_size) := ⟨rfl, rfl, rfl, by decide +kernel, rfl, by decide +kernel, by decide +kernel⟩
abbrev Nn_check_range : List Str := ["number", "least", "most"]
theorem sc_check_range : FnScope Nn_check_range ["number", "least", "most"] (defScope s_check_range) := ⟨rfl, rfl, rfl, by decide +kernel, rfl, by decide +kernel, by decide +kernel⟩
abbrev Nn_check_least : List Str := ["number", "least"]
theorem sc_check_least : FnScope Nn_check_least ["number", "least"] (defScope s_check_least) := ⟨rfl, rfl, rfl, by decide +kernel, rfl, by decide +kernel, by decide +kernel⟩
abbrev Nn_check_one_or_two : List Str := ["number"]
theorem sc_check_one_or_two : FnScope Nn_check_one_or_two ["number"] (defScope s_check_one_or_two) := ⟨rfl, rfl, rfl, by decide +kernel, rfl, by decide +kernel, by decide +kernel⟩
abbrev Nn_check_most : List Str := ["number", "most"]
theorem sc_check_most : FnScope Nn_check_most ["number", "most"] (defScope s_check_most) := ⟨rfl, rfl, rfl, by decide +kernel, rfl, by decide +kernel, by decide +kernel⟩
abbrev Nn_as_stands : List Str := ["thing", "size", "stands", "stand"]
theorem sc_as_stands : FnScope Nn_as_stands ["thing", "size"] (defScope s_as_stands) := ⟨rfl, rfl, rfl, by decide +kernel, rfl, by decide +kernel, by decide +kernel⟩
abbrev Nn_is_due : List Str := ["due"]
theorem sc_is_due : FnScope Nn_is_due ["due"] (defScope s_is_due) := ⟨rfl, rfl, rfl, by decide +kernel, rfl, by decide +kernel, by decide +kernel⟩
abbrev Nn_due_in_range : List Str := ["due"]
theorem sc_due_in_range : FnScope Nn_due_in_range ["due"] (defScope s_due_in_range) := ⟨rfl, rfl, rfl, by decide +kernel, rfl, by decide +kernel, by decide +kernel⟩
abbrev Nn_due_too_great : List Str := ["due"]
theorem sc_due_too_great : FnScope Nn_due_too_great ["due"] (defScope s_due_too_great) := ⟨rfl, rfl, rfl, by decide +kernel, rfl, by decide +kernel, by decide +kernel⟩
abbrev Nn_check_due : List Str := ["due"]
theorem sc_check_due : FnScope Nn_check_due ["due"] (defScope s_check_due) := ⟨rfl, rfl, rfl, by decide +kernel, rfl, by decide +kernel, by decide +kernel⟩
abbrev Nn_check_due_range : List Str := ["due"]
theorem sc_check_due_range : FnScope Nn_check_due_range ["due"] (defScope s_check_due_range) := ⟨rfl, rfl, rfl, by decide +kernel, rfl, by decide +kernel, by decide +kernel⟩
abbrev Nn_check_due_size : List Str := ["due"]
theorem sc_check_due_size : FnScope Nn_check_due_size ["due"] (defScope s_check_due_size) := ⟨rfl, rfl, rfl, by decide +kernel, rfl, by decide +kernel, by decide +kernel⟩
abbrev Nn_due_at : List Str := ["due", "k"]
theorem sc_due_at : FnScope Nn_due_at ["due", "k"] (defScope s_due_at) := ⟨rfl, rfl, rfl, by decide +kernel, rfl, by decide +kernel, by decide +kernel⟩
abbrev Nn_due_number : List Str := ["due", "k"]
theorem sc_due_number : FnScope Nn_due_number ["due", "k"] (defScope s_due_number) := ⟨rfl, rfl, rfl, by decide +kernel, rfl, by decide +kernel, by decide +kernel⟩
abbrev Nn_check_kinds : List Str := ["first", "second", "marks", "dues", "steps", "due"]
theorem sc_check_kinds : FnScope Nn_check_kinds ["first", "second", "marks", "dues"] (defScope s_check_kinds) := ⟨rfl, rfl, rfl, by decide +kernel, rfl, by decide +kernel, by decide +kernel⟩
abbrev Nn_check_steps : List Str := ["first", "second", "stand", "steps", "step"]
theorem sc_check_steps : FnScope Nn_check_steps ["first", "second"] (defScope s_check_steps) := ⟨rfl, rfl, rfl, by decide +kernel, rfl, by decide +kernel, by decide +kernel⟩
abbrev Nn_check_parts : List Str := ["first", "second", "marks", "dues", "size", "mark", "due"]
theorem sc_check_parts : FnScope Nn_check_parts ["first", "second", "marks", "dues"] (defScope s_check_parts) := ⟨rfl, rfl, rfl, by decide +kernel, rfl, by decide +kernel, by decide +kernel⟩
abbrev Nn_Web_init : List Str := ["self", "first", "second", "marks", "dues", "size", "steps", "due", "stand"]
theorem sc_Web_init : FnScope Nn_Web_init ["self", "first", "second", "marks", "dues"] (defScope s_Web_init) := ⟨rfl, rfl, rfl, by decide +kernel, rfl, by decide +kernel, by decide +kernel⟩
abbrev Nn_check_web : List Str := ["thing"]
theorem sc_check_web : FnScope Nn_check_web ["thing"] (defScope s_check_web) := ⟨rfl, rfl, rfl, by decide +kernel, rfl, by decide +kernel, by decide +kernel⟩
abbrev Nn_check_stand : List Str := ["web", "stand"]
theorem sc_check_stand : FnScope Nn_check_stand ["web", "stand"] (defScope s_check_stand) := ⟨rfl, rfl, rfl, by decide +kernel, rfl, by decide +kernel, by decide +kernel⟩
abbrev Nn_check_moving : List Str := ["web", "stand"]
theorem sc_check_moving : FnScope Nn_check_moving ["web", "stand"] (defScope s_check_moving) := ⟨rfl, rfl, rfl, by decide +kernel, rfl, by decide +kernel, by decide +kernel⟩
abbrev Nn_check_even : List Str := ["web"]
theorem sc_check_even : FnScope Nn_check_even ["web"] (defScope s_check_even) := ⟨rfl, rfl, rfl, by decide +kernel, rfl, by decide +kernel, by decide +kernel⟩
abbrev Nn_check_part_range : List Str := ["row", "size", "most", "part"]
theorem sc_check_part_range : FnScope Nn_check_part_range ["row", "size", "most"] (defScope s_check_part_range) := ⟨rfl, rfl, rfl, by decide +kernel, rfl, by decide +kernel, by decide +kernel⟩
abbrev Nn_low_of : List Str := ["web", "row", "stand", "step"]
theorem sc_low_of : FnScope Nn_low_of ["web", "row", "stand"] (defScope s_low_of) := ⟨rfl, rfl, rfl, by decide +kernel, rfl, by decide +kernel, by decide +kernel⟩
abbrev Nn_high_of : List Str := ["web", "row", "stand", "step"]
theorem sc_high_of : FnScope Nn_high_of ["web", "row", "stand"] (defScope s_high_of) := ⟨rfl, rfl, rfl, by decide +kernel, rfl, by decide +kernel, by decide +kernel⟩
abbrev Nn_least_with : List Str := ["steps", "row", "part", "step"]
theorem sc_least_with : FnScope Nn_least_with ["steps", "row", "part"] (defScope s_least_with) := ⟨rfl, rfl, rfl, by decide +kernel, rfl, by decide +kernel, by decide +kernel⟩
abbrev Nn_token_bought : List Str := ["h", "p", "p_takes", "q", "q_takes"]
theorem sc_token_bought : FnScope Nn_token_bought ["h", "p", "p_takes", "q", "q_takes"] (defScope s_token_bought) := ⟨rfl, rfl, rfl, by decide +kernel, rfl, by decide +kernel, by decide +kernel⟩
abbrev Nn_bids_of : List Str := ["k", "h", "hand", "chips", "takes", "bid", "taking"]
theorem sc_bids_of : FnScope Nn_bids_of ["k", "h", "hand"] (defScope s_bids_of) := ⟨rfl, rfl, rfl, by decide +kernel, rfl, by decide +kernel, by decide +kernel⟩
abbrev Nn_first_size : List Str := ["high", "h", "need"]
theorem sc_first_size : FnScope Nn_first_size ["high", "h"] (defScope s_first_size) := ⟨rfl, rfl, rfl, by decide +kernel, rfl, by decide +kernel, by decide +kernel⟩
abbrev Nn_second_size : List Str := ["low", "h", "need"]
theorem sc_second_size : FnScope Nn_second_size ["low", "h"] (defScope s_second_size) := ⟨rfl, rfl, rfl, by decide +kernel, rfl, by decide +kernel, by decide +kernel⟩
abbrev Nn_token_first_told : List Str := ["web", "row", "stand", "h", "size", "step"]
theorem sc_token_first_told : FnScope Nn_token_first_told ["web", "row", "stand", "h"] (defScope s_token_first_told) := ⟨rfl, rfl, rfl, by decide +kernel, rfl, by decide +kernel, by decide +kernel⟩
abbrev Nn_check_token_kinds : List Str := ["web", "k", "row"]
theorem sc_check_token_kinds : FnScope Nn_check_token_kinds ["web", "k", "row"] (defScope s_check_token_kinds) := ⟨rfl, rfl, rfl, by decide +kernel, rfl, by decide +kernel, by decide +kernel⟩
abbrev Nn_check_token_row : List Str := ["web", "k", "row"]
theorem sc_check_token_row : FnScope Nn_check_token_row ["web", "k", "row"] (defScope s_check_token_row) := ⟨rfl, rfl, rfl, by decide +kernel, rfl, by decide +kernel, by decide +kernel⟩
abbrev Nn_check_holding : List Str := ["web", "k", "stand", "h"]
theorem sc_check_holding : FnScope Nn_check_holding ["web", "k", "stand", "h"] (defScope s_check_holding) := ⟨rfl, rfl, rfl, by decide +kernel, rfl, by decide +kernel, by decide +kernel⟩
abbrev Nn_check_token_bid : List Str := ["web", "k", "row", "stand", "half_chips"]
theorem sc_check_token_bid : FnScope Nn_check_token_bid ["web", "k", "row", "stand", "half_chips"] (defScope s_check_token_bid) := ⟨rfl, rfl, rfl, by decide +kernel, rfl, by decide +kernel, by decide +kernel⟩
abbrev Nn_token_first : List Str := ["web", "k", "row", "stand", "half_chips"]
theorem sc_token_first : FnScope Nn_token_first ["web", "k", "row", "stand", "half_chips"] (defScope s_token_first) := ⟨rfl, rfl, rfl, by decide +kernel, rfl, by decide +kernel, by decide +kernel⟩
abbrev Nn_token_second : List Str := ["web", "k", "row", "stand", "half_chips", "size", "step"]
theorem sc_token_second : FnScope Nn_token_second ["web", "k", "row", "stand", "half_chips"] (defScope s_token_second) := ⟨rfl, rfl, rfl, by decide +kernel, rfl, by decide +kernel, by decide +kernel⟩
abbrev Nn_token_serves : List Str := ["web", "k", "row", "stand", "half_chips", "side", "bid", "takes", "low", "high", "other", "other_takes", "hand", "after", "good_for_first"]
theorem sc_token_serves : FnScope Nn_token_serves ["web", "k", "row", "stand", "half_chips", "side", "bid", "takes"] (defScope s_token_serves) := ⟨rfl, rfl, rfl, by decide +kernel, rfl, by decide +kernel, by decide +kernel⟩
abbrev Nn_token_half_of : List Str := ["x", "y"]
theorem sc_token_half_of : FnScope Nn_token_half_of ["x", "y"] (defScope s_token_half_of) := ⟨rfl, rfl, rfl, by decide +kernel, rfl, by decide +kernel, by decide +kernel⟩
abbrev Nn_token_half : List Str := ["x", "y"]
theorem sc_token_half : FnScope Nn_token_half ["x", "y"] (defScope s_token_half) := ⟨rfl, rfl, rfl, by decide +kernel, rfl, by decide +kernel, by decide +kernel⟩
abbrev Nn_token_price_of : List Str := ["web", "k", "row", "stand"]
theorem sc_token_price_of : FnScope Nn_token_price_of ["web", "k", "row", "stand"] (defScope s_token_price_of) := ⟨rfl, rfl, rfl, by decide +kernel, rfl, by decide +kernel, by decide +kernel⟩
abbrev Nn_token_price : List Str := ["web", "k", "row", "stand"]
theorem sc_token_price : FnScope Nn_token_price ["web", "k", "row", "stand"] (defScope s_token_price) := ⟨rfl, rfl, rfl, by decide +kernel, rfl, by decide +kernel, by decide +kernel⟩
abbrev Nn_token_due : List Str := ["due", "k"]
theorem sc_token_due : FnScope Nn_token_due ["due", "k"] (defScope s_token_due) := ⟨rfl, rfl, rfl, by decide +kernel, rfl, by decide +kernel, by decide +kernel⟩
abbrev Nn_law_draw : List Str := ["_law_pot_here", "_law_many"]
theorem sc_law_draw : FnScope Nn_law_draw ["_law_pot_here", "_law_many"] (defScope s_law_draw) := ⟨rfl, rfl, rfl, by decide +kernel, rfl, by decide +kernel, by decide +kernel⟩
abbrev Nn_law_whole : List Str := ["_law_thing"]
theorem sc_law_whole : FnScope Nn_law_whole ["_law_thing"] (defScope s_law_whole) := ⟨rfl, rfl, rfl, by decide +kernel, rfl, by decide +kernel, by decide +kernel⟩
abbrev Nn_law_lot : List Str := ["_law_pot_here", "_law_size_here", "_law_lot_here", "_law_turn", "_law_step"]
theorem sc_law_lot : FnScope Nn_law_lot ["_law_pot_here", "_law_size_here"] (defScope s_law_lot) := ⟨rfl, rfl, rfl, by decide +kernel, rfl, by decide +kernel, by decide +kernel⟩
abbrev Nn_law_due : List Str := ["_law_pot_here", "_law_word"]
theorem sc_law_due : FnScope Nn_law_due ["_law_pot_here"] (defScope s_law_due) := ⟨rfl, rfl, rfl, by decide +kernel, rfl, by decide +kernel, by decide +kernel⟩
abbrev Nn_law_marks : List Str := ["_law_pot_here", "_law_size_here", "_law_style", "_law_stand"]
theorem sc_law_marks : FnScope Nn_law_marks ["_law_pot_here", "_law_size_here"] (defScope s_law_marks) := ⟨rfl, rfl, rfl, by decide +kernel, rfl, by decide +kernel, by decide +kernel⟩
abbrev Nn_law_path : List Str := ["_law_size_here", "_law_lots", "_law_stand", "_law_low_here", "_law_high_here"]
theorem sc_law_path : FnScope Nn_law_path ["_law_size_here"] (defScope s_law_path) := ⟨rfl, rfl, rfl, by decide +kernel, rfl, by decide +kernel, by decide +kernel⟩
abbrev Nn_law_web : List Str := ["_law_pot_here", "_law_most", "_law_even", "_law_size_here", "_law_shape", "_law_first", "_law_dues", "_law_stand", "_law_second", "_law_lot_here", "_law_is_end", "_law_due_here"]
theorem sc_law_web : FnScope Nn_law_web ["_law_pot_here", "_law_most", "_law_even"] (defScope s_law_web) := ⟨rfl, rfl, rfl, by decide +kernel, rfl, by decide +kernel, by decide +kernel⟩
abbrev Nn_law_due_at : List Str := ["_law_due_here", "_law_k"]
theorem sc_law_due_at : FnScope Nn_law_due_at ["_law_due_here", "_law_k"] (defScope s_law_due_at) := ⟨rfl, rfl, rfl, by decide +kernel, rfl, by decide +kernel, by decide +kernel⟩
abbrev Nn_law_low : List Str := ["_law_web_here", "_law_row", "_law_stand", "_law_step"]
theorem sc_law_low : FnScope Nn_law_low ["_law_web_here", "_law_row", "_law_stand"] (defScope s_law_low) := ⟨rfl, rfl, rfl, by decide +kernel, rfl, by decide +kernel, by decide +kernel⟩
abbrev Nn_law_high : List Str := ["_law_web_here", "_law_row", "_law_stand", "_law_step"]
theorem sc_law_high : FnScope Nn_law_high ["_law_web_here", "_law_row", "_law_stand"] (defScope s_law_high) := ⟨rfl, rfl, rfl, by decide +kernel, rfl, by decide +kernel, by decide +kernel⟩
abbrev Nn_law_made : List Str := ["_law_web_here", "_law_lot_here"]
theorem sc_law_made : FnScope Nn_law_made ["_law_web_here"] (defScope s_law_made) := ⟨rfl, rfl, rfl, by decide +kernel, rfl, by decide +kernel, by decide +kernel⟩
abbrev Nn_law_token_row : List Str := ["_law_web_here", "_law_k", "_law_dues", "_law_due_here", "_law_row", "_law_turn", "_law_after_here", "_law_stand", "_law_number", "_law_low_here"]
theorem sc_law_token_row : FnScope Nn_law_token_row ["_law_web_here", "_law_k"] (defScope s_law_token_row) := ⟨rfl, rfl, rfl, by decide +kernel, rfl, by decide +kernel, by decide +kernel⟩
abbrev Nn_law_half_chips : List Str := ["_law_x", "_law_y"]
theorem sc_law_half_chips : FnScope Nn_law_half_chips ["_law_x", "_law_y"] (defScope s_law_half_chips) := ⟨rfl, rfl, rfl, by decide +kernel, rfl, by decide +kernel, by decide +kernel⟩
abbrev Nn_law_after : List Str := ["_law_h", "_law_p", "_law_first_takes", "_law_q", "_law_second_takes"]
theorem sc_law_after : FnScope Nn_law_after ["_law_h", "_law_p", "_law_first_takes", "_law_q", "_law_second_takes"] (defScope s_law_after) := ⟨rfl, rfl, rfl, by decide +kernel, rfl, by decide +kernel, by decide +kernel⟩
abbrev Nn_law_bids : List Str := ["_law_k", "_law_h", "_law_side", "_law_chips", "_law_holds", "_law_bids_here", "_law_p"]
theorem sc_law_bids : FnScope Nn_law_bids ["_law_k", "_law_h", "_law_side"] (defScope s_law_bids) := ⟨rfl, rfl, rfl, by decide +kernel, rfl, by decide +kernel, by decide +kernel⟩
abbrev Nn_law_own_serves : List Str := ["_law_low_here", "_law_high_here", "_law_k", "_law_h", "_law_side", "_law_bid", "_law_other", "_law_told", "_law_good"]
theorem sc_law_own_serves : FnScope Nn_law_own_serves ["_law_low_here", "_law_high_here", "_law_k", "_law_h", "_law_side", "_law_bid"] (defScope s_law_own_serves) := ⟨rfl, rfl, rfl, by decide +kernel, rfl, by decide +kernel, by decide +kernel⟩
abbrev Nn_law_size : List Str := ["_law_low_here", "_law_high_here", "_law_h", "_law_side", "_law_size_here"]
theorem sc_law_size : FnScope Nn_law_size ["_law_low_here", "_law_high_here", "_law_h", "_law_side"] (defScope s_law_size) := ⟨rfl, rfl, rfl, by decide +kernel, rfl, by decide +kernel, by decide +kernel⟩
abbrev Nn_law_one_side : List Str := ["_law_made_here", "_law_web_here", "_law_k", "_law_row", "_law_stand", "_law_h", "_law_side", "_law_wins", "_law_low_here", "_law_high_here", "_law_size_here", "_law_chips", "_law_aim", "_law_steps", "_law_step", "_law_one", "_law_told", "_law_bid", "_law_serves", "_law_own"]
theorem sc_law_one_side : FnScope Nn_law_one_side ["_law_made_here", "_law_web_here", "_law_k", "_law_row", "_law_stand", "_law_h", "_law_side", "_law_wins"] (defScope s_law_one_side) := ⟨rfl, rfl, rfl, by decide +kernel, rfl, by decide +kernel, by decide +kernel⟩
abbrev Nn_law_refused : List Str := ["_law_what", "_law_made_here", "_law_k", "_law_row", "_law_stand", "_law_h", "_law_side", "_law_bid", "_law_takes", "_law_told"]
theorem sc_law_refused : FnScope Nn_law_refused ["_law_what", "_law_made_here", "_law_k", "_law_row", "_law_stand", "_law_h", "_law_side", "_law_bid", "_law_takes"] (defScope s_law_refused) := ⟨rfl, rfl, rfl, by decide +kernel, rfl, by decide +kernel, by decide +kernel⟩
abbrev Nn_law_bad : List Str := ["_law_pot_here", "_law_web_here", "_law_made_here", "_law_k", "_law_row", "_law_stand", "_law_kind", "_law_what", "_law_h", "_law_bad_here", "_law_ends", "_law_end", "_law_uneven"]
theorem sc_law_bad : FnScope Nn_law_bad ["_law_pot_here", "_law_web_here", "_law_made_here", "_law_k", "_law_row", "_law_stand"] (defScope s_law_bad) := ⟨rfl, rfl, rfl, by decide +kernel, rfl, by decide +kernel, by decide +kernel⟩
abbrev Nn_law_rows : List Str := ["_law_pot_here", "_law_web_here", "_law_k", "_law_stand", "_law_row", "_law_number"]
theorem sc_law_rows : FnScope Nn_law_rows ["_law_pot_here", "_law_web_here", "_law_k"] (defScope s_law_rows) := ⟨rfl, rfl, rfl, by decide +kernel, rfl, by decide +kernel, by decide +kernel⟩
abbrev Nn_law : List Str := ["_law_script", "_law_pot_here", "_law_web_here", "_law_made_here", "_law_k", "_law_row", "_law_x", "_law_y", "_law_at", "_law_moving", "_law_stand", "_law_price", "_law_told", "_law_lower", "_law_part", "_law_h"]
theorem sc_law : FnScope Nn_law ["_law_script"] (defScope s_law) := ⟨rfl, rfl, rfl, by decide +kernel, rfl, by decide +kernel, by decide +kernel⟩
abbrev Nn_law_pot : List Str := ["_law_script", "_law_pot_here", "_law_place", "_law_number", "_law_shift", "_law_turn", "_law_mixed"]
theorem sc_law_pot : FnScope Nn_law_pot ["_law_script"] (defScope s_law_pot) := ⟨rfl, rfl, rfl, by decide +kernel, rfl, by decide +kernel, by decide +kernel⟩
end K56
namespace PL
open PySem L2 Den
@[simp] theorem fLen_dI (ns : List Int) : fLen [dI ns] = some (.int ns.length) := by show some (D.int ((ns.map D.int).length : Int)) = _; rw [List.length_map]
@[simp] theorem lstOf_dI (ns : List Int) : lstOf (dI ns) = some (ns.map .int) := rfl
@[simp] theorem seqOf_dI (ns : List Int) : seqOf (dI ns) = some (ns.map .int) := rfl
@[simp] theorem fSeq1_dI (ns : List Int) : fSeq1 [dI ns] = some (ns.map .int) := rfl
@[simp] theorem fTuple_dI (ns : List Int) : fTuple [dI ns] = some (.tup (ns.map .int)) := rfl
@[simp] theorem truOf_dI (ns : List Int) : truOf (dI ns) = some (!ns.isEmpty) := by show some (!(ns.map D.int).isEmpty) = _; cases ns <;> rfl
@[simp] theorem truOf_dS (ns : List Int) : truOf (dS ns) = some (!(sortSet ns).isEmpty) := by show some (!((sortSet ns).map D.int).isEmpty) = _; cases sortSet ns <;> rfl
@[simp] theorem tupOf_dS (ns : List Int) : tupOf (dS ns) = some ((sortSet ns).map .int) := rfl
@[simp] theorem fIx_dI (ns : List Int) (i : Int) : fIx (dI ns) (.int i) = atI (ns.map .int) i := rfl
theorem is_integer_int (i : Int) (p : List Int) : D_is_integer [.int i] p = .ok (.bl true) p := by
  simp [D_is_integer, denF, dn_is_integer, locOf, mvar, fIs1, tyN, isTy]
theorem draw_ev (n : Int) (hn : 0 < n) (ps : List Int) : ∃ v q, D_law_draw [.pot, .int n] ps = .ok (.int v) q ∧ 0 ≤ v ∧ v < n := by
  have hd : ps = [] ∨ ∃ v, ps[ps.length - 1]? = some v ∧ ps ≠ [] := by
    cases ps with
    | nil => exact .inl rfl
    | cons a r => exact .inr ⟨_, List.getElem?_eq_getElem (by simp), by simp⟩
  unfold D_law_draw denF dn_law_draw
  rcases hd with rfl | ⟨v, hv, hl⟩
  · exact ⟨0, [], by simp [locOf, mlenp, mvar], by omega, hn⟩
  · exact ⟨v % n, ps.dropLast, by simp [locOf, mlenp, mvar, mpop, hl, hv, fMod_int hn], Int.emod_nonneg _ (by omega), Int.emod_lt_of_pos _ hn⟩
/-- all of these are whole numbers -/
theorem check_whole_ok (ds : List D) (h : ∀ d ∈ ds, ∃ i, d = .int i) (hl : ds.length ≤ 1000) (p : List Int) : D_check_whole ds p = .ok .non p := by
  have key : ∃ l' p', loop (gset 1) (sif (mnot (mtru (mcall D_is_integer (acons (mvar 1) anil)))) (sraise 0) sskip) ds [some (.dat (.tup ds)), none] p = .nx l' p' ∧ l'.length = 2 ∧ p' = p := by
    refine loop_run (fun _ l q => l.length = 2 ∧ q = p) (k := 0) ⟨rfl, rfl⟩ fun i d l q hd hI => ?_
    obtain ⟨i, rfl⟩ := h d (List.mem_of_getElem? hd)
    obtain ⟨hl, rfl⟩ := hI
    refine ⟨_, lset_lt 1 _ _ (by omega), l.set 1 (some (.dat (.int i))), q, .inl ?_, by simp [hl]⟩
    simp [mvar, hl, is_integer_int]
  obtain ⟨l', p', e, _, rfl⟩ := key
  unfold D_check_whole
  rw [if_pos hl]
  simp [denStar, denF, dn_check_whole, locOf, mvar, e]
theorem whole_list_ok {d : D} {ds : List D} (hd : seqOf d = some ds) (h : ∀ d ∈ ds, ∃ i, d = .int i) (hl : ds.length ≤ 1000) (p : List Int) : D_whole_list [d] p = .ok (.tup ds) p := by
  cases d with
  | lst ds' => cases hd; simp [D_whole_list, denF, dn_whole_list, locOf, mvar, fIs2, tyN, isTy, mstar, check_whole_ok _ h hl]
  | tup ds' => cases hd; simp [D_whole_list, denF, dn_whole_list, locOf, mvar, fIs2, tyN, isTy, mstar, check_whole_ok _ h hl]
  | _ => cases hd
theorem check_size_ev (ds : List D) (d : D) (hd : seqOf d = some ds) (n : Int) (p : List Int) : D_check_size [d, .int n] p = if (ds.length : Int) = n then .ok .non p else .err 1 p := by
  cases d with
  | lst ds' => cases hd; by_cases h : ((ds.length : Nat) : Int) = n <;> simp [D_check_size, denF, dn_check_size, locOf, mvar, h]
  | tup ds' => cases hd; by_cases h : ((ds.length : Nat) : Int) = n <;> simp [D_check_size, denF, dn_check_size, locOf, mvar, h]
  | _ => cases hd
theorem check_range_ev (a b e : Int) (p : List Int) : D_check_range [.int a, .int b, .int e] p = if b ≤ a ∧ a ≤ e then .ok .non p else .err 1 p := by
  unfold D_check_range denF dn_check_range
  by_cases h1 : a < b
  · have : ¬ (b ≤ a ∧ a ≤ e) := by omega
    simp [locOf, mvar, h1, this]
  · by_cases h2 : e < a
    · have : ¬ (b ≤ a ∧ a ≤ e) := by omega
      simp [locOf, mvar, h1, h2, this]
    · have : b ≤ a ∧ a ≤ e := by omega
      simp [locOf, mvar, h1, h2, this]
theorem check_least_ev (a b : Int) (p : List Int) : D_check_least [.int a, .int b] p = if b ≤ a then .ok .non p else .err 1 p := by
  by_cases h : a < b
  · have : ¬ b ≤ a := by omega
    simp [D_check_least, denF, dn_check_least, locOf, mvar, h, this]
  · have : b ≤ a := by omega
    simp [D_check_least, denF, dn_check_least, locOf, mvar, h, this]
theorem check_most_ev (a b : Int) (p : List Int) : D_check_most [.int a, .int b] p = if a ≤ b then .ok .non p else .err 3 p := by
  by_cases h : b < a
  · have : ¬ a ≤ b := by omega
    simp [D_check_most, denF, dn_check_most, locOf, mvar, h, this]
  · have : a ≤ b := by omega
    simp [D_check_most, denF, dn_check_most, locOf, mvar, h, this]
theorem intsOf_map : ∀ (ns : List Int), intsOf (ns.map D.int) = some ns
  | [] => rfl
  | n :: ns => by simp [intsOf, intsOf_map ns]
end PL
namespace PL
open PySem L2 Den
theorem dDue_cases (d : Due) : d = none ∨ ∃ b x, d = some (b, x) := by
  rcases d with _ | ⟨b, x⟩
  · exact .inl rfl
  · exact .inr ⟨b, x, rfl⟩
def wrd (b : Bool) : Str := if b then "chips" else "less"
theorem dDue_some (b : Bool) (x : Int) : dDue (some (b, x)) = .tup [.str (wrd b), .int x] := by cases b <;> rfl
theorem is_due_ok (d : Due) (p : List Int) : D_is_due [dDue d] p = .ok (.bl true) p := by
  rcases dDue_cases d with rfl | ⟨b, x, rfl⟩
  · simp [D_is_due, denF, dn_is_due, locOf, mvar, dDue]
  · rw [dDue_some]
    simp [D_is_due, denF, dn_is_due, locOf, mvar, fIs2, fIs1, tyN, isTy, is_integer_int]
theorem check_due_ok (d : Due) (p : List Int) : D_check_due [dDue d] p = .ok .non p := by
  simp [D_check_due, denF, dn_check_due, locOf, mvar, is_due_ok]
theorem inV_wrd (b : Bool) : inV (V.str (wrd b)) [V.str "chips", V.str "less"] = true := by cases b <;> decide +kernel
theorem inB_wrd (b : Bool) : fInB false (.str (wrd b)) (.tup [.str "chips", .str "less"]) = some (.bl true) := by
  show some (D.bl (inV (V.str (wrd b)) [V.str "chips", V.str "less"])) = _
  rw [inV_wrd]
theorem due_in_range_ok (d : Due) (h : ∀ b x, d = some (b, x) → 0 ≤ x) (p : List Int) : D_due_in_range [dDue d] p = .ok (.bl true) p := by
  rcases dDue_cases d with rfl | ⟨b, x, rfl⟩
  · simp [D_due_in_range, denF, dn_due_in_range, locOf, mvar, dDue]
  · have hx := h b x rfl
    rw [dDue_some]
    simp [D_due_in_range, denF, dn_due_in_range, locOf, mvar, inB_wrd, hx]
theorem due_too_great_no (d : Due) (h : ∀ b x, d = some (b, x) → x ≤ 1000) (p : List Int) : D_due_too_great [dDue d] p = .ok (.bl false) p := by
  rcases dDue_cases d with rfl | ⟨b, x, rfl⟩
  · simp [D_due_too_great, denF, dn_due_too_great, locOf, mvar, dDue]
  · have hx := h b x rfl
    rw [dDue_some]
    have : ¬ ((10000000000000000000000000000000000000000 : Int) < x) := by omega
    simp [D_due_too_great, denF, dn_due_too_great, locOf, mvar, this]
theorem eqv_3 (n : Int) : PyData.eqv (.list [.int n, .int n, .int n]) (.list [.int n, .int n, .int n]) = true := by
  simp [PyData.eqv, PyData.eqvAll]
theorem fEqD_3 (neg : Bool) (n : Int) : fEqD neg (.lst [.int n, .int n, .int n]) (.lst [.int n, .int n, .int n]) = some (.bl (if neg then false else true)) := by
  have e : pd (.lst [.int n, .int n, .int n]) = some (.list [.int n, .int n, .int n]) := by simp [pd, pdL]
  unfold fEqD
  rw [e]
  simp [PyData.depth, PyData.depthAll, eqv_3]
theorem mark_in (m : Int) (h : m = 1 ∨ m = 2) : fInB true (.int m) (.tup [.int 1, .int 2]) = some (.bl false) := by
  show some (D.bl (!inV (V.int m) [V.int 1, V.int 2])) = _
  rcases h with rfl | rfl <;> rfl
end PL
namespace PL
open PySem L2 Den
theorem seq_nx {a b : MS} {l l' : Den.Loc} {p p' : List Int} (h : a l p = .nx l' p') : sseq a b l p = b l' p' := sseq_nx a b l l' p p' h
theorem pd_dS (ss : List Int) : pd (dS ss) = some (.tuple ((sortSet ss).map .int)) := by
  have : ∀ ns : List Int, pdL (ns.map D.int) = some (ns.map .int) := fun ns => by
    induction ns with
    | nil => rfl
    | cons n ns ih => simp [pdL, pd, ih]
  simp [dS, pd, this]
theorem pdL_dS (l : List (List Int)) : pdL (l.map dS) = some (l.map fun ss => .tuple ((sortSet ss).map .int)) := by
  induction l with
  | nil => rfl
  | cons s l ih => simp [pdL, pd_dS, ih]
theorem depth_ints (ns : List Int) : PyData.depthAll (ns.map .int) = 0 := by
  induction ns with
  | nil => rfl
  | cons n ns ih => simp [PyData.depthAll, PyData.depth, ih]
theorem depth_ll (l : List (List Int)) : PyData.depthAll (l.map fun ss => .tuple ((sortSet ss).map .int)) ≤ 1 := by
  induction l with
  | nil => exact Nat.zero_le _
  | cons s l ih => simp [PyData.depthAll, PyData.depth, depth_ints]; omega
theorem even_ev (wb : Wb) : fEqD false (.tup (wb.first.map dS)) (.tup (wb.second.map dS)) = some (.bl (evB wb)) := by
  have e1 : pd (.tup (wb.first.map dS)) = some (.tuple (wb.first.map fun ss => .tuple ((sortSet ss).map .int))) := by simp [pd, pdL_dS]
  have e2 : pd (.tup (wb.second.map dS)) = some (.tuple (wb.second.map fun ss => .tuple ((sortSet ss).map .int))) := by simp [pd, pdL_dS]
  unfold fEqD evB
  rw [e1, e2]
  have h1 := depth_ll wb.first
  have h2 := depth_ll wb.second
  dsimp only
  rw [if_pos (by simp only [PyData.depth]; omega)]
  rfl
end PL
namespace PL
open PySem L2 Den
section
variable (b : Bool) (ds : List D)
@[simp] theorem seqOf_sq : seqOf (sqD b ds) = some ds := by cases b <;> rfl
@[simp] theorem fLen_sq : fLen [sqD b ds] = some (.int ds.length) := by cases b <;> rfl
@[simp] theorem fIx_sq (i : Int) : fIx (sqD b ds) (.int i) = atI ds i := by cases b <;> rfl
@[simp] theorem fTuple_sq : fTuple [sqD b ds] = some (.tup ds) := by cases b <;> rfl
@[simp] theorem truOf_sq : truOf (sqD b ds) = some (!ds.isEmpty) := by cases b <;> rfl
@[simp] theorem fSeq1_sq : fSeq1 [sqD b ds] = some ds := by cases b <;> rfl
@[simp] theorem isNon_sq : isNon (sqD b ds) = false := by cases b <;> rfl
@[simp] theorem enumS_sq : enumS [sqD b ds] = some (enumD 0 ds) := by cases b <;> rfl
@[simp] theorem fIs2_sq : fIs2 [sqD b ds, .tup [.ty .lst, .ty .tup]] = some (.bl true) := by cases b <;> simp [sqD, fIs2, tyN, isTy]
@[simp] theorem fBool_sq : fBoolS [sqD b ds] = some (.bl (!ds.isEmpty)) := by simp [fBoolS]
end
section
variable (s : Bool × List Int)
@[simp] theorem seqOf_sqI : seqOf (sqI s) = some (s.2.map .int) := seqOf_sq _ _
@[simp] theorem fLen_sqI : fLen [sqI s] = some (.int s.2.length) := by rw [sqI, fLen_sq, List.length_map]
@[simp] theorem fTuple_sqI : fTuple [sqI s] = some (.tup (s.2.map .int)) := fTuple_sq _ _
@[simp] theorem isEmpty_mapI : (s.2.map D.int).isEmpty = s.2.isEmpty := by cases s.2 <;> rfl
@[simp] theorem truOf_sqI : truOf (sqI s) = some (!s.2.isEmpty) := by rw [sqI, truOf_sq, isEmpty_mapI]
@[simp] theorem fBool_sqI : fBoolS [sqI s] = some (.bl (!s.2.isEmpty)) := by rw [sqI, fBool_sq, isEmpty_mapI]
@[simp] theorem fSeq1_sqI : fSeq1 [sqI s] = some (s.2.map .int) := fSeq1_sq _ _
end
theorem as_stands_sq (s : Bool × List Int) (n : Int) (hl : s.2.length < 64) (h : ∀ x ∈ s.2, 0 ≤ x ∧ x < n) (p : List Int) : D_as_stands [sqI s, .int n] p = .ok (dS s.2) p := by
  have hw : D_whole_list [sqI s] p = .ok (.tup (s.2.map .int)) p := whole_list_ok (seqOf_sqI s) (fun d hd => by
    obtain ⟨i, _, e⟩ := List.mem_map.mp hd
    exact ⟨i, e.symm⟩) (by rw [List.length_map]; omega) p
  obtain ⟨o', e⟩ := loop_env (i := 3) (fun o => [some (.dat (sqI s)), some (.dat (.int n)), some (.dat (.tup (s.2.map .int))), o]) (p := p) (body := sdrop (mcall D_check_range (acons (mvar 3) (acons (mret (D.int 0)) (acons (op2 fSub (mvar 1) (mret (D.int 1))) anil))))) (fun _ _ => rfl) (ds := s.2.map .int) (fun d hd => by
    obtain ⟨x, hx, rfl⟩ := List.mem_map.mp hd
    have hr : 0 ≤ x ∧ x ≤ n - 1 := by have := h x hx; omega
    simp [mvar, check_range_ev, hr]) none
  simp [D_as_stands, denF, dn_as_stands, locOf, mvar, hw] at e ⊢
  simp [mvar, e, fSortSet, intsOf_map, hl, dS]
theorem sqDue_cases (d : Bool × Due) : sqDue d = .non ∧ d.2 = none ∨ ∃ b x, sqDue d = sqD d.1 [.str (wrd b), .int x] ∧ d.2 = some (b, x) := by
  obtain ⟨a, d⟩ := d
  rcases d with _ | ⟨b, x⟩
  · exact .inl ⟨rfl, rfl⟩
  · exact .inr ⟨b, x, rfl, rfl⟩
theorem is_due_sq (d : Bool × Due) (p : List Int) : D_is_due [sqDue d] p = .ok (.bl true) p := by
  rcases sqDue_cases d with ⟨e, _⟩ | ⟨b, x, e, _⟩ <;> rw [e]
  · simp [D_is_due, denF, dn_is_due, locOf, mvar]
  · simp [D_is_due, denF, dn_is_due, locOf, mvar, fIs1, tyN, isTy, is_integer_int]
theorem check_due_sq (d : Bool × Due) (p : List Int) : D_check_due [sqDue d] p = .ok .non p := by
  simp [D_check_due, denF, dn_check_due, locOf, mvar, is_due_sq]
theorem due_in_range_sq (d : Bool × Due) (h : ∀ b x, d.2 = some (b, x) → 0 ≤ x) (p : List Int) : D_due_in_range [sqDue d] p = .ok (.bl true) p := by
  rcases sqDue_cases d with ⟨e, _⟩ | ⟨b, x, e, e2⟩ <;> rw [e]
  · simp [D_due_in_range, denF, dn_due_in_range, locOf, mvar]
  · have hx := h b x e2
    simp [D_due_in_range, denF, dn_due_in_range, locOf, mvar, inB_wrd, hx]
theorem due_too_great_sq (d : Bool × Due) (h : ∀ b x, d.2 = some (b, x) → x ≤ 10000000000000000000000000000000000000000) (p : List Int) : D_due_too_great [sqDue d] p = .ok (.bl false) p := by
  rcases sqDue_cases d with ⟨e, _⟩ | ⟨b, x, e, e2⟩ <;> rw [e]
  · simp [D_due_too_great, denF, dn_due_too_great, locOf, mvar]
  · have hx := h b x e2
    have : ¬ ((10000000000000000000000000000000000000000 : Int) < x) := by omega
    simp [D_due_too_great, denF, dn_due_too_great, locOf, mvar, this]
theorem whole_sq (s : Bool × List Int) (hl : s.2.length ≤ 1000) (p : List Int) : D_whole_list [sqI s] p = .ok (.tup (s.2.map .int)) p :=
  whole_list_ok (seqOf_sqI s) (fun d hd => by
    obtain ⟨i, _, e⟩ := List.mem_map.mp hd
    exact ⟨i, e.symm⟩) (by rw [List.length_map]; exact hl) p
section
variable {g : Wg}
theorem Wg.first_of (V : ValidG g.wb) : g.first.2.length = g.marks.2.length := by have := V.l1; simpa [Wg.wb] using this
theorem Wg.second_of (V : ValidG g.wb) : g.second.2.length = g.marks.2.length := by have := V.l2; simpa [Wg.wb] using this
theorem Wg.dues_of (V : ValidG g.wb) : g.dues.2.length = g.marks.2.length := by have := V.l3; simpa [Wg.wb] using this
theorem Wg.n1_of (V : ValidG g.wb) : 1 ≤ g.marks.2.length := V.n1
theorem Wg.n2_of (V : ValidG g.wb) : g.marks.2.length ≤ 60 := V.n2
theorem Wg.fst_of (V : ValidG g.wb) {s : Bool × List Int} (h : s ∈ g.first.2) : s.2.length < 64 ∧ ∀ x ∈ s.2, 0 ≤ x ∧ x < (g.marks.2.length : Int) := V.s1 _ (List.mem_map_of_mem h)
theorem Wg.snd_of (V : ValidG g.wb) {s : Bool × List Int} (h : s ∈ g.second.2) : s.2.length < 64 ∧ ∀ x ∈ s.2, 0 ≤ x ∧ x < (g.marks.2.length : Int) := V.s2 _ (List.mem_map_of_mem h)
theorem Wg.du_of (V : ValidG g.wb) {d : Bool × Due} (h : d ∈ g.dues.2) (b : Bool) (x : Int) (e : d.2 = some (b, x)) : 0 ≤ x ∧ x ≤ 10000000000000000000000000000000000000000 := V.du d.2 (List.mem_map_of_mem h) b x e
theorem check_kinds_sq (V : ValidG g.wb) (p : List Int) : D_check_kinds_k09 (encG g) p = .ok .non p := by
  obtain ⟨o1, e1⟩ := loop_env (i := 4) (fun o => [some (.dat (sqD g.first.1 (g.first.2.map sqI))), some (.dat (sqD g.second.1 (g.second.2.map sqI))), some (.dat (sqI g.marks)), some (.dat (sqD g.dues.1 (g.dues.2.map sqDue))), o, none]) (p := p)
    (body := L_check_kinds_k09_1) (fun _ _ => rfl) (ds := [sqD g.first.1 (g.first.2.map sqI), sqD g.second.1 (g.second.2.map sqI), sqD g.dues.1 (g.dues.2.map sqDue)]) (fun d hd => by
      simp only [List.mem_cons, List.not_mem_nil, or_false] at hd
      rcases hd with rfl | rfl | rfl <;> simp [L_check_kinds_k09_1, mvar]) none
  obtain ⟨o2, e2⟩ := loop_env (i := 4) (fun o => [some (.dat (sqD g.first.1 (g.first.2.map sqI))), some (.dat (sqD g.second.1 (g.second.2.map sqI))), some (.dat (sqI g.marks)), some (.dat (sqD g.dues.1 (g.dues.2.map sqDue))), o, none]) (p := p)
    (body := L_check_kinds_k09_2) (fun _ _ => rfl) (ds := g.first.2.map sqI ++ (g.second.2.map sqI ++ [sqI g.marks])) (fun d hd => by
      have : ∃ s : Bool × List Int, d = sqI s ∧ s.2.length ≤ 1000 := by
        simp only [List.mem_append, List.mem_cons, List.not_mem_nil, or_false] at hd
        rcases hd with h | h | h
        · obtain ⟨ss, hs, e⟩ := List.mem_map.mp h
          exact ⟨ss, e.symm, by have := (Wg.fst_of V hs).1; omega⟩
        · obtain ⟨ss, hs, e⟩ := List.mem_map.mp h
          exact ⟨ss, e.symm, by have := (Wg.snd_of V hs).1; omega⟩
        · exact ⟨_, h, by have := Wg.n2_of V; omega⟩
      obtain ⟨s, rfl, hl⟩ := this
      simp [L_check_kinds_k09_2, mvar, whole_sq s hl]) o1
  obtain ⟨o3, e3⟩ := loop_env (i := 5) (fun o => [some (.dat (sqD g.first.1 (g.first.2.map sqI))), some (.dat (sqD g.second.1 (g.second.2.map sqI))), some (.dat (sqI g.marks)), some (.dat (sqD g.dues.1 (g.dues.2.map sqDue))), o2, o]) (p := p)
    (body := L_check_kinds_k09_3) (fun _ _ => rfl) (ds := g.dues.2.map sqDue) (fun d hd => by
      obtain ⟨x, _, rfl⟩ := List.mem_map.mp hd
      simp [L_check_kinds_k09_3, mvar, check_due_sq]) none
  have h1 := Wg.first_of V
  have h2 := Wg.second_of V
  have h3 := Wg.n2_of V
  have hz : g.marks.2.length + (g.marks.2.length + 1) ≤ 1000 := by omega
  simp [D_check_kinds_k09, denF, dn_check_kinds_k09, b_check_kinds_k09_1, b_check_kinds_k09_2, b_check_kinds_k09_3, locOf, encG, mvar, astar, e1, h1, h2, hz, -List.map_map]
  simp [mvar, e2, e3, -List.map_map]
theorem check_steps_sq (V : ValidG g.wb) (p : List Int) : D_check_steps_k09 [sqD g.first.1 (g.first.2.map sqI), sqD g.second.1 (g.second.2.map sqI)] p = .ok .non p := by
  have key : ∃ l' p', loop (gset2 2 3) L_check_steps_k09_1 (enumD 0 (g.first.2.map sqI)) [some (.dat (sqD g.first.1 (g.first.2.map sqI))), some (.dat (sqD g.second.1 (g.second.2.map sqI))), none, none, none] p = .nx l' p' ∧ (p' = p ∧ ∃ a b e, l' = [some (.dat (sqD g.first.1 (g.first.2.map sqI))), some (.dat (sqD g.second.1 (g.second.2.map sqI))), a, b, e]) := by
    refine loop_run (fun (_ : Nat) (l : Den.Loc) (q : List Int) => q = p ∧ ∃ a b e, l = [some (.dat (sqD g.first.1 (g.first.2.map sqI))), some (.dat (sqD g.second.1 (g.second.2.map sqI))), a, b, e]) (k := 0) ⟨rfl, _, _, _, rfl⟩ fun i d l q hd hI => ?_
    obtain ⟨rfl, a, b, e, rfl⟩ := hI
    have hi : i < g.first.2.length := by
      have := (List.getElem?_eq_some_iff.mp hd).1
      rwa [enumD_len, List.length_map] at this
    have hi2 : i < g.second.2.length := by rw [Wg.second_of V, ← Wg.first_of V]; exact hi
    have g1 : (g.first.2.map sqI)[i]? = some (sqI g.first.2[i]) := by rw [List.getElem?_map, List.getElem?_eq_getElem hi]; rfl
    have g2 : (g.second.2.map sqI)[i]? = some (sqI g.second.2[i]) := by rw [List.getElem?_map, List.getElem?_eq_getElem hi2]; rfl
    have hde := enumD_get (g.first.2.map sqI) 0 i _ g1
    rw [Nat.zero_add, hd] at hde
    cases hde
    have g3 : atI (g.second.2.map sqI) (i : Int) = some (sqI g.second.2[i]) := atI_nat g2
    obtain ⟨z1, y1⟩ := Wg.fst_of V (List.getElem_mem hi)
    obtain ⟨z2, y2⟩ := Wg.snd_of V (List.getElem_mem hi2)
    obtain ⟨o', e1⟩ := loop_env (i := 4) (fun o => [some (.dat (sqD g.first.1 (g.first.2.map sqI))), some (.dat (sqD g.second.1 (g.second.2.map sqI))), some (.dat (.int i)), some (.dat (sqI g.first.2[i])), o]) (p := q)
      (body := L_check_steps_k09_1l1) (fun _ _ => rfl) (ds := (g.first.2[i].2.map D.int) ++ (g.second.2[i].2.map D.int)) (fun d hd => by
        have : ∃ x : Int, d = .int x ∧ 0 ≤ x ∧ x < g.marks.2.length := by
          rcases List.mem_append.mp hd with h | h
          · obtain ⟨x, hx, e⟩ := List.mem_map.mp h
            exact ⟨x, e.symm, y1 x hx⟩
          · obtain ⟨x, hx, e⟩ := List.mem_map.mp h
            exact ⟨x, e.symm, y2 x hx⟩
        obtain ⟨x, rfl, h0, h1⟩ := this
        have n1 : ¬ x < 0 := by omega
        have n2 : ¬ ((g.first.2.length : Int) ≤ x) := by rw [Wg.first_of V]; omega
        simp [L_check_steps_k09_1l1, mvar, n1, n2]) e
    have hb := V.both i _ _ (show (g.first.2.map Prod.snd)[i]? = some g.first.2[i].2 by rw [List.getElem?_map, List.getElem?_eq_getElem hi]; rfl) (show (g.second.2.map Prod.snd)[i]? = some g.second.2[i].2 by rw [List.getElem?_map, List.getElem?_eq_getElem hi2]; rfl)
    have hz : g.first.2[i].2.length + g.second.2[i].2.length ≤ 1000 := by omega
    refine ⟨[some (.dat (sqD g.first.1 (g.first.2.map sqI))), some (.dat (sqD g.second.1 (g.second.2.map sqI))), some (.dat (.int i)), some (.dat (sqI g.first.2[i])), e], by simp [gset2, gset], [some (.dat (sqD g.first.1 (g.first.2.map sqI))), some (.dat (sqD g.second.1 (g.second.2.map sqI))), some (.dat (.int i)), some (.dat (sqI g.first.2[i])), o'], q, .inl ?_, rfl, _, _, _, rfl⟩
    simp [L_check_steps_k09_1, b_check_steps_k09_1l1, b_check_steps_k09_1l2, astar, mvar, g3, hz, e1, hb, fNe, sc, scal]
  obtain ⟨l', p', e, rfl, _⟩ := key
  simp [D_check_steps_k09, denF, dn_check_steps_k09, locOf, mvar, -List.map_map]
  rw [e]
  rfl
theorem check_parts_sq (V : ValidG g.wb) (p : List Int) : D_check_parts_k09 (encG g) p = .ok .non p := by
  have n1 := Wg.n1_of V
  have n2 := Wg.n2_of V
  have l1 := Wg.first_of V
  have l2 := Wg.second_of V
  have l3 := Wg.dues_of V
  obtain ⟨o1, e1⟩ := loop_env (i := 5) (fun o => [some (.dat (sqD g.first.1 (g.first.2.map sqI))), some (.dat (sqD g.second.1 (g.second.2.map sqI))), some (.dat (sqI g.marks)), some (.dat (sqD g.dues.1 (g.dues.2.map sqDue))), some (.dat (.int g.marks.2.length)), o, none]) (p := p)
    (body := L_check_parts_k09_5) (fun _ _ => rfl) (ds := g.marks.2.map .int) (fun d hd => by
      obtain ⟨m, hm, rfl⟩ := List.mem_map.mp hd
      simp [L_check_parts_k09_5, mvar, mark_in m (V.mks m hm)]) none
  obtain ⟨o2, e2⟩ := loop_env (i := 6) (fun o => [some (.dat (sqD g.first.1 (g.first.2.map sqI))), some (.dat (sqD g.second.1 (g.second.2.map sqI))), some (.dat (sqI g.marks)), some (.dat (sqD g.dues.1 (g.dues.2.map sqDue))), some (.dat (.int g.marks.2.length)), o1, o]) (p := p)
    (body := L_check_parts_k09_6) (fun _ _ => rfl) (ds := g.dues.2.map sqDue) (fun d hd => by
      obtain ⟨x, hx, rfl⟩ := List.mem_map.mp hd
      simp [L_check_parts_k09_6, mvar, due_in_range_sq x (fun b y e => (Wg.du_of V hx b y e).1)]) none
  obtain ⟨o3, e3⟩ := loop_env (i := 6) (fun o => [some (.dat (sqD g.first.1 (g.first.2.map sqI))), some (.dat (sqD g.second.1 (g.second.2.map sqI))), some (.dat (sqI g.marks)), some (.dat (sqD g.dues.1 (g.dues.2.map sqDue))), some (.dat (.int g.marks.2.length)), o1, o]) (p := p)
    (body := L_check_parts_k09_8) (fun _ _ => rfl) (ds := g.dues.2.map sqDue) (fun d hd => by
      obtain ⟨x, hx, rfl⟩ := List.mem_map.mp hd
      simp [L_check_parts_k09_8, mvar, due_too_great_sq x (fun b y e => (Wg.du_of V hx b y e).2)]) o2
  have hk := check_kinds_sq V p
  have hs := check_steps_sq V p
  have hm := check_most_ev (g.marks.2.length : Int) 60 p
  rw [if_pos (by omega)] at hm
  have hne : ¬ g.marks.2 = [] := fun z => by rw [z] at n1; simp at n1
  have hrep : fRep (.lst [.int (g.marks.2.length : Int)]) (.int 3) = some (.lst [.int g.marks.2.length, .int g.marks.2.length, .int g.marks.2.length]) := rfl
  simp only [encG] at hk
  simp [D_check_parts_k09, denF, dn_check_parts_k09, b_check_parts_k09_1, b_check_parts_k09_2, b_check_parts_k09_3, b_check_parts_k09_4, b_check_parts_k09_5, b_check_parts_k09_6, b_check_parts_k09_7, b_check_parts_k09_8, locOf, encG, mvar, hk, l1, l2, l3, hne, hrep, fEqD_3, hs, e1, e2, hm, e3, -List.map_map]
end
end PL
namespace PL
open PySem L2 Den
section
variable {g : Wg}
def locW (g : Wg) (o : Option L) : Den.Loc := [o, some (.dat (sqD g.first.1 (g.first.2.map sqI))), some (.dat (sqD g.second.1 (g.second.2.map sqI))), some (.dat (sqI g.marks)), some (.dat (sqD g.dues.1 (g.dues.2.map sqDue))), some (.dat (.int g.marks.2.length)), none, none, none]
theorem wA (V : ValidG g.wb) (p : List Int) (o : Option L) : c_Web_init_k09_1 (locW g o) p = .ok (g.wb.first.map dS) p := by
  have l1 := Wg.first_of V
  have n2 := Wg.n2_of V
  unfold c_Web_init_k09_1
  rw [mcomp_ev (ds := g.first.2.map sqI) (p' := p) (by simp [locW, mvar, -List.map_map]) (by rw [List.length_map]; omega)]
  rw [comp_mapL (by simp [locW]) sqI (fun s => dS s.2) fun s hs => by
    have := Wg.fst_of V hs
    simp [locW, mvar, as_stands_sq s g.marks.2.length this.1 this.2]]
  simp [Wg.wb, List.map_map, Function.comp_def]
theorem wB (V : ValidG g.wb) (p : List Int) (o : Option L) : c_Web_init_k09_2 (locW g o) p = .ok (g.wb.second.map dS) p := by
  have l1 := Wg.second_of V
  have n2 := Wg.n2_of V
  unfold c_Web_init_k09_2
  rw [mcomp_ev (ds := g.second.2.map sqI) (p' := p) (by simp [locW, mvar, -List.map_map]) (by rw [List.length_map]; omega)]
  rw [comp_mapL (by simp [locW]) sqI (fun s => dS s.2) fun s hs => by
    have := Wg.snd_of V hs
    simp [locW, mvar, as_stands_sq s g.marks.2.length this.1 this.2]]
  simp [Wg.wb, List.map_map, Function.comp_def]
theorem wD (V : ValidG g.wb) (p : List Int) (o : Option L) : c_Web_init_k09_3 (locW g o) p = .ok (g.wb.dues.map dDue) p := by
  have l1 := Wg.dues_of V
  have n2 := Wg.n2_of V
  unfold c_Web_init_k09_3
  rw [mcomp_ev (ds := g.dues.2.map sqDue) (p' := p) (by simp [locW, mvar, -List.map_map]) (by rw [List.length_map]; omega)]
  rw [comp_mapL (by simp [locW]) sqDue (fun s => dDue s.2) fun s hs => by
    rcases sqDue_cases s with ⟨e, e2⟩ | ⟨b, x, e, e2⟩
    · simp [locW, mvar, e, e2, dDue]
    · simp [locW, mvar, e, e2, dDue_some]]
  simp [Wg.wb, List.map_map, Function.comp_def]
theorem wG (V : ValidG g.wb) (p : List Int) (o : Option L) : c_Web_init_k09_6 (locW g o) p = .ok (g.wb.dues.map fun d => .int (gdI d)) p := by
  have l1 := Wg.dues_of V
  have n2 := Wg.n2_of V
  unfold c_Web_init_k09_6
  rw [mcomp_ev (ds := g.dues.2.map sqDue) (p' := p) (by simp [locW, mvar, -List.map_map]) (by rw [List.length_map]; omega)]
  rw [comp_mapL (by simp [locW]) sqDue (fun s => .int (gdI s.2)) fun s hs => by
    rcases sqDue_cases s with ⟨e, e2⟩ | ⟨b, x, e, e2⟩
    · simp [locW, mvar, e, e2, gdI]
    · simp [locW, mvar, e, e2, gdI]]
  simp [Wg.wb, List.map_map, Function.comp_def]
theorem wmv (V : ValidG g.wb) : ∀ d ∈ rngD 0 g.marks.2.length, (fIx (sqD g.first.1 (g.first.2.map sqI)) d).bind truOf = some (moves g.wb d) := fun d hd => by
  have l1 := Wg.first_of V
  obtain ⟨i, hi, rfl⟩ := rngD_mem hd
  have hi' : i < g.first.2.length := by omega
  have e1 : atI (g.first.2.map sqI) ((0 : Int) + (i : Int)) = some (sqI g.first.2[i]) := by
    rw [Int.zero_add]
    exact atI_nat (by rw [List.getElem?_map, List.getElem?_eq_getElem hi']; rfl)
  have e2 : atI (g.wb.first.map dI) ((0 : Int) + (i : Int)) = some (dI g.first.2[i].2) := by
    rw [Int.zero_add]
    exact atI_nat (by simp [Wg.wb, List.getElem?_map, List.getElem?_eq_getElem hi'])
  unfold moves
  simp only [fIx_lst, fIx_sq, e1, e2, Option.bind_some, truOf_dI, truOf_sqI]
theorem wmv2 (V : ValidG g.wb) (p : List Int) (o : Option L) (d : D) (hd : d ∈ rngD 0 g.marks.2.length) : mtru (op2 fIx (mvar 1) (mvar 8)) ((locW g o).set 8 (some (.dat d))) p = .ok (moves g.wb d) p := by
  have := wmv V d hd
  have h1 : ((locW g o).set 8 (some (.dat d)))[1]? = some (some (.dat (sqD g.first.1 (g.first.2.map sqI)))) := by simp [locW]
  have h8 : ((locW g o).set 8 (some (.dat d)))[8]? = some (some (.dat d)) := by simp [locW]
  simp only [mtru_ev, op2_ev, mvar_ev h1, mvar_ev h8, bind_ok]
  cases e : fIx (sqD g.first.1 (g.first.2.map sqI)) d with
  | none => rw [e] at this; cases this
  | some y =>
    rw [e] at this
    simp only [Option.bind_some] at this
    simp [this]
theorem wrng (V : ValidG g.wb) (p : List Int) (o : Option L) : (mbind (acons (mvar 5) anil) fun x => mlift (rng1 x)) (locW g o) p = .ok (rngD 0 g.marks.2.length) p := by
  have n2 := Wg.n2_of V
  have hr : rng1 [D.int (g.marks.2.length : Int)] = some (rngD 0 g.marks.2.length) := by
    have h := rng1_int (n := (g.marks.2.length : Int)) (by omega)
    rw [Int.toNat_natCast] at h
    exact h
  have h5 : (locW g o)[5]? = some (some (.dat (.int g.marks.2.length))) := by simp [locW]
  simp only [mbind_ev, acons_ev, mvar_ev h5, bind_ok, anil_ev, hr, mlift_some]
theorem wE (V : ValidG g.wb) (p : List Int) (o : Option L) : c_Web_init_k09_4 (locW g o) p = .ok ((rngD 0 g.marks.2.length).filter fun d => !moves g.wb d) p := by
  have n2 := Wg.n2_of V
  refine (mcomp_ev (wrng V p o) (by rw [rngD_len]; omega)).trans ?_
  refine comp_filter (by simp [locW]) _ (fun d hd => ?_) fun d hd => mvar_ev (by simp [locW])
  rw [mnot_ev, wmv2 V p o d hd]
  rfl
theorem wM (V : ValidG g.wb) (p : List Int) (o : Option L) : c_Web_init_k09_5 (locW g o) p = .ok ((rngD 0 g.marks.2.length).filter fun d => moves g.wb d) p := by
  have n2 := Wg.n2_of V
  refine (mcomp_ev (wrng V p o) (by rw [rngD_len]; omega)).trans ?_
  refine comp_filter (by simp [locW]) _ (fun d hd => ?_) fun d hd => mvar_ev (by simp [locW])
  exact wmv2 V p o d hd
theorem wgd (V : ValidG g.wb) : fMaxL [.lst (g.wb.dues.map fun d => .int (gdI d))] = some (gdD g.wb) := by
  have n1 := V.n1
  have l3 := V.l3
  have e : intsOf (g.wb.dues.map fun d => D.int (gdI d)) = some (g.wb.dues.map gdI) := by
    have := intsOf_map (g.wb.dues.map gdI)
    rwa [List.map_map] at this
  show (intsOf (g.wb.dues.map fun d => D.int (gdI d))).bind mostOf = some (gdD g.wb)
  rw [e]
  unfold gdD
  cases e2 : g.wb.dues.map gdI with
  | nil =>
    have h0 : g.wb.dues.length = 0 := by rw [← List.length_map (f := gdI), e2]; rfl
    omega
  | cons n ns => rfl
theorem initG_eval (V : ValidG g.wb) (x : Addr) (A : CA) (p : List Int) : denI x A.Web 5 9 (dn_Web_init_k09 A) (encG g) p = .ok (wnames, wfields g.wb) p := by
  have hp := check_parts_sq V p
  simp only [encG] at hp
  unfold denI
  rw [if_pos (show (encG g).length + 1 = 5 from rfl)]
  show outI x A.Web (dn_Web_init_k09 A ((locW g (some (.obj x A.Web [] []))).set 5 none) p) = _
  unfold dn_Web_init_k09
  rw [seq_nx (l' := (locW g (some (.obj x A.Web [] []))).set 5 none) (p' := p) (by simp [b_Web_init_k09_01, locW, mvar, hp, -List.map_map])]
  rw [seq_nx (l' := locW g (some (.obj x A.Web [] []))) (p' := p) (by simp [b_Web_init_k09_02, locW, mvar, -List.map_map])]
  have s0 : ∀ (o q : Option L), (locW g o).set 0 q = locW g q := fun _ _ => rfl
  have h0 : ∀ o, (locW g (some o))[0]? = some (some o) := fun _ => rfl
  rw [seq_nx (sfldO_ev (x := .int g.marks.2.length) (p' := p) (by simp [locW, mvar]) (h0 _) ⟨rfl, by decide, by decide +kernel⟩)]
  simp only [s0, List.nil_append, List.cons_append]
  unfold b_Web_init_k09_04
  rw [seq_nx (sfldO_ev (x := .tup (g.wb.first.map dS)) (p' := p) (by simp [wA V p]) (h0 _) ⟨rfl, by decide, by decide +kernel⟩)]
  simp only [s0, List.nil_append, List.cons_append]
  unfold b_Web_init_k09_05
  rw [seq_nx (sfldO_ev (x := .tup (g.wb.second.map dS)) (p' := p) (by simp [wB V p]) (h0 _) ⟨rfl, by decide, by decide +kernel⟩)]
  simp only [s0, List.nil_append, List.cons_append]
  unfold b_Web_init_k09_06
  rw [seq_nx (sfldO_ev (x := .tup (g.wb.marks.map .int)) (p' := p) (by simp [locW, mvar, Wg.wb]) (h0 _) ⟨rfl, by decide, by decide +kernel⟩)]
  simp only [s0, List.nil_append, List.cons_append]
  unfold b_Web_init_k09_07
  rw [seq_nx (sfldO_ev (x := .tup (g.wb.dues.map dDue)) (p' := p) (by simp [wD V p]) (h0 _) ⟨rfl, by decide, by decide +kernel⟩)]
  simp only [s0, List.nil_append, List.cons_append]
  unfold b_Web_init_k09_08
  rw [seq_nx (sfldO_ev (x := .tup ((rngD 0 g.marks.2.length).filter fun d => !moves g.wb d)) (p' := p) (by simp [wE V p]) (h0 _) ⟨rfl, by decide, by decide +kernel⟩)]
  simp only [s0, List.nil_append, List.cons_append]
  unfold b_Web_init_k09_09
  rw [seq_nx (sfldO_ev (x := .tup ((rngD 0 g.marks.2.length).filter fun d => moves g.wb d)) (p' := p) (by simp [wM V p]) (h0 _) ⟨rfl, by decide, by decide +kernel⟩)]
  simp only [s0, List.nil_append, List.cons_append]
  unfold b_Web_init_k09_10
  rw [seq_nx (sfldO_ev (x := gdD g.wb) (p' := p) (by simp [wG V p, wgd V]) (h0 _) ⟨rfl, by decide, by decide +kernel⟩)]
  simp only [s0, List.nil_append, List.cons_append]
  unfold b_Web_init_k09_11
  rw [sfldO_ev (x := .bl (evB g.wb)) (p' := p) (by
    have b1 : (("_first" : Str) == "_size") = false := by decide +kernel
    have b2 : (("_second" : Str) == "_size") = false := by decide +kernel
    have b3 : (("_second" : Str) == "_first") = false := by decide +kernel
    simp [mfldO, h0, List.lookup, b1, b2, b3, even_ev]) (h0 _) ⟨rfl, by decide, by decide +kernel⟩]
  simp only [s0, List.nil_append, List.cons_append]
  unfold outI
  simp [wnames, wfields, Wg.wb, locW]
end
theorem D_Web_init_k09_len (A : CA) : ∀ ds pot, D_Web_init_k09 A ds pot ≠ .bad → ds.length + 1 = 5 := fun ds pot h => by
  unfold D_Web_init_k09 at h
  split at h
  · rename_i z
    obtain ⟨g, _, rfl⟩ := z
    rfl
  · exact absurd rfl h
theorem D_Web_init_k09_is (A : CA) : ∀ x ds pot, ds.length + 1 = 5 → D_Web_init_k09 A ds pot ≠ .bad → denI x A.Web 5 9 (dn_Web_init_k09 A) ds pot = D_Web_init_k09 A ds pot := fun x ds pot _ h => by
  unfold D_Web_init_k09 at h ⊢
  split
  · rename_i z
    obtain ⟨V, e⟩ := Classical.choose_spec z
    have q := initG_eval V x A pot
    rw [← e] at q
    exact q
  · rename_i z
    rw [dif_neg z] at h
    exact absurd rfl h
theorem Web_init_ev {g : Wg} (V : ValidG g.wb) (A : CA) (p : List Int) : D_Web_init_k09 A (encG g) p = .ok (wnames, wfields g.wb) p := by
  have hz : ∃ g', ValidG (Wg.wb g') ∧ encG g = encG g' := ⟨g, V, rfl⟩
  have h : D_Web_init_k09 A (encG g) p ≠ .bad := by
    unfold D_Web_init_k09
    rw [dif_pos hz]
    exact fun z => nomatch z
  rw [← D_Web_init_k09_is A 0 (encG g) p rfl h]
  exact initG_eval V 0 A p
theorem Valid.g {wb : Wb} (V : Valid wb) : ValidG wb := ⟨V.n1, V.n2, V.l1, V.l2, V.l3, fun ss h => ⟨by have := (V.s1 ss h).1; omega, (V.s1 ss h).2⟩, fun ss h => ⟨by have := (V.s2 ss h).1; omega, (V.s2 ss h).2⟩, V.both, V.mks, fun d h b x e => by have := V.du d h b x e; omega⟩
end PL
namespace K56
open PySem L2 Den PL
noncomputable section
variable {c : Cfg} {P : Program} {w : World} {mg : Str → Option Value} {base : Heap} {A : Adr}
theorem ok_is_integer (T : Txt c mg A) : FnR P w c.K mg base (L2.CX P w) 1 A.is_integer (spD c (D_is_integer)) :=
  fn_ss (N := Nn_is_integer) (ps := ["thing"]) (s := dn_is_integer) T.F_is_integer sc_is_integer (T.F_is_integer.binds (ps := ["thing"]) fun _ _ _ _ _ _ us hl => match us, hl with | [_], _ => rfl) fun cdv A_ outer sh H E' hr => ⟨(tRet (tAndV (tCB (rIsi c.K) (tCons (tVar 0) (tCons (tC (V.ty "int")) tNil))) (tNotV (tCB (rIsi c.K) (tCons (tVar 0) (tCons (tC (V.ty "bool")) tNil)))))),
    (pss_one (ps_ret (pe_and (pe_callB call_isi (by rfl) T.n_isinstance (by decide +kernel) (pa_cons (pv 0) (pa_cons (pe_bltn (v := V.ty "int") (by rfl) T.n_int (by decide +kernel) rfl) pa_nil))) (pe_one (pe_not (pe_callB call_isi (by rfl) T.n_isinstance (by decide +kernel) (pa_cons (pv 0) (pa_cons (pe_bltn (v := V.ty "bool") (by rfl) T.n_bool (by decide +kernel) rfl) pa_nil)))))))),
    (ss_ret (se_and (se_cb sn_is1 (sa_cons se_var (sa_cons (se_c fun _ _ => At.ty Ty.int) sa_nil))) (se_not (se_cb sn_is1 (sa_cons se_var (sa_cons (se_c fun _ _ => At.ty Ty.bl) sa_nil))))))⟩
theorem ok_check_whole (T : Txt c mg A) : FnR P w c.K mg base (L2.CX P w) 2 A.check_whole (spD c (D_check_whole)) :=
  fn_star_ss (N := Nn_check_whole) (pv := "things") (s := dn_check_whole) T.F_check_whole sc_check_whole (fun _ _ _ _ _ _ rest => by cases rest <;> rfl) fun cdv A_ outer sh H E' hr => ⟨(tFor (iTup c.K (tVar 0)) (gName 1) (tIfS (tNot (fun σ H Q => (tCallS (spD c D_is_integer) (fun _ => E') (tCons (tVar 1) tNil)) σ H fun x H' => ∃ k, TruV c.K x H' k ∧ Q k H')) (fun _ σ H => E' (Value.ref (c.ec 0)) none H) tNext)),
    (pss_one (ps_for (passes_of rfl) rfl (pi_tup (pv 0)) (pg_name (i := 1) sc_check_whole.nd rfl (by first | exact Or.inl rfl | exact Or.inr rfl)) (pss_one (ps_if (pt_not (pt_truth (pe_callRS (ok_is_integer T) (hr.mono (by decide)) (by rfl) T.m_is_integer T.F_is_integer.kp (passE (takes_of rfl rfl rfl rfl)) (pa_cons (pv 1) pa_nil)) (by intro _; rfl))) (pss_one (ps_raise rfl (takes_of rfl rfl rfl rfl) (pmk_own PySem.F.excBase_Exception T.xE0 T.mE0 T.kE0 (raises_own T.bE0 T.tE0) (by exact rfl)))) pss_nil)))),
    (ss_for (si_tup se_var) sg_name (ss_if (st_not (st_tru (se_call (sa_cons se_var sa_nil)))) (ss_raise (n := 0)) ss_next))⟩
theorem ok_whole_list (T : Txt c mg A) : FnR P w c.K mg base (L2.CX P w) 3 A.whole_list (spD c (D_whole_list)) :=
  fn_ss (N := Nn_whole_list) (ps := ["thing"]) (s := dn_whole_list) T.F_whole_list sc_whole_list (T.F_whole_list.binds (ps := ["thing"]) fun _ _ _ _ _ _ us hl => match us, hl with | [_], _ => rfl) fun cdv A_ outer sh H E' hr => ⟨(tSeq (tIfS (tNot (fun σ H Q => (tCB (rIsiT c.K) (tCons (tVar 0) (tCons (tTup (tCons (tC (V.ty "list")) (tCons (tC (V.ty "tuple")) tNil))) tNil))) σ H fun x H' => ∃ k, TruV c.K x H' k ∧ Q k H')) (fun _ σ H => E' (Value.ref (c.ec 0)) none H) tNext)
    (tSeq (tDrop (tCallStar c.K (spD c D_check_whole) (fun _ => E') (tVar 0)))
    (tRet (tCB (rTupleF c.K) (tCons (tVar 0) tNil))))),
    (pss_cons (ps_if (pt_not (pt_truth (pe_callB call_isiT (by rfl) T.n_isinstance (by decide +kernel) (pa_cons (pv 0) (pa_cons (pe_tup (pa_cons (pe_bltn (v := V.ty "list") (by rfl) T.n_list (by decide +kernel) rfl) (pa_cons (pe_bltn (v := V.ty "tuple") (by rfl) T.n_tuple (by decide +kernel) rfl) pa_nil))) pa_nil))) (by intro _; rfl))) (pss_one (ps_raise rfl (takes_of rfl rfl rfl rfl) (pmk_own PySem.F.excBase_Exception T.xE0 T.mE0 T.kE0 (raises_own T.bE0 T.tE0) (by exact rfl)))) pss_nil)
    (pss_cons (ps_expr (pe_callStar (ok_check_whole T) (hr.mono (by decide)) T.F_check_whole.kp (by rfl) T.m_check_whole (passE (takes_of rfl rfl rfl rfl)) (pv 0)))
    (pss_one (ps_ret (pe_callTy call_tuple_of (by rfl) T.n_tuple (by decide +kernel) (pa_cons (pv 0) pa_nil)))))),
    (ss_seq (ss_if (st_not (st_tru (se_cb sn_is2 (sa_cons se_var (sa_cons (se_tup (sa_cons (se_c fun _ _ => At.ty Ty.lst) (sa_cons (se_c fun _ _ => At.ty Ty.tup) sa_nil))) sa_nil))))) (ss_raise (n := 0)) ss_next)
    (ss_seq (ss_drop (se_star se_var))
    (ss_ret (se_cb sn_tuple (sa_cons se_var sa_nil)))))⟩
theorem ok_check_size (T : Txt c mg A) : FnR P w c.K mg base (L2.CX P w) 1 A.check_size (spD c (D_check_size)) :=
  fn_ss (N := Nn_check_size) (ps := ["row", "size"]) (s := dn_check_size) T.F_check_size sc_check_size (T.F_check_size.binds (ps := ["row", "size"]) fun _ _ _ _ _ _ us hl => match us, hl with | [_, _], _ => rfl) fun cdv A_ outer sh H E' hr => ⟨(tIfS (tTest (tOp rNe (tCB (rLenS c.K) (tCons (tVar 0) tNil)) (tVar 1))) (fun _ σ H => E' (Value.ref (c.ec 1)) none H) tNext),
    (pss_one (ps_if (pt_cmpR op_ne (pe_callB call_len_seq (by rfl) T.n_len (by decide +kernel) (pa_cons (pv 0) pa_nil)) (pv 1) (nomark _)) (pss_one (ps_raise rfl (takes_of rfl rfl rfl rfl) (pmk_own PySem.F.excBase_Exception T.xE1 T.mE1 T.kE1 (raises_own T.bE1 T.tE1) (by exact rfl)))) pss_nil)),
    (ss_if (st_test (se_op2 s2_ne (se_cb sn_len (sa_cons se_var sa_nil)) se_var)) (ss_raise (n := 1)) ss_next)⟩
theorem ok_check_range (T : Txt c mg A) : FnR P w c.K mg base (L2.CX P w) 1 A.check_range (spD c (D_check_range)) :=
  fn_ss (N := Nn_check_range) (ps := ["number", "least", "most"]) (s := dn_check_range) T.F_check_range sc_check_range (T.F_check_range.binds (ps := ["number", "least", "most"]) fun _ _ _ _ _ _ us hl => match us, hl with | [_, _, _], _ => rfl) fun cdv A_ outer sh H E' hr => ⟨(tIfS (tOr (tTest (tOp (rI0 fun i j => V.bl (decide (i < j))) (tVar 0) (tVar 1))) (tTest (tOp (rI0 fun i j => V.bl (decide (j < i))) (tVar 0) (tVar 2)))) (fun _ σ H => E' (Value.ref (c.ec 1)) none H) tNext),
    (pss_one (ps_if (PW.pt (pw_or (pt_cmpR op_lt (pv 0) (pv 1) (nomark _)) (pw_or1 (pt_cmpR op_gt (pv 0) (pv 2) (nomark _))))) (pss_one (ps_raise rfl (takes_of rfl rfl rfl rfl) (pmk_own PySem.F.excBase_Exception T.xE1 T.mE1 T.kE1 (raises_own T.bE1 T.tE1) (by exact rfl)))) pss_nil)),
    (ss_if (st_or (st_test (se_op2 s2_lt se_var se_var)) (st_test (se_op2 s2_gt se_var se_var))) (ss_raise (n := 1)) ss_next)⟩
theorem ok_check_least (T : Txt c mg A) : FnR P w c.K mg base (L2.CX P w) 1 A.check_least (spD c (D_check_least)) :=
  fn_ss (N := Nn_check_least) (ps := ["number", "least"]) (s := dn_check_least) T.F_check_least sc_check_least (T.F_check_least.binds (ps := ["number", "least"]) fun _ _ _ _ _ _ us hl => match us, hl with | [_, _], _ => rfl) fun cdv A_ outer sh H E' hr => ⟨(tIfS (tTest (tOp (rI0 fun i j => V.bl (decide (i < j))) (tVar 0) (tVar 1))) (fun _ σ H => E' (Value.ref (c.ec 1)) none H) tNext),
    (pss_one (ps_if (pt_cmpR op_lt (pv 0) (pv 1) (nomark _)) (pss_one (ps_raise rfl (takes_of rfl rfl rfl rfl) (pmk_own PySem.F.excBase_Exception T.xE1 T.mE1 T.kE1 (raises_own T.bE1 T.tE1) (by exact rfl)))) pss_nil)),
    (ss_if (st_test (se_op2 s2_lt se_var se_var)) (ss_raise (n := 1)) ss_next)⟩
theorem ok_check_one_or_two (T : Txt c mg A) : FnR P w c.K mg base (L2.CX P w) 1 A.check_one_or_two (spD c (D_check_one_or_two)) :=
  fn_ss (N := Nn_check_one_or_two) (ps := ["number"]) (s := dn_check_one_or_two) T.F_check_one_or_two sc_check_one_or_two (T.F_check_one_or_two.binds (ps := ["number"]) fun _ _ _ _ _ _ us hl => match us, hl with | [_], _ => rfl) fun cdv A_ outer sh H E' hr => ⟨(tIfS (tTest (tOp (rIn c.K true) (tVar 0) (tTup (tCons (tC (V.int 1)) (tCons (tC (V.int 2)) tNil))))) (fun _ σ H => E' (Value.ref (c.ec 1)) none H) tNext),
    (pss_one (ps_if (pt_cmpR op_notIn_seq (pv 0) (pe_tup (pa_cons pe_int (pa_cons pe_int pa_nil))) rfl) (pss_one (ps_raise rfl (takes_of rfl rfl rfl rfl) (pmk_own PySem.F.excBase_Exception T.xE1 T.mE1 T.kE1 (raises_own T.bE1 T.tE1) (by exact rfl)))) pss_nil)),
    (ss_if (st_test (se_op2 s2_in se_var (se_tup (sa_cons se_int (sa_cons se_int sa_nil))))) (ss_raise (n := 1)) ss_next)⟩
theorem ok_check_most (T : Txt c mg A) : FnR P w c.K mg base (L2.CX P w) 1 A.check_most (spD c (D_check_most)) :=
  fn_ss (N := Nn_check_most) (ps := ["number", "most"]) (s := dn_check_most) T.F_check_most sc_check_most (T.F_check_most.binds (ps := ["number", "most"]) fun _ _ _ _ _ _ us hl => match us, hl with | [_, _], _ => rfl) fun cdv A_ outer sh H E' hr => ⟨(tIfS (tTest (tOp (rI0 fun i j => V.bl (decide (j < i))) (tVar 0) (tVar 1))) (fun _ σ H => E' (Value.ref (c.ec 3)) none H) tNext),
    (pss_one (ps_if (pt_cmpR op_gt (pv 0) (pv 1) (nomark _)) (pss_one (ps_raise rfl (takes_of rfl rfl rfl rfl) (pmk_own PySem.F.excBase_Exception T.xE3 T.mE3 T.kE3 (raises_own T.bE3 T.tE3) (by exact rfl)))) pss_nil)),
    (ss_if (st_test (se_op2 s2_gt se_var se_var)) (ss_raise (n := 3)) ss_next)⟩
theorem ok_as_stands (T : Txt c mg A) : FnR P w c.K mg base (L2.CX P w) 4 A.as_stands (spD c (D_as_stands)) :=
  fn_ss (N := Nn_as_stands) (ps := ["thing", "size"]) (s := dn_as_stands) T.F_as_stands sc_as_stands (T.F_as_stands.binds (ps := ["thing", "size"]) fun _ _ _ _ _ _ us hl => match us, hl with | [_, _], _ => rfl) fun cdv A_ outer sh H E' hr => ⟨(tSeq (tAsg (tCallS (spD c D_whole_list) (fun _ => E') (tCons (tVar 0) tNil)) (gName 2))
    (tSeq (tFor (iTup c.K (tVar 2)) (gName 3) (tDrop (tCallS (spD c D_check_range) (fun _ => E') (tCons (tVar 3) (tCons (tC (V.int 0)) (tCons (tOp (rI0 fun i j => V.int (i - j)) (tVar 1) (tC (V.int 1))) tNil))))))
    (tRet (tCB (rTupleF c.K) (tCons (tCB (rSortedSet w) (tCons (tCB (rSetI c.K w) (tCons (tVar 2) tNil)) tNil)) tNil))))),
    (pss_cons (ps_asg (pe_callRS (ok_whole_list T) (hr.mono (by decide)) (by rfl) T.m_whole_list T.F_whole_list.kp (passE (takes_of rfl rfl rfl rfl)) (pa_cons (pv 0) pa_nil)) (pg_name (i := 2) sc_as_stands.nd rfl (by first | exact Or.inl rfl | exact Or.inr rfl)))
    (pss_cons (ps_for (passes_of rfl) rfl (pi_tup (pv 2)) (pg_name (i := 3) sc_as_stands.nd rfl (by first | exact Or.inl rfl | exact Or.inr rfl)) (pss_one (ps_expr (pe_callRS (ok_check_range T) (hr.mono (by decide)) (by rfl) T.m_check_range T.F_check_range.kp (passE (takes_of rfl rfl rfl rfl)) (pa_cons (pv 3) (pa_cons pe_int (pa_cons (pe_op op_sub (pv 1) pe_int) pa_nil)))))))
    (pss_one (ps_ret (pe_callTy call_tuple_of (by rfl) T.n_tuple (by decide +kernel) (pa_cons (pe_callB (cr_sortedSet rfl) (by rfl) T.n_sorted (by decide +kernel) (pa_cons (pe_callTy (cr_setI rfl) (by rfl) T.n_set (by decide +kernel) (pa_cons (pv 2) pa_nil)) pa_nil)) pa_nil)))))),
    (ss_seq (ss_asg (se_call (sa_cons se_var sa_nil)) sg_name)
    (ss_seq (ss_for (si_tup se_var) sg_name (ss_drop (se_call (sa_cons se_var (sa_cons se_int (sa_cons (se_op2 s2_sub se_var se_int) sa_nil))))))
    (ss_ret (se_cb sn_tuple (sa_cons (se_sortSet se_var) sa_nil)))))⟩
theorem ok_is_due (T : Txt c mg A) : FnR P w c.K mg base (L2.CX P w) 2 A.is_due (spD c (D_is_due)) :=
  fn_ss (N := Nn_is_due) (ps := ["due"]) (s := dn_is_due) T.F_is_due sc_is_due (T.F_is_due.binds (ps := ["due"]) fun _ _ _ _ _ _ us hl => match us, hl with | [_], _ => rfl) fun cdv A_ outer sh H E' hr => ⟨(tSeq (tIfS (tTest (tOp rIsNF (tVar 0) (tC V.non))) (tRet (tC (V.bl true))) tNext)
    (tSeq (tIfS (tOr (tNot (fun σ H Q => (tCB (rIsiT c.K) (tCons (tVar 0) (tCons (tTup (tCons (tC (V.ty "list")) (tCons (tC (V.ty "tuple")) tNil))) tNil))) σ H fun x H' => ∃ k, TruV c.K x H' k ∧ Q k H')) (tTest (tOp rNe (tCB (rLenS c.K) (tCons (tVar 0) tNil)) (tC (V.int 2))))) (tRet (tC (V.bl false))) tNext)
    (tRet (tAndV (tCB (rIsi c.K) (tCons (tOp (rIx c.K) (tVar 0) (tC (V.int 0))) (tCons (tC (V.ty "str")) tNil))) (tCallS (spD c D_is_integer) (fun _ => E') (tCons (tOp (rIx c.K) (tVar 0) (tC (V.int 1))) tNil)))))),
    (pss_cons (ps_if (pt_cmpR op_isN (pv 0) pe_non (nomark _)) (pss_one (ps_ret pe_bl)) pss_nil)
    (pss_cons (ps_if (PW.pt (pw_or (pt_not (pt_truth (pe_callB call_isiT (by rfl) T.n_isinstance (by decide +kernel) (pa_cons (pv 0) (pa_cons (pe_tup (pa_cons (pe_bltn (v := V.ty "list") (by rfl) T.n_list (by decide +kernel) rfl) (pa_cons (pe_bltn (v := V.ty "tuple") (by rfl) T.n_tuple (by decide +kernel) rfl) pa_nil))) pa_nil))) (by intro _; rfl))) (pw_or1 (pt_cmpR op_ne (pe_callB call_len_seq (by rfl) T.n_len (by decide +kernel) (pa_cons (pv 0) pa_nil)) pe_int (nomark _))))) (pss_one (ps_ret pe_bl)) pss_nil)
    (pss_one (ps_ret (pe_and (pe_callB call_isi (by rfl) T.n_isinstance (by decide +kernel) (pa_cons (pe_ix ix_seq (pv 0) pe_int (fun _ _ => rfl)) (pa_cons (pe_bltn (v := V.ty "str") (by rfl) T.n_str (by decide +kernel) rfl) pa_nil))) (pe_one (pe_callRS (ok_is_integer T) (hr.mono (by decide)) (by rfl) T.m_is_integer T.F_is_integer.kp (passE (takes_of rfl rfl rfl rfl)) (pa_cons (pe_ix ix_seq (pv 0) pe_int (fun _ _ => rfl)) pa_nil)))))))),
    (ss_seq (ss_if (st_test (se_op2 s2_isN se_var se_non)) (ss_ret se_bl) ss_next)
    (ss_seq (ss_if (st_or (st_not (st_tru (se_cb sn_is2 (sa_cons se_var (sa_cons (se_tup (sa_cons (se_c fun _ _ => At.ty Ty.lst) (sa_cons (se_c fun _ _ => At.ty Ty.tup) sa_nil))) sa_nil))))) (st_test (se_op2 s2_ne (se_cb sn_len (sa_cons se_var sa_nil)) se_int))) (ss_ret se_bl) ss_next)
    (ss_ret (se_and (se_cb sn_is1 (sa_cons (se_op2 s2_ix se_var se_int) (sa_cons (se_c fun _ _ => At.ty Ty.str) sa_nil))) (se_call (sa_cons (se_op2 s2_ix se_var se_int) sa_nil))))))⟩
theorem ok_due_in_range (T : Txt c mg A) : FnR P w c.K mg base (L2.CX P w) 1 A.due_in_range (spD c (D_due_in_range)) :=
  fn_ss (N := Nn_due_in_range) (ps := ["due"]) (s := dn_due_in_range) T.F_due_in_range sc_due_in_range (T.F_due_in_range.binds (ps := ["due"]) fun _ _ _ _ _ _ us hl => match us, hl with | [_], _ => rfl) fun cdv A_ outer sh H E' hr => ⟨(tRet (tOrV (tOp rIsNF (tVar 0) (tC V.non)) (tAndV (tOp (rIn c.K false) (tOp (rIx c.K) (tVar 0) (tC (V.int 0))) (tTup (tCons (tC (V.str "chips")) (tCons (tC (V.str "less")) tNil)))) (tOp (rI0 fun i j => V.bl (decide (j ≤ i))) (tOp (rIx c.K) (tVar 0) (tC (V.int 1))) (tC (V.int 0)))))),
    (pss_one (ps_ret (pe_or (pe_cmpR op_isN (pv 0) pe_non (nomark _)) (pe_one (pe_and (pe_cmpR op_in_seq (pe_ix ix_seq (pv 0) pe_int (fun _ _ => rfl)) (pe_tup (pa_cons pe_str (pa_cons pe_str pa_nil))) rfl) (pe_one (pe_cmpR op_ge (pe_ix ix_seq (pv 0) pe_int (fun _ _ => rfl)) pe_int (nomark _)))))))),
    (ss_ret (se_or (se_op2 s2_isN se_var se_non) (se_and (se_op2 s2_in (se_op2 s2_ix se_var se_int) (se_tup (sa_cons se_str (sa_cons se_str sa_nil)))) (se_op2 s2_ge (se_op2 s2_ix se_var se_int) se_int))))⟩
theorem ok_due_too_great (T : Txt c mg A) : FnR P w c.K mg base (L2.CX P w) 1 A.due_too_great (spD c (D_due_too_great)) :=
  fn_ss (N := Nn_due_too_great) (ps := ["due"]) (s := dn_due_too_great) T.F_due_too_great sc_due_too_great (T.F_due_too_great.binds (ps := ["due"]) fun _ _ _ _ _ _ us hl => match us, hl with | [_], _ => rfl) fun cdv A_ outer sh H E' hr => ⟨(tRet (tAndV (tOp rNotNF (tVar 0) (tC V.non)) (tOp (rI0 fun i j => V.bl (decide (j < i))) (tOp (rIx c.K) (tVar 0) (tC (V.int 1))) (tC (V.int 10000000000000000000000000000000000000000))))),
    (pss_one (ps_ret (pe_and (pe_cmpR op_notN (pv 0) pe_non (nomark _)) (pe_one (pe_cmpR op_gt (pe_ix ix_seq (pv 0) pe_int (fun _ _ => rfl)) (pe_gint (by rfl) T.c_GREATEST) (nomark _)))))),
    (ss_ret (se_and (se_op2 s2_notN se_var se_non) (se_op2 s2_gt (se_op2 s2_ix se_var se_int) se_int)))⟩
theorem ok_check_due (T : Txt c mg A) : FnR P w c.K mg base (L2.CX P w) 3 A.check_due (spD c (D_check_due)) :=
  fn_ss (N := Nn_check_due) (ps := ["due"]) (s := dn_check_due) T.F_check_due sc_check_due (T.F_check_due.binds (ps := ["due"]) fun _ _ _ _ _ _ us hl => match us, hl with | [_], _ => rfl) fun cdv A_ outer sh H E' hr => ⟨(tIfS (tNot (fun σ H Q => (tCallS (spD c D_is_due) (fun _ => E') (tCons (tVar 0) tNil)) σ H fun x H' => ∃ k, TruV c.K x H' k ∧ Q k H')) (fun _ σ H => E' (Value.ref (c.ec 0)) none H) tNext),
    (pss_one (ps_if (pt_not (pt_truth (pe_callRS (ok_is_due T) (hr.mono (by decide)) (by rfl) T.m_is_due T.F_is_due.kp (passE (takes_of rfl rfl rfl rfl)) (pa_cons (pv 0) pa_nil)) (by intro _; rfl))) (pss_one (ps_raise rfl (takes_of rfl rfl rfl rfl) (pmk_own PySem.F.excBase_Exception T.xE0 T.mE0 T.kE0 (raises_own T.bE0 T.tE0) (by exact rfl)))) pss_nil)),
    (ss_if (st_not (st_tru (se_call (sa_cons se_var sa_nil)))) (ss_raise (n := 0)) ss_next)⟩
theorem ok_check_due_range (T : Txt c mg A) : FnR P w c.K mg base (L2.CX P w) 2 A.check_due_range (spD c (D_check_due_range)) :=
  fn_ss (N := Nn_check_due_range) (ps := ["due"]) (s := dn_check_due_range) T.F_check_due_range sc_check_due_range (T.F_check_due_range.binds (ps := ["due"]) fun _ _ _ _ _ _ us hl => match us, hl with | [_], _ => rfl) fun cdv A_ outer sh H E' hr => ⟨(tIfS (tNot (fun σ H Q => (tCallS (spD c D_due_in_range) (fun _ => E') (tCons (tVar 0) tNil)) σ H fun x H' => ∃ k, TruV c.K x H' k ∧ Q k H')) (fun _ σ H => E' (Value.ref (c.ec 1)) none H) tNext),
    (pss_one (ps_if (pt_not (pt_truth (pe_callRS (ok_due_in_range T) (hr.mono (by decide)) (by rfl) T.m_due_in_range T.F_due_in_range.kp (passE (takes_of rfl rfl rfl rfl)) (pa_cons (pv 0) pa_nil)) (by intro _; rfl))) (pss_one (ps_raise rfl (takes_of rfl rfl rfl rfl) (pmk_own PySem.F.excBase_Exception T.xE1 T.mE1 T.kE1 (raises_own T.bE1 T.tE1) (by exact rfl)))) pss_nil)),
    (ss_if (st_not (st_tru (se_call (sa_cons se_var sa_nil)))) (ss_raise (n := 1)) ss_next)⟩
theorem ok_check_due_size (T : Txt c mg A) : FnR P w c.K mg base (L2.CX P w) 2 A.check_due_size (spD c (D_check_due_size)) :=
  fn_ss (N := Nn_check_due_size) (ps := ["due"]) (s := dn_check_due_size) T.F_check_due_size sc_check_due_size (T.F_check_due_size.binds (ps := ["due"]) fun _ _ _ _ _ _ us hl => match us, hl with | [_], _ => rfl) fun cdv A_ outer sh H E' hr => ⟨(tIfS (fun σ H Q => (tCallS (spD c D_due_too_great) (fun _ => E') (tCons (tVar 0) tNil)) σ H fun x H' => ∃ k, TruV c.K x H' k ∧ Q k H') (fun _ σ H => E' (Value.ref (c.ec 3)) none H) tNext),
    (pss_one (ps_if (pt_truth (pe_callRS (ok_due_too_great T) (hr.mono (by decide)) (by rfl) T.m_due_too_great T.F_due_too_great.kp (passE (takes_of rfl rfl rfl rfl)) (pa_cons (pv 0) pa_nil)) (by intro _; rfl)) (pss_one (ps_raise rfl (takes_of rfl rfl rfl rfl) (pmk_own PySem.F.excBase_Exception T.xE3 T.mE3 T.kE3 (raises_own T.bE3 T.tE3) (by exact rfl)))) pss_nil)),
    (ss_if (st_tru (se_call (sa_cons se_var sa_nil))) (ss_raise (n := 3)) ss_next)⟩
theorem ok_due_at (T : Txt c mg A) : FnR P w c.K mg base (L2.CX P w) 1 A.due_at (spD c (D_due_at)) :=
  fn_ss (N := Nn_due_at) (ps := ["due", "k"]) (s := dn_due_at) T.F_due_at sc_due_at (T.F_due_at.binds (ps := ["due", "k"]) fun _ _ _ _ _ _ us hl => match us, hl with | [_, _], _ => rfl) fun cdv A_ outer sh H E' hr => ⟨(tSeq (tIfS (tTest (tOp rIsNF (tVar 0) (tC V.non))) (tRet (tOp (rI0 fun i j => V.int (i + j)) (tVar 1) (tC (V.int 1)))) tNext)
    (tSeq (tIfS (tTest (tOp rEq (tOp (rIx c.K) (tVar 0) (tC (V.int 0))) (tC (V.str "chips")))) (tRet (tCB rMin2F (tCons (tOp (rIx c.K) (tVar 0) (tC (V.int 1))) (tCons (tOp (rI0 fun i j => V.int (i + j)) (tVar 1) (tC (V.int 1))) tNil)))) tNext)
    (tRet (tCB rMax2F (tCons (tC (V.int 0)) (tCons (tOp (rI0 fun i j => V.int (i - j)) (tOp (rI0 fun i j => V.int (i + j)) (tVar 1) (tC (V.int 1))) (tOp (rIx c.K) (tVar 0) (tC (V.int 1)))) tNil)))))),
    (pss_cons (ps_if (pt_cmpR op_isN (pv 0) pe_non (nomark _)) (pss_one (ps_ret (pe_op op_add (pv 1) pe_int))) pss_nil)
    (pss_cons (ps_if (pt_cmpR op_eq (pe_ix ix_seq (pv 0) pe_int (fun _ _ => rfl)) pe_str (nomark _)) (pss_one (ps_ret (pe_callB (call_min2 rfl) (by rfl) T.n_min (by decide +kernel) (pa_cons (pe_ix ix_seq (pv 0) pe_int (fun _ _ => rfl)) (pa_cons (pe_op op_add (pv 1) pe_int) pa_nil))))) pss_nil)
    (pss_one (ps_ret (pe_callB (call_max2 rfl) (by rfl) T.n_max (by decide +kernel) (pa_cons pe_int (pa_cons (pe_op op_sub (pe_op op_add (pv 1) pe_int) (pe_ix ix_seq (pv 0) pe_int (fun _ _ => rfl))) pa_nil))))))),
    (ss_seq (ss_if (st_test (se_op2 s2_isN se_var se_non)) (ss_ret (se_op2 s2_add se_var se_int)) ss_next)
    (ss_seq (ss_if (st_test (se_op2 s2_eq (se_op2 s2_ix se_var se_int) se_str)) (ss_ret (se_cb sn_min2 (sa_cons (se_op2 s2_ix se_var se_int) (sa_cons (se_op2 s2_add se_var se_int) sa_nil)))) ss_next)
    (ss_ret (se_cb sn_max2 (sa_cons se_int (sa_cons (se_op2 s2_sub (se_op2 s2_add se_var se_int) (se_op2 s2_ix se_var se_int)) sa_nil))))))⟩
theorem ok_due_number (T : Txt c mg A) : FnR P w c.K mg base (L2.CX P w) 4 A.due_number (spD c (D_due_number)) :=
  fn_ss (N := Nn_due_number) (ps := ["due", "k"]) (s := dn_due_number) T.F_due_number sc_due_number (T.F_due_number.binds (ps := ["due", "k"]) fun _ _ _ _ _ _ us hl => match us, hl with | [_, _], _ => rfl) fun cdv A_ outer sh H E' hr => ⟨(tSeq (tDrop (tCallS (spD c D_check_due) (fun _ => E') (tCons (tVar 0) tNil)))
    (tSeq (tDrop (tCallS (spD c D_check_whole) (fun _ => E') (tCons (tVar 1) tNil)))
    (tSeq (tDrop (tCallS (spD c D_check_due_range) (fun _ => E') (tCons (tVar 0) tNil)))
    (tSeq (tDrop (tCallS (spD c D_check_least) (fun _ => E') (tCons (tVar 1) (tCons (tC (V.int 0)) tNil))))
    (tSeq (tDrop (tCallS (spD c D_check_due_size) (fun _ => E') (tCons (tVar 0) tNil)))
    (tRet (tCallS (spD c D_due_at) (fun _ => E') (tCons (tVar 0) (tCons (tVar 1) tNil))))))))),
    (pss_cons (ps_expr (pe_callRS (ok_check_due T) (hr.mono (by decide)) (by rfl) T.m_check_due T.F_check_due.kp (passE (takes_of rfl rfl rfl rfl)) (pa_cons (pv 0) pa_nil)))
    (pss_cons (ps_expr (pe_callRS (ok_check_whole T) (hr.mono (by decide)) (by rfl) T.m_check_whole T.F_check_whole.kp (passE (takes_of rfl rfl rfl rfl)) (pa_cons (pv 1) pa_nil)))
    (pss_cons (ps_expr (pe_callRS (ok_check_due_range T) (hr.mono (by decide)) (by rfl) T.m_check_due_range T.F_check_due_range.kp (passE (takes_of rfl rfl rfl rfl)) (pa_cons (pv 0) pa_nil)))
    (pss_cons (ps_expr (pe_callRS (ok_check_least T) (hr.mono (by decide)) (by rfl) T.m_check_least T.F_check_least.kp (passE (takes_of rfl rfl rfl rfl)) (pa_cons (pv 1) (pa_cons pe_int pa_nil))))
    (pss_cons (ps_expr (pe_callRS (ok_check_due_size T) (hr.mono (by decide)) (by rfl) T.m_check_due_size T.F_check_due_size.kp (passE (takes_of rfl rfl rfl rfl)) (pa_cons (pv 0) pa_nil)))
    (pss_one (ps_ret (pe_callRS (ok_due_at T) (hr.mono (by decide)) (by rfl) T.m_due_at T.F_due_at.kp (passE (takes_of rfl rfl rfl rfl)) (pa_cons (pv 0) (pa_cons (pv 1) pa_nil)))))))))),
    (ss_seq (ss_drop (se_call (sa_cons se_var sa_nil)))
    (ss_seq (ss_drop (se_call (sa_cons se_var sa_nil)))
    (ss_seq (ss_drop (se_call (sa_cons se_var sa_nil)))
    (ss_seq (ss_drop (se_call (sa_cons se_var (sa_cons se_int sa_nil))))
    (ss_seq (ss_drop (se_call (sa_cons se_var sa_nil)))
    (ss_ret (se_call (sa_cons se_var (sa_cons se_var sa_nil)))))))))⟩
theorem ok_check_kinds (T : Txt c mg A) : FnR P w c.K mg base (L2.CX P w) 4 A.check_kinds (spD c (D_check_kinds_k09)) :=
  fn_ss (N := Nn_check_kinds) (ps := ["first", "second", "marks", "dues"]) (s := dn_check_kinds_k09) T.F_check_kinds sc_check_kinds (T.F_check_kinds.binds (ps := ["first", "second", "marks", "dues"]) fun _ _ _ _ _ _ us hl => match us, hl with | [_, _, _, _], _ => rfl) fun cdv A_ outer sh H E' hr => ⟨(tSeq (tFor (iTup c.K (tTup (tCons (tVar 0) (tCons (tVar 1) (tCons (tVar 3) tNil))))) (gName 4) (tIfS (tNot (fun σ H Q => (tCB (rIsiT c.K) (tCons (tVar 4) (tCons (tTup (tCons (tC (V.ty "list")) (tCons (tC (V.ty "tuple")) tNil))) tNil))) σ H fun x H' => ∃ k, TruV c.K x H' k ∧ Q k H')) (fun _ σ H => E' (Value.ref (c.ec 0)) none H) tNext))
    (tSeq (tFor (iTup c.K (tTup (StX.tStar c.K (tVar 0) (StX.tStar c.K (tVar 1) (tCons (tVar 2) tNil))))) (gName 4) (tDrop (tCallS (spD c D_whole_list) (fun _ => E') (tCons (tVar 4) tNil))))
    (tFor (iSeq c.K (tVar 3)) (gName 5) (tDrop (tCallS (spD c D_check_due) (fun _ => E') (tCons (tVar 5) tNil)))))),
    (pss_cons (ps_for (passes_of rfl) rfl (pi_tup (pe_tup (pa_cons (pv 0) (pa_cons (pv 1) (pa_cons (pv 3) pa_nil))))) (pg_name (i := 4) sc_check_kinds.nd rfl (by first | exact Or.inl rfl | exact Or.inr rfl)) (pss_one (ps_if (pt_not (pt_truth (pe_callB call_isiT (by rfl) T.n_isinstance (by decide +kernel) (pa_cons (pv 4) (pa_cons (pe_tup (pa_cons (pe_bltn (v := V.ty "list") (by rfl) T.n_list (by decide +kernel) rfl) (pa_cons (pe_bltn (v := V.ty "tuple") (by rfl) T.n_tuple (by decide +kernel) rfl) pa_nil))) pa_nil))) (by intro _; rfl))) (pss_one (ps_raise rfl (takes_of rfl rfl rfl rfl) (pmk_own PySem.F.excBase_Exception T.xE0 T.mE0 T.kE0 (raises_own T.bE0 T.tE0) (by exact rfl)))) pss_nil)))
    (pss_cons (ps_for (passes_of rfl) rfl (pi_tup (pe_tup (StX.pa_star (pv 0) (StX.pa_star (pv 1) (pa_cons (pv 2) pa_nil))))) (pg_name (i := 4) sc_check_kinds.nd rfl (by first | exact Or.inl rfl | exact Or.inr rfl)) (pss_one (ps_expr (pe_callRS (ok_whole_list T) (hr.mono (by decide)) (by rfl) T.m_whole_list T.F_whole_list.kp (passE (takes_of rfl rfl rfl rfl)) (pa_cons (pv 4) pa_nil)))))
    (pss_one (ps_for (passes_of rfl) rfl (pi_seq (pv 3)) (pg_name (i := 5) sc_check_kinds.nd rfl (by first | exact Or.inl rfl | exact Or.inr rfl)) (pss_one (ps_expr (pe_callRS (ok_check_due T) (hr.mono (by decide)) (by rfl) T.m_check_due T.F_check_due.kp (passE (takes_of rfl rfl rfl rfl)) (pa_cons (pv 5) pa_nil)))))))),
    (ss_seq (ss_for (si_tup (se_tup (sa_cons se_var (sa_cons se_var (sa_cons se_var sa_nil))))) sg_name (ss_if (st_not (st_tru (se_cb sn_is2 (sa_cons se_var (sa_cons (se_tup (sa_cons (se_c fun _ _ => At.ty Ty.lst) (sa_cons (se_c fun _ _ => At.ty Ty.tup) sa_nil))) sa_nil))))) (ss_raise (n := 0)) ss_next))
    (ss_seq (ss_for (si_tup (se_tup (sa_star se_var (sa_star se_var (sa_cons se_var sa_nil))))) sg_name (ss_drop (se_call (sa_cons se_var sa_nil))))
    (ss_for (si_seq se_var) sg_name (ss_drop (se_call (sa_cons se_var sa_nil))))))⟩
theorem ok_check_steps (T : Txt c mg A) : FnR P w c.K mg base (L2.CX P w) 1 A.check_steps (spD c (D_check_steps_k09)) :=
  fn_ss (N := Nn_check_steps) (ps := ["first", "second"]) (s := dn_check_steps_k09) T.F_check_steps sc_check_steps (T.F_check_steps.binds (ps := ["first", "second"]) fun _ _ _ _ _ _ us hl => match us, hl with | [_, _], _ => rfl) fun cdv A_ outer sh H E' hr => ⟨(tFor (iEnumS c.K (tCons (tVar 0) tNil)) (gTup c.K 2 (gCons (gName 2) (gCons (gName 3) gNil))) (tSeq (tFor (iTup c.K (tTup (StX.tStar c.K (tVar 3) (StX.tStar c.K (tOp (rIx c.K) (tVar 1) (tVar 2)) tNil)))) (gName 4) (tIfS (tOr (tTest (tOp (rI0 fun i j => V.bl (decide (i < j))) (tVar 4) (tC (V.int 0)))) (tTest (tOp (rI0 fun i j => V.bl (decide (j ≤ i))) (tVar 4) (tCB (rLenS c.K) (tCons (tVar 0) tNil))))) (fun _ σ H => E' (Value.ref (c.ec 2)) none H) tNext))
    (tIfS (tTest (tOp rNe (tCB (rBoolS c.K) (tCons (tVar 3) tNil)) (tCB (rBoolS c.K) (tCons (tOp (rIx c.K) (tVar 1) (tVar 2)) tNil)))) (fun _ σ H => E' (Value.ref (c.ec 2)) none H) tNext))),
    (pss_one (ps_for (passes_of rfl) rfl (pi_enumS (by rfl) T.n_enumerate (pa_cons (pv 0) pa_nil)) (pg_tup rfl (pgs_cons (pg_name (i := 2) sc_check_steps.nd rfl (by first | exact Or.inl rfl | exact Or.inr rfl)) (pgs_cons (pg_name (i := 3) sc_check_steps.nd rfl (by first | exact Or.inl rfl | exact Or.inr rfl)) pgs_nil))) (pss_cons (ps_for (passes_of rfl) rfl (pi_tup (pe_tup (StX.pa_star (pv 3) (StX.pa_star (pe_ix ix_seq (pv 1) (pv 2) (fun _ _ => rfl)) pa_nil)))) (pg_name (i := 4) sc_check_steps.nd rfl (by first | exact Or.inl rfl | exact Or.inr rfl)) (pss_one (ps_if (PW.pt (pw_or (pt_cmpR op_lt (pv 4) pe_int (nomark _)) (pw_or1 (pt_cmpR op_ge (pv 4) (pe_callB call_len_seq (by rfl) T.n_len (by decide +kernel) (pa_cons (pv 0) pa_nil)) (nomark _))))) (pss_one (ps_raise rfl (takes_of rfl rfl rfl rfl) (pmk_own PySem.F.excBase_Exception T.xE2 T.mE2 T.kE2 (raises_own T.bE2 T.tE2) (by exact rfl)))) pss_nil)))
    (pss_one (ps_if (pt_cmpR op_ne (pe_callTy call_boolS (by rfl) T.n_bool (by decide +kernel) (pa_cons (pv 3) pa_nil)) (pe_callTy call_boolS (by rfl) T.n_bool (by decide +kernel) (pa_cons (pe_ix ix_seq (pv 1) (pv 2) (fun _ _ => rfl)) pa_nil)) (nomark _)) (pss_one (ps_raise rfl (takes_of rfl rfl rfl rfl) (pmk_own PySem.F.excBase_Exception T.xE2 T.mE2 T.kE2 (raises_own T.bE2 T.tE2) (by exact rfl)))) pss_nil))))),
    (ss_for (si_enumS (sa_cons se_var sa_nil)) sg_pair (ss_seq (ss_for (si_tup (se_tup (sa_star se_var (sa_star (se_op2 s2_ix se_var se_var) sa_nil)))) sg_name (ss_if (st_or (st_test (se_op2 s2_lt se_var se_int)) (st_test (se_op2 s2_ge se_var (se_cb sn_len (sa_cons se_var sa_nil))))) (ss_raise (n := 2)) ss_next))
    (ss_if (st_test (se_op2 s2_ne (se_cb sn_boolS (sa_cons se_var sa_nil)) (se_cb sn_boolS (sa_cons (se_op2 s2_ix se_var se_var) sa_nil)))) (ss_raise (n := 2)) ss_next)))⟩
theorem ok_check_parts (T : Txt c mg A) : FnR P w c.K mg base (L2.CX P w) 5 A.check_parts (spD c (D_check_parts_k09)) :=
  fn_ss (N := Nn_check_parts) (ps := ["first", "second", "marks", "dues"]) (s := dn_check_parts_k09) T.F_check_parts sc_check_parts (T.F_check_parts.binds (ps := ["first", "second", "marks", "dues"]) fun _ _ _ _ _ _ us hl => match us, hl with | [_, _, _, _], _ => rfl) fun cdv A_ outer sh H E' hr => ⟨(tSeq (tDrop (tCallS (spD c D_check_kinds_k09) (fun _ => E') (tCons (tVar 0) (tCons (tVar 1) (tCons (tVar 2) (tCons (tVar 3) tNil))))))
    (tSeq (tAsg (tCB (rLenS c.K) (tCons (tVar 2) tNil)) (gName 4))
    (tSeq (tIfS (tOr (tTest (tOp rEq (tVar 4) (tC (V.int 0)))) (tTest (tOp (rNeD c.K) (tLst (tCons (tCB (rLenS c.K) (tCons (tVar 0) tNil)) (tCons (tCB (rLenS c.K) (tCons (tVar 1) tNil)) (tCons (tCB (rLenS c.K) (tCons (tVar 3) tNil)) tNil)))) (tOp rRep (tLst (tCons (tVar 4) tNil)) (tC (V.int 3)))))) (fun _ σ H => E' (Value.ref (c.ec 2)) none H) tNext)
    (tSeq (tDrop (tCallS (spD c D_check_steps_k09) (fun _ => E') (tCons (tVar 0) (tCons (tVar 1) tNil))))
    (tSeq (tFor (iSeq c.K (tVar 2)) (gName 5) (tIfS (tTest (tOp (rIn c.K true) (tVar 5) (tTup (tCons (tC (V.int 1)) (tCons (tC (V.int 2)) tNil))))) (fun _ σ H => E' (Value.ref (c.ec 2)) none H) tNext))
    (tSeq (tFor (iSeq c.K (tVar 3)) (gName 6) (tIfS (tNot (fun σ H Q => (tCallS (spD c D_due_in_range) (fun _ => E') (tCons (tVar 6) tNil)) σ H fun x H' => ∃ k, TruV c.K x H' k ∧ Q k H')) (fun _ σ H => E' (Value.ref (c.ec 2)) none H) tNext))
    (tSeq (tDrop (tCallS (spD c D_check_most) (fun _ => E') (tCons (tVar 4) (tCons (tC (V.int 60)) tNil))))
    (tFor (iSeq c.K (tVar 3)) (gName 6) (tIfS (fun σ H Q => (tCallS (spD c D_due_too_great) (fun _ => E') (tCons (tVar 6) tNil)) σ H fun x H' => ∃ k, TruV c.K x H' k ∧ Q k H') (fun _ σ H => E' (Value.ref (c.ec 3)) none H) tNext))))))))),
    (pss_cons (ps_expr (pe_callRS (ok_check_kinds T) (hr.mono (by decide)) (by rfl) T.m_check_kinds T.F_check_kinds.kp (passE (takes_of rfl rfl rfl rfl)) (pa_cons (pv 0) (pa_cons (pv 1) (pa_cons (pv 2) (pa_cons (pv 3) pa_nil))))))
    (pss_cons (ps_asg (pe_callB call_len_seq (by rfl) T.n_len (by decide +kernel) (pa_cons (pv 2) pa_nil)) (pg_name (i := 4) sc_check_parts.nd rfl (by first | exact Or.inl rfl | exact Or.inr rfl)))
    (pss_cons (ps_if (PW.pt (pw_or (pt_cmpR op_eq (pv 4) pe_int (nomark _)) (pw_or1 (pt_cmpR (op_neD (hr.units)) (pe_lst (pa_cons (pe_callB call_len_seq (by rfl) T.n_len (by decide +kernel) (pa_cons (pv 0) pa_nil)) (pa_cons (pe_callB call_len_seq (by rfl) T.n_len (by decide +kernel) (pa_cons (pv 1) pa_nil)) (pa_cons (pe_callB call_len_seq (by rfl) T.n_len (by decide +kernel) (pa_cons (pv 3) pa_nil)) pa_nil)))) (pe_op op_rep (pe_lst (pa_cons (pv 4) pa_nil)) pe_int) (nomark _))))) (pss_one (ps_raise rfl (takes_of rfl rfl rfl rfl) (pmk_own PySem.F.excBase_Exception T.xE2 T.mE2 T.kE2 (raises_own T.bE2 T.tE2) (by exact rfl)))) pss_nil)
    (pss_cons (ps_expr (pe_callRS (ok_check_steps T) (hr.mono (by decide)) (by rfl) T.m_check_steps T.F_check_steps.kp (passE (takes_of rfl rfl rfl rfl)) (pa_cons (pv 0) (pa_cons (pv 1) pa_nil))))
    (pss_cons (ps_for (passes_of rfl) rfl (pi_seq (pv 2)) (pg_name (i := 5) sc_check_parts.nd rfl (by first | exact Or.inl rfl | exact Or.inr rfl)) (pss_one (ps_if (pt_cmpR op_notIn_seq (pv 5) (pe_tup (pa_cons pe_int (pa_cons pe_int pa_nil))) rfl) (pss_one (ps_raise rfl (takes_of rfl rfl rfl rfl) (pmk_own PySem.F.excBase_Exception T.xE2 T.mE2 T.kE2 (raises_own T.bE2 T.tE2) (by exact rfl)))) pss_nil)))
    (pss_cons (ps_for (passes_of rfl) rfl (pi_seq (pv 3)) (pg_name (i := 6) sc_check_parts.nd rfl (by first | exact Or.inl rfl | exact Or.inr rfl)) (pss_one (ps_if (pt_not (pt_truth (pe_callRS (ok_due_in_range T) (hr.mono (by decide)) (by rfl) T.m_due_in_range T.F_due_in_range.kp (passE (takes_of rfl rfl rfl rfl)) (pa_cons (pv 6) pa_nil)) (by intro _; rfl))) (pss_one (ps_raise rfl (takes_of rfl rfl rfl rfl) (pmk_own PySem.F.excBase_Exception T.xE2 T.mE2 T.kE2 (raises_own T.bE2 T.tE2) (by exact rfl)))) pss_nil)))
    (pss_cons (ps_expr (pe_callRS (ok_check_most T) (hr.mono (by decide)) (by rfl) T.m_check_most T.F_check_most.kp (passE (takes_of rfl rfl rfl rfl)) (pa_cons (pv 4) (pa_cons (pe_gint (by rfl) T.c_MOST_STANDS) pa_nil))))
    (pss_one (ps_for (passes_of rfl) rfl (pi_seq (pv 3)) (pg_name (i := 6) sc_check_parts.nd rfl (by first | exact Or.inl rfl | exact Or.inr rfl)) (pss_one (ps_if (pt_truth (pe_callRS (ok_due_too_great T) (hr.mono (by decide)) (by rfl) T.m_due_too_great T.F_due_too_great.kp (passE (takes_of rfl rfl rfl rfl)) (pa_cons (pv 6) pa_nil)) (by intro _; rfl)) (pss_one (ps_raise rfl (takes_of rfl rfl rfl rfl) (pmk_own PySem.F.excBase_Exception T.xE3 T.mE3 T.kE3 (raises_own T.bE3 T.tE3) (by exact rfl)))) pss_nil))))))))))),
    (ss_seq (ss_drop (se_call (sa_cons se_var (sa_cons se_var (sa_cons se_var (sa_cons se_var sa_nil))))))
    (ss_seq (ss_asg (se_cb sn_len (sa_cons se_var sa_nil)) sg_name)
    (ss_seq (ss_if (st_or (st_test (se_op2 s2_eq se_var se_int)) (st_test (se_op2 s2_neD (se_new (sen_lst (sa_cons (se_cb sn_len (sa_cons se_var sa_nil)) (sa_cons (se_cb sn_len (sa_cons se_var sa_nil)) (sa_cons (se_cb sn_len (sa_cons se_var sa_nil)) sa_nil))))) (se_op2 s2_rep (se_new (sen_lst (sa_cons se_var sa_nil))) se_int)))) (ss_raise (n := 2)) ss_next)
    (ss_seq (ss_drop (se_call (sa_cons se_var (sa_cons se_var sa_nil))))
    (ss_seq (ss_for (si_seq se_var) sg_name (ss_if (st_test (se_op2 s2_in se_var (se_tup (sa_cons se_int (sa_cons se_int sa_nil))))) (ss_raise (n := 2)) ss_next))
    (ss_seq (ss_for (si_seq se_var) sg_name (ss_if (st_not (st_tru (se_call (sa_cons se_var sa_nil)))) (ss_raise (n := 2)) ss_next))
    (ss_seq (ss_drop (se_call (sa_cons se_var (sa_cons se_int sa_nil))))
    (ss_for (si_seq se_var) sg_name (ss_if (st_tru (se_call (sa_cons se_var sa_nil))) (ss_raise (n := 3)) ss_next)))))))))⟩
theorem ok_Web_init (T : Txt c mg A) : FnR P w c.K mg base (L2.CX P w) 6 A.Web_init (spI c A.ca.Web (D_Web_init_k09 A.ca)) :=
  init_ss (N := Nn_Web_init) (s := dn_Web_init_k09 A.ca) T.F_Web_init sc_Web_init (T.F_Web_init.binds (ps := ["self", "first", "second", "marks", "dues"]) fun _ _ _ _ _ _ us hl => match us, hl with | [_, _, _, _, _], _ => rfl) (D_Web_init_k09_is A.ca) (D_Web_init_k09_len A.ca) fun cdv A_ outer sh H E' hr => ⟨(tSeq (tDrop (tCallS (spD c D_check_parts_k09) (fun _ => E') (tCons (tVar 1) (tCons (tVar 2) (tCons (tVar 3) (tCons (tVar 4) tNil))))))
    (tSeq (tAsg (tCB (rLenS c.K) (tCons (tVar 3) tNil)) (gName 5))
    (tSeq (sFld c.K (tVar 0) (tVar 5) "_size")
    (tSeq (sFld c.K (tVar 0) (tCB (rTupleF c.K) (tCons (tLc (iSeq c.K (tVar 1)) (gName 6) tYes (tCallS (spD c D_as_stands) (fun _ => L2.E0) (tCons (tVar 6) (tCons (tVar 5) tNil))) [6]) tNil)) "_first")
    (tSeq (sFld c.K (tVar 0) (tCB (rTupleF c.K) (tCons (tLc (iSeq c.K (tVar 2)) (gName 6) tYes (tCallS (spD c D_as_stands) (fun _ => L2.E0) (tCons (tVar 6) (tCons (tVar 5) tNil))) [6]) tNil)) "_second")
    (tSeq (sFld c.K (tVar 0) (tCB (rTupleF c.K) (tCons (tVar 3) tNil)) "_marks")
    (tSeq (sFld c.K (tVar 0) (tCB (rTupleF c.K) (tCons (tLc (iSeq c.K (tVar 4)) (gName 7) tYes (tIf (tTest (tOp rIsNF (tVar 7) (tC V.non))) (tC V.non) (tCB (rTupleF c.K) (tCons (tVar 7) tNil))) [7]) tNil)) "_dues")
    (tSeq (sFld c.K (tVar 0) (tCB (rTupleF c.K) (tCons (tLc (iRng1 (tCons (tVar 5) tNil)) (gName 8) (tNot (fun σ H Q => (tOp (rIx c.K) (tVar 1) (tVar 8)) σ H fun x H' => ∃ k, TruV c.K x H' k ∧ Q k H')) (tVar 8) [8]) tNil)) "_ends")
    (tSeq (sFld c.K (tVar 0) (tCB (rTupleF c.K) (tCons (tLc (iRng1 (tCons (tVar 5) tNil)) (gName 8) (fun σ H Q => (tOp (rIx c.K) (tVar 1) (tVar 8)) σ H fun x H' => ∃ k, TruV c.K x H' k ∧ Q k H') (tVar 8) [8]) tNil)) "_moving")
    (tSeq (sFld c.K (tVar 0) (tCB (rMax c.K) (tCons (tLc (iSeq c.K (tVar 4)) (gName 7) tYes (tIf (tTest (tOp rIsNF (tVar 7) (tC V.non))) (tC (V.int 0)) (tOp (rIx c.K) (tVar 7) (tC (V.int 1)))) [7]) tNil)) "_greatest_due")
    (sFld c.K (tVar 0) (tOp (rEqD c.K) (tFld c.K (tVar 0) "_first") (tFld c.K (tVar 0) "_second")) "_even"))))))))))),
    (pss_cons (ps_expr (pe_callRS (ok_check_parts T) (hr.mono (by decide)) (by rfl) T.m_check_parts T.F_check_parts.kp (passE (takes_of rfl rfl rfl rfl)) (pa_cons (pv 1) (pa_cons (pv 2) (pa_cons (pv 3) (pa_cons (pv 4) pa_nil))))))
    (pss_cons (ps_asg (pe_callB call_len_seq (by rfl) T.n_len (by decide +kernel) (pa_cons (pv 3) pa_nil)) (pg_name (i := 5) sc_Web_init.nd rfl (by first | exact Or.inl rfl | exact Or.inr rfl)))
    (pss_cons (ps_fld (pv 0) (pv 5) rfl)
    (pss_cons (ps_fld (pv 0) (pe_callTy call_tuple_of (by rfl) T.n_tuple (by decide +kernel) (pa_cons (pe_lc (own := [("steps", 6)]) (g := gName 6) (wi := (iSeq c.K (tVar 1))) (tt := tYes) (te := (tCallS (spD c D_as_stands) (fun _ => L2.E0) (tCons (tVar 6) (tCons (tVar 5) tNil)))) rfl sc_Web_init.nd (pi_seq (pv 1)) (blkOk_by (N := Nn_Web_init) (sc := defScope s_Web_init) (by decide +kernel)) (fun _ _ _ _ _ => pg_name (i := 6) sc_Web_init.nd rfl (by first | exact Or.inl rfl | exact Or.inr rfl)) (fun _ _ _ _ _ => pts_nil) (fun _ _ _ _ _ => (pe_callRS (ok_as_stands T) (hr.mono (by decide)) (by rfl) T.m_as_stands T.F_as_stands.kp passNo (pa_cons (pv 6) (pa_cons (pv 5) pa_nil))))) pa_nil)) rfl)
    (pss_cons (ps_fld (pv 0) (pe_callTy call_tuple_of (by rfl) T.n_tuple (by decide +kernel) (pa_cons (pe_lc (own := [("steps", 6)]) (g := gName 6) (wi := (iSeq c.K (tVar 2))) (tt := tYes) (te := (tCallS (spD c D_as_stands) (fun _ => L2.E0) (tCons (tVar 6) (tCons (tVar 5) tNil)))) rfl sc_Web_init.nd (pi_seq (pv 2)) (blkOk_by (N := Nn_Web_init) (sc := defScope s_Web_init) (by decide +kernel)) (fun _ _ _ _ _ => pg_name (i := 6) sc_Web_init.nd rfl (by first | exact Or.inl rfl | exact Or.inr rfl)) (fun _ _ _ _ _ => pts_nil) (fun _ _ _ _ _ => (pe_callRS (ok_as_stands T) (hr.mono (by decide)) (by rfl) T.m_as_stands T.F_as_stands.kp passNo (pa_cons (pv 6) (pa_cons (pv 5) pa_nil))))) pa_nil)) rfl)
    (pss_cons (ps_fld (pv 0) (pe_callTy call_tuple_of (by rfl) T.n_tuple (by decide +kernel) (pa_cons (pv 3) pa_nil)) rfl)
    (pss_cons (ps_fld (pv 0) (pe_callTy call_tuple_of (by rfl) T.n_tuple (by decide +kernel) (pa_cons (pe_lc (own := [("due", 7)]) (g := gName 7) (wi := (iSeq c.K (tVar 4))) (tt := tYes) (te := (tIf (tTest (tOp rIsNF (tVar 7) (tC V.non))) (tC V.non) (tCB (rTupleF c.K) (tCons (tVar 7) tNil)))) rfl sc_Web_init.nd (pi_seq (pv 4)) (blkOk_by (N := Nn_Web_init) (sc := defScope s_Web_init) (by decide +kernel)) (fun _ _ _ _ _ => pg_name (i := 7) sc_Web_init.nd rfl (by first | exact Or.inl rfl | exact Or.inr rfl)) (fun _ _ _ _ _ => pts_nil) (fun _ _ _ _ _ => (pe_ifExp (pt_cmpR op_isN (pv 7) pe_non (nomark _)) pe_non (pe_callTy call_tuple_of (by rfl) T.n_tuple (by decide +kernel) (pa_cons (pv 7) pa_nil))))) pa_nil)) rfl)
    (pss_cons (ps_fld (pv 0) (pe_callTy call_tuple_of (by rfl) T.n_tuple (by decide +kernel) (pa_cons (pe_lc (own := [("stand", 8)]) (g := gName 8) (wi := (iRng1 (tCons (tVar 5) tNil))) (tt := (tNot (fun σ H Q => (tOp (rIx c.K) (tVar 1) (tVar 8)) σ H fun x H' => ∃ k, TruV c.K x H' k ∧ Q k H'))) (te := (tVar 8)) rfl sc_Web_init.nd (pi_range1 (by rfl) T.n_range (pa_cons (pv 5) pa_nil)) (blkOk_by (N := Nn_Web_init) (sc := defScope s_Web_init) (by decide +kernel)) (fun _ _ _ _ _ => pg_name (i := 8) sc_Web_init.nd rfl (by first | exact Or.inl rfl | exact Or.inr rfl)) (fun _ _ _ _ _ => (pts_one (pt_not (pt_truth (pe_ix ix_seq (pv 1) (pv 8) (fun _ _ => rfl)) (by intro _; rfl))))) (fun _ _ _ _ _ => (pv 8))) pa_nil)) rfl)
    (pss_cons (ps_fld (pv 0) (pe_callTy call_tuple_of (by rfl) T.n_tuple (by decide +kernel) (pa_cons (pe_lc (own := [("stand", 8)]) (g := gName 8) (wi := (iRng1 (tCons (tVar 5) tNil))) (tt := (fun σ H Q => (tOp (rIx c.K) (tVar 1) (tVar 8)) σ H fun x H' => ∃ k, TruV c.K x H' k ∧ Q k H')) (te := (tVar 8)) rfl sc_Web_init.nd (pi_range1 (by rfl) T.n_range (pa_cons (pv 5) pa_nil)) (blkOk_by (N := Nn_Web_init) (sc := defScope s_Web_init) (by decide +kernel)) (fun _ _ _ _ _ => pg_name (i := 8) sc_Web_init.nd rfl (by first | exact Or.inl rfl | exact Or.inr rfl)) (fun _ _ _ _ _ => (pts_one (pt_truth (pe_ix ix_seq (pv 1) (pv 8) (fun _ _ => rfl)) (by intro _; rfl)))) (fun _ _ _ _ _ => (pv 8))) pa_nil)) rfl)
    (pss_cons (ps_fld (pv 0) (pe_callB (cr_max rfl) (by rfl) T.n_max (by decide +kernel) (pa_cons (pe_lc (own := [("due", 7)]) (g := gName 7) (wi := (iSeq c.K (tVar 4))) (tt := tYes) (te := (tIf (tTest (tOp rIsNF (tVar 7) (tC V.non))) (tC (V.int 0)) (tOp (rIx c.K) (tVar 7) (tC (V.int 1))))) rfl sc_Web_init.nd (pi_seq (pv 4)) (blkOk_by (N := Nn_Web_init) (sc := defScope s_Web_init) (by decide +kernel)) (fun _ _ _ _ _ => pg_name (i := 7) sc_Web_init.nd rfl (by first | exact Or.inl rfl | exact Or.inr rfl)) (fun _ _ _ _ _ => pts_nil) (fun _ _ _ _ _ => (pe_ifExp (pt_cmpR op_isN (pv 7) pe_non (nomark _)) pe_int (pe_ix ix_seq (pv 7) pe_int (fun _ _ => rfl))))) pa_nil)) rfl)
    (pss_one (ps_fld (pv 0) (pe_cmpR (op_eqD (hr.units)) (pe_fld (pv 0) rfl) (pe_fld (pv 0) rfl) (nomark _)) rfl)))))))))))),
    (ss_seq (ss_drop (se_call (sa_cons se_var (sa_cons se_var (sa_cons se_var (sa_cons se_var sa_nil))))))
    (ss_seq (ss_asg (se_cb sn_len (sa_cons se_var sa_nil)) sg_name)
    (ss_seq (ss_fldO T.f_Web.cl T.a_Web__size se_var)
    (ss_seq (ss_fldO T.f_Web.cl T.a_Web__first (se_cb sn_tuple (sa_cons (se_new (sen_comp (si_seq se_var) st_true (se_call (sa_cons se_var (sa_cons se_var sa_nil))))) sa_nil)))
    (ss_seq (ss_fldO T.f_Web.cl T.a_Web__second (se_cb sn_tuple (sa_cons (se_new (sen_comp (si_seq se_var) st_true (se_call (sa_cons se_var (sa_cons se_var sa_nil))))) sa_nil)))
    (ss_seq (ss_fldO T.f_Web.cl T.a_Web__marks (se_cb sn_tuple (sa_cons se_var sa_nil)))
    (ss_seq (ss_fldO T.f_Web.cl T.a_Web__dues (se_cb sn_tuple (sa_cons (se_new (sen_comp (si_seq se_var) st_true (se_if (st_test (se_op2 s2_isN se_var se_non)) se_non (se_cb sn_tuple (sa_cons se_var sa_nil))))) sa_nil)))
    (ss_seq (ss_fldO T.f_Web.cl T.a_Web__ends (se_cb sn_tuple (sa_cons (se_new (sen_comp (si_rng1 (sa_cons se_var sa_nil)) (st_not (st_tru (se_op2 s2_ix se_var se_var))) se_var)) sa_nil)))
    (ss_seq (ss_fldO T.f_Web.cl T.a_Web__moving (se_cb sn_tuple (sa_cons (se_new (sen_comp (si_rng1 (sa_cons se_var sa_nil)) (st_tru (se_op2 s2_ix se_var se_var)) se_var)) sa_nil)))
    (ss_seq (ss_fldO T.f_Web.cl T.a_Web__greatest_due (se_cb sn_maxL (sa_cons (se_new (sen_comp (si_seq se_var) st_true (se_if (st_test (se_op2 s2_isN se_var se_non)) se_int (se_op2 s2_ix se_var se_int)))) sa_nil)))
    (ss_fldO T.f_Web.cl T.a_Web__even (se_op2 s2_eqD (se_fldO T.f_Web.cl T.a_Web__first) (se_fldO T.f_Web.cl T.a_Web__second)))))))))))))⟩
theorem ok_check_web (T : Txt c mg A) : FnR P w c.K mg base (L2.CX P w) 1 A.check_web (spD c (D_check_web A.ca)) :=
  fn_ss (N := Nn_check_web) (ps := ["thing"]) (s := dn_check_web A.ca) T.F_check_web sc_check_web (T.F_check_web.binds (ps := ["thing"]) fun _ _ _ _ _ _ us hl => match us, hl with | [_], _ => rfl) fun cdv A_ outer sh H E' hr => ⟨(tIfS (tNot (fun σ H Q => (tCB (rIsi c.K) (tCons (tVar 0) (tCons (tC (V.ref A.ca.Web)) tNil))) σ H fun x H' => ∃ k, TruV c.K x H' k ∧ Q k H')) (fun _ σ H => E' (Value.ref (c.ec 0)) none H) tNext),
    (pss_one (ps_if (pt_not (pt_truth (pe_callB call_isi (by rfl) T.n_isinstance (by decide +kernel) (pa_cons (pv 0) (pa_cons (pe_glob (by rfl) T.m_Web rfl) pa_nil))) (by intro _; rfl))) (pss_one (ps_raise rfl (takes_of rfl rfl rfl rfl) (pmk_own PySem.F.excBase_Exception T.xE0 T.mE0 T.kE0 (raises_own T.bE0 T.tE0) (by exact rfl)))) pss_nil)),
    (ss_if (st_not (st_tru (se_cb (sn_isC T.f_Web) (sa_cons se_var (sa_cons (se_c fun _ _ => At.cls A.ca.Web) sa_nil))))) (ss_raise (n := 0)) ss_next)⟩
theorem ok_check_stand (T : Txt c mg A) : FnR P w c.K mg base (L2.CX P w) 3 A.check_stand (spD c (D_check_stand A.ca)) :=
  fn_ss (N := Nn_check_stand) (ps := ["web", "stand"]) (s := dn_check_stand A.ca) T.F_check_stand sc_check_stand (T.F_check_stand.binds (ps := ["web", "stand"]) fun _ _ _ _ _ _ us hl => match us, hl with | [_, _], _ => rfl) fun cdv A_ outer sh H E' hr => ⟨(tDrop (tCallS (spD c D_check_range) (fun _ => E') (tCons (tVar 1) (tCons (tC (V.int 0)) (tCons (tOp (rI0 fun i j => V.int (i - j)) (tProp A.ca.Web (getSp A.ca.Web "_size") [] L2.E0 (tVar 0)) (tC (V.int 1))) tNil))))),
    (pss_one (ps_expr (pe_callRS (ok_check_range T) (hr.mono (by decide)) (by rfl) T.m_check_range T.F_check_range.kp (passE (takes_of rfl rfl rfl rfl)) (pa_cons (pv 1) (pa_cons pe_int (pa_cons (pe_op op_sub (pe_prop (pv 0) T.f_Web.cl T.p_Web_size (getter_of T.F_Web_size gsc_Web_size rfl rfl T.f_Web.cl T.a_Web__size) (hr.mono (by decide)) (T.F_Web_size.binds (ps := ["self"]) fun _ _ _ _ _ _ us hl => match us, hl with | [_], _ => rfl) .nil passL rfl) pe_int) pa_nil)))))),
    (ss_drop (se_call (sa_cons se_var (sa_cons se_int (sa_cons (se_op2 s2_sub (se_prop se_var) se_int) sa_nil)))))⟩
theorem ok_check_moving (T : Txt c mg A) : FnR P w c.K mg base (L2.CX P w) 3 A.check_moving (spD c (D_check_moving A.ca)) :=
  fn_ss (N := Nn_check_moving) (ps := ["web", "stand"]) (s := dn_check_moving A.ca) T.F_check_moving sc_check_moving (T.F_check_moving.binds (ps := ["web", "stand"]) fun _ _ _ _ _ _ us hl => match us, hl with | [_, _], _ => rfl) fun cdv A_ outer sh H E' hr => ⟨(tIfS (tNot (fun σ H Q => (tOp (rIx c.K) (tProp A.ca.Web (getSp A.ca.Web "_first") [] L2.E0 (tVar 0)) (tVar 1)) σ H fun x H' => ∃ k, TruV c.K x H' k ∧ Q k H')) (fun _ σ H => E' (Value.ref (c.ec 2)) none H) tNext),
    (pss_one (ps_if (pt_not (pt_truth (pe_ix ix_seq (pe_prop (pv 0) T.f_Web.cl T.p_Web_first (getter_of T.F_Web_first gsc_Web_first rfl rfl T.f_Web.cl T.a_Web__first) (hr.mono (by decide)) (T.F_Web_first.binds (ps := ["self"]) fun _ _ _ _ _ _ us hl => match us, hl with | [_], _ => rfl) .nil passL rfl) (pv 1) (fun _ _ => rfl)) (by intro _; rfl))) (pss_one (ps_raise rfl (takes_of rfl rfl rfl rfl) (pmk_own PySem.F.excBase_Exception T.xE2 T.mE2 T.kE2 (raises_own T.bE2 T.tE2) (by exact rfl)))) pss_nil)),
    (ss_if (st_not (st_tru (se_op2 s2_ix (se_prop se_var) se_var))) (ss_raise (n := 2)) ss_next)⟩
theorem ok_check_even (T : Txt c mg A) : FnR P w c.K mg base (L2.CX P w) 3 A.check_even (spD c (D_check_even A.ca)) :=
  fn_ss (N := Nn_check_even) (ps := ["web"]) (s := dn_check_even A.ca) T.F_check_even sc_check_even (T.F_check_even.binds (ps := ["web"]) fun _ _ _ _ _ _ us hl => match us, hl with | [_], _ => rfl) fun cdv A_ outer sh H E' hr => ⟨(tIfS (tNot (fun σ H Q => (tProp A.ca.Web (getSp A.ca.Web "_even") [] L2.E0 (tVar 0)) σ H fun x H' => ∃ k, TruV c.K x H' k ∧ Q k H')) (fun _ σ H => E' (Value.ref (c.ec 2)) none H) tNext),
    (pss_one (ps_if (pt_not (pt_truth (pe_prop (pv 0) T.f_Web.cl T.p_Web_even (getter_of T.F_Web_even gsc_Web_even rfl rfl T.f_Web.cl T.a_Web__even) (hr.mono (by decide)) (T.F_Web_even.binds (ps := ["self"]) fun _ _ _ _ _ _ us hl => match us, hl with | [_], _ => rfl) .nil passL rfl) (by intro _; rfl))) (pss_one (ps_raise rfl (takes_of rfl rfl rfl rfl) (pmk_own PySem.F.excBase_Exception T.xE2 T.mE2 T.kE2 (raises_own T.bE2 T.tE2) (by exact rfl)))) pss_nil)),
    (ss_if (st_not (st_tru (se_prop se_var))) (ss_raise (n := 2)) ss_next)⟩
theorem ok_check_part_range (T : Txt c mg A) : FnR P w c.K mg base (L2.CX P w) 2 A.check_part_range (spD c (D_check_part_range)) :=
  fn_ss (N := Nn_check_part_range) (ps := ["row", "size", "most"]) (s := dn_check_part_range) T.F_check_part_range sc_check_part_range (T.F_check_part_range.binds (ps := ["row", "size", "most"]) fun _ _ _ _ _ _ us hl => match us, hl with | [_, _, _], _ => rfl) fun cdv A_ outer sh H E' hr => ⟨(tSeq (tDrop (tCallS (spD c D_check_size) (fun _ => E') (tCons (tVar 0) (tCons (tVar 1) tNil))))
    (tFor (iSeq c.K (tVar 0)) (gName 3) (tDrop (tCallS (spD c D_check_range) (fun _ => E') (tCons (tVar 3) (tCons (tC (V.int 0)) (tCons (tVar 2) tNil))))))),
    (pss_cons (ps_expr (pe_callRS (ok_check_size T) (hr.mono (by decide)) (by rfl) T.m_check_size T.F_check_size.kp (passE (takes_of rfl rfl rfl rfl)) (pa_cons (pv 0) (pa_cons (pv 1) pa_nil))))
    (pss_one (ps_for (passes_of rfl) rfl (pi_seq (pv 0)) (pg_name (i := 3) sc_check_part_range.nd rfl (by first | exact Or.inl rfl | exact Or.inr rfl)) (pss_one (ps_expr (pe_callRS (ok_check_range T) (hr.mono (by decide)) (by rfl) T.m_check_range T.F_check_range.kp (passE (takes_of rfl rfl rfl rfl)) (pa_cons (pv 3) (pa_cons pe_int (pa_cons (pv 2) pa_nil))))))))),
    (ss_seq (ss_drop (se_call (sa_cons se_var (sa_cons se_var sa_nil))))
    (ss_for (si_seq se_var) sg_name (ss_drop (se_call (sa_cons se_var (sa_cons se_int (sa_cons se_var sa_nil)))))))⟩
theorem ok_low_of (T : Txt c mg A) : FnR P w c.K mg base (L2.CX P w) 3 A.low_of (spD c (D_low_of A.ca)) :=
  fn_ss (N := Nn_low_of) (ps := ["web", "row", "stand"]) (s := dn_low_of A.ca) T.F_low_of sc_low_of (T.F_low_of.binds (ps := ["web", "row", "stand"]) fun _ _ _ _ _ _ us hl => match us, hl with | [_, _, _], _ => rfl) fun cdv A_ outer sh H E' hr => ⟨(tRet (tCB (rMin c.K) (tCons (tLc (iTup c.K (tOp (rIx c.K) (tProp A.ca.Web (getSp A.ca.Web "_first") [] L2.E0 (tVar 0)) (tVar 2))) (gName 3) tYes (tOp (rIx c.K) (tVar 1) (tVar 3)) [3]) tNil))),
    (pss_one (ps_ret (pe_callB (cr_min rfl) (by rfl) T.n_min (by decide +kernel) (pa_cons (pe_lc (own := [("step", 3)]) (g := gName 3) (wi := (iTup c.K (tOp (rIx c.K) (tProp A.ca.Web (getSp A.ca.Web "_first") [] L2.E0 (tVar 0)) (tVar 2)))) (tt := tYes) (te := (tOp (rIx c.K) (tVar 1) (tVar 3))) rfl sc_low_of.nd (pi_tup (pe_ix ix_seq (pe_prop (pv 0) T.f_Web.cl T.p_Web_first (getter_of T.F_Web_first gsc_Web_first rfl rfl T.f_Web.cl T.a_Web__first) (hr.mono (by decide)) (T.F_Web_first.binds (ps := ["self"]) fun _ _ _ _ _ _ us hl => match us, hl with | [_], _ => rfl) .nil passL rfl) (pv 2) (fun _ _ => rfl))) (blkOk_by (N := Nn_low_of) (sc := defScope s_low_of) (by decide +kernel)) (fun _ _ _ _ _ => pg_name (i := 3) sc_low_of.nd rfl (by first | exact Or.inl rfl | exact Or.inr rfl)) (fun _ _ _ _ _ => pts_nil) (fun _ _ _ _ _ => (pe_ix ix_seq (pv 1) (pv 3) (fun _ _ => rfl)))) pa_nil)))),
    (ss_ret (se_cb sn_minL (sa_cons (se_new (sen_comp (si_tup (se_op2 s2_ix (se_prop se_var) se_var)) st_true (se_op2 s2_ix se_var se_var))) sa_nil)))⟩
theorem ok_high_of (T : Txt c mg A) : FnR P w c.K mg base (L2.CX P w) 3 A.high_of (spD c (D_high_of A.ca)) :=
  fn_ss (N := Nn_high_of) (ps := ["web", "row", "stand"]) (s := dn_high_of A.ca) T.F_high_of sc_high_of (T.F_high_of.binds (ps := ["web", "row", "stand"]) fun _ _ _ _ _ _ us hl => match us, hl with | [_, _, _], _ => rfl) fun cdv A_ outer sh H E' hr => ⟨(tRet (tCB (rMax c.K) (tCons (tLc (iTup c.K (tOp (rIx c.K) (tProp A.ca.Web (getSp A.ca.Web "_second") [] L2.E0 (tVar 0)) (tVar 2))) (gName 3) tYes (tOp (rIx c.K) (tVar 1) (tVar 3)) [3]) tNil))),
    (pss_one (ps_ret (pe_callB (cr_max rfl) (by rfl) T.n_max (by decide +kernel) (pa_cons (pe_lc (own := [("step", 3)]) (g := gName 3) (wi := (iTup c.K (tOp (rIx c.K) (tProp A.ca.Web (getSp A.ca.Web "_second") [] L2.E0 (tVar 0)) (tVar 2)))) (tt := tYes) (te := (tOp (rIx c.K) (tVar 1) (tVar 3))) rfl sc_high_of.nd (pi_tup (pe_ix ix_seq (pe_prop (pv 0) T.f_Web.cl T.p_Web_second (getter_of T.F_Web_second gsc_Web_second rfl rfl T.f_Web.cl T.a_Web__second) (hr.mono (by decide)) (T.F_Web_second.binds (ps := ["self"]) fun _ _ _ _ _ _ us hl => match us, hl with | [_], _ => rfl) .nil passL rfl) (pv 2) (fun _ _ => rfl))) (blkOk_by (N := Nn_high_of) (sc := defScope s_high_of) (by decide +kernel)) (fun _ _ _ _ _ => pg_name (i := 3) sc_high_of.nd rfl (by first | exact Or.inl rfl | exact Or.inr rfl)) (fun _ _ _ _ _ => pts_nil) (fun _ _ _ _ _ => (pe_ix ix_seq (pv 1) (pv 3) (fun _ _ => rfl)))) pa_nil)))),
    (ss_ret (se_cb sn_maxL (sa_cons (se_new (sen_comp (si_tup (se_op2 s2_ix (se_prop se_var) se_var)) st_true (se_op2 s2_ix se_var se_var))) sa_nil)))⟩
theorem ok_least_with (T : Txt c mg A) : FnR P w c.K mg base (L2.CX P w) 1 A.least_with (spD c (D_least_with)) :=
  fn_ss (N := Nn_least_with) (ps := ["steps", "row", "part"]) (s := dn_least_with) T.F_least_with sc_least_with (T.F_least_with.binds (ps := ["steps", "row", "part"]) fun _ _ _ _ _ _ us hl => match us, hl with | [_, _, _], _ => rfl) fun cdv A_ outer sh H E' hr => ⟨(tRet (tCB (rMin c.K) (tCons (tLc (iTup c.K (tVar 0)) (gName 3) (tTest (tOp rEq (tOp (rIx c.K) (tVar 1) (tVar 3)) (tVar 2))) (tVar 3) [3]) tNil))),
    (pss_one (ps_ret (pe_callB (cr_min rfl) (by rfl) T.n_min (by decide +kernel) (pa_cons (pe_lc (own := [("step", 3)]) (g := gName 3) (wi := (iTup c.K (tVar 0))) (tt := (tTest (tOp rEq (tOp (rIx c.K) (tVar 1) (tVar 3)) (tVar 2)))) (te := (tVar 3)) rfl sc_least_with.nd (pi_tup (pv 0)) (blkOk_by (N := Nn_least_with) (sc := defScope s_least_with) (by decide +kernel)) (fun _ _ _ _ _ => pg_name (i := 3) sc_least_with.nd rfl (by first | exact Or.inl rfl | exact Or.inr rfl)) (fun _ _ _ _ _ => (pts_one (pt_cmpR op_eq (pe_ix ix_seq (pv 1) (pv 3) (fun _ _ => rfl)) (pv 2) (nomark _)))) (fun _ _ _ _ _ => (pv 3))) pa_nil)))),
    (ss_ret (se_cb sn_minL (sa_cons (se_new (sen_comp (si_tup se_var) (st_test (se_op2 s2_eq (se_op2 s2_ix se_var se_var) se_var)) se_var)) sa_nil)))⟩
theorem ok_token_bought (T : Txt c mg A) : FnR P w c.K mg base (L2.CX P w) 1 A.token_bought (spD c (D_token_bought)) :=
  fn_ss (N := Nn_token_bought) (ps := ["h", "p", "p_takes", "q", "q_takes"]) (s := dn_token_bought) T.F_token_bought sc_token_bought (T.F_token_bought.binds (ps := ["h", "p", "p_takes", "q", "q_takes"]) fun _ _ _ _ _ _ us hl => match us, hl with | [_, _, _, _, _], _ => rfl) fun cdv A_ outer sh H E' hr => ⟨(tSeq (tIfS (tTest (tOp (rI0 fun i j => V.bl (decide (j < i))) (tVar 1) (tVar 3))) (tRet (tTup (tCons (tC (V.int 1)) (tCons (tOp (rI0 fun i j => V.int (i - j)) (tVar 0) (tOp (rI CMul fun i j => V.int (i * j)) (tC (V.int 2)) (tVar 1))) tNil)))) tNext)
    (tSeq (tIfS (tTest (tOp (rI0 fun i j => V.bl (decide (i < j))) (tVar 1) (tVar 3))) (tRet (tTup (tCons (tC (V.int 2)) (tCons (tOp (rI0 fun i j => V.int (i + j)) (tVar 0) (tOp (rI CMul fun i j => V.int (i * j)) (tC (V.int 2)) (tVar 3))) tNil)))) tNext)
    (tSeq (tIfS (tTest (tOp rEq (tOp (rI (fun _ j => 0 < j) fun i j => V.int (i % j)) (tVar 0) (tC (V.int 2))) (tC (V.int 1)))) (tRet (tIf (fun σ H Q => (tVar 2) σ H fun x H' => ∃ k, TruV c.K x H' k ∧ Q k H') (tTup (tCons (tC (V.int 1)) (tCons (tOp (rI0 fun i j => V.int (i - j)) (tOp (rI0 fun i j => V.int (i - j)) (tVar 0) (tOp (rI CMul fun i j => V.int (i * j)) (tC (V.int 2)) (tVar 1))) (tC (V.int 1))) tNil))) (tTup (tCons (tC (V.int 2)) (tCons (tOp (rI0 fun i j => V.int (i + j)) (tVar 0) (tOp (rI CMul fun i j => V.int (i * j)) (tC (V.int 2)) (tVar 3))) tNil))))) tNext)
    (tRet (tIf (fun σ H Q => (tVar 4) σ H fun x H' => ∃ k, TruV c.K x H' k ∧ Q k H') (tTup (tCons (tC (V.int 2)) (tCons (tOp (rI0 fun i j => V.int (i + j)) (tOp (rI0 fun i j => V.int (i + j)) (tVar 0) (tOp (rI CMul fun i j => V.int (i * j)) (tC (V.int 2)) (tVar 3))) (tC (V.int 1))) tNil))) (tTup (tCons (tC (V.int 1)) (tCons (tOp (rI0 fun i j => V.int (i - j)) (tVar 0) (tOp (rI CMul fun i j => V.int (i * j)) (tC (V.int 2)) (tVar 1))) tNil)))))))),
    (pss_cons (ps_if (pt_cmpR op_gt (pv 1) (pv 3) (nomark _)) (pss_one (ps_ret (pe_tup (pa_cons pe_int (pa_cons (pe_op op_sub (pv 0) (pe_op op_mul pe_int (pv 1))) pa_nil))))) pss_nil)
    (pss_cons (ps_if (pt_cmpR op_lt (pv 1) (pv 3) (nomark _)) (pss_one (ps_ret (pe_tup (pa_cons pe_int (pa_cons (pe_op op_add (pv 0) (pe_op op_mul pe_int (pv 3))) pa_nil))))) pss_nil)
    (pss_cons (ps_if (pt_cmpR op_eq (pe_op op_mod (pv 0) pe_int) pe_int (nomark _)) (pss_one (ps_ret (pe_ifExp (pt_truth (pv 2) (by intro _; rfl)) (pe_tup (pa_cons pe_int (pa_cons (pe_op op_sub (pe_op op_sub (pv 0) (pe_op op_mul pe_int (pv 1))) pe_int) pa_nil))) (pe_tup (pa_cons pe_int (pa_cons (pe_op op_add (pv 0) (pe_op op_mul pe_int (pv 3))) pa_nil)))))) pss_nil)
    (pss_one (ps_ret (pe_ifExp (pt_truth (pv 4) (by intro _; rfl)) (pe_tup (pa_cons pe_int (pa_cons (pe_op op_add (pe_op op_add (pv 0) (pe_op op_mul pe_int (pv 3))) pe_int) pa_nil))) (pe_tup (pa_cons pe_int (pa_cons (pe_op op_sub (pv 0) (pe_op op_mul pe_int (pv 1))) pa_nil))))))))),
    (ss_seq (ss_if (st_test (se_op2 s2_gt se_var se_var)) (ss_ret (se_tup (sa_cons se_int (sa_cons (se_op2 s2_sub se_var (se_op2 s2_mul se_int se_var)) sa_nil)))) ss_next)
    (ss_seq (ss_if (st_test (se_op2 s2_lt se_var se_var)) (ss_ret (se_tup (sa_cons se_int (sa_cons (se_op2 s2_add se_var (se_op2 s2_mul se_int se_var)) sa_nil)))) ss_next)
    (ss_seq (ss_if (st_test (se_op2 s2_eq (se_op2 s2_mod se_var se_int) se_int)) (ss_ret (se_if (st_tru se_var) (se_tup (sa_cons se_int (sa_cons (se_op2 s2_sub (se_op2 s2_sub se_var (se_op2 s2_mul se_int se_var)) se_int) sa_nil))) (se_tup (sa_cons se_int (sa_cons (se_op2 s2_add se_var (se_op2 s2_mul se_int se_var)) sa_nil))))) ss_next)
    (ss_ret (se_if (st_tru se_var) (se_tup (sa_cons se_int (sa_cons (se_op2 s2_add (se_op2 s2_add se_var (se_op2 s2_mul se_int se_var)) se_int) sa_nil))) (se_tup (sa_cons se_int (sa_cons (se_op2 s2_sub se_var (se_op2 s2_mul se_int se_var)) sa_nil))))))))⟩
theorem ok_bids_of (T : Txt c mg A) : FnR P w c.K mg base (L2.CX P w) 1 A.bids_of (spD c (D_bids_of)) :=
  fn_ss (N := Nn_bids_of) (ps := ["k", "h", "hand"]) (s := dn_bids_of) T.F_bids_of sc_bids_of (T.F_bids_of.binds (ps := ["k", "h", "hand"]) fun _ _ _ _ _ _ us hl => match us, hl with | [_, _, _], _ => rfl) fun cdv A_ outer sh H E' hr => ⟨(tSeq (tAsg (tIf (tTest (tOp rEq (tVar 2) (tC (V.int 1)))) (tOp (rI CDiv fun i j => V.int (i / j)) (tVar 1) (tC (V.int 2))) (tOp (rI0 fun i j => V.int (i - j)) (tVar 0) (tOp (rI CDiv fun i j => V.int (i / j)) (tVar 1) (tC (V.int 2))))) (gName 3))
    (tSeq (tAsg (tIf (tTest (tOp rEq (tOp (rI (fun _ j => 0 < j) fun i j => V.int (i % j)) (tVar 1) (tC (V.int 2))) (tOp (rI0 fun i j => V.int (i - j)) (tC (V.int 2)) (tVar 2)))) (tTup (tCons (tC (V.bl false)) (tCons (tC (V.bl true)) tNil))) (tTup (tCons (tC (V.bl false)) tNil))) (gName 4))
    (tRet (tLc2 (iRng1 (tCons (tOp (rI0 fun i j => V.int (i + j)) (tVar 3) (tC (V.int 1))) tNil)) (gName 5) tYes (iTup c.K (tVar 4)) (gName 6) tYes (tTup (tCons (tVar 5) (tCons (tVar 6) tNil))) [5, 6] [6])))),
    (pss_cons (ps_asg (pe_ifExp (pt_cmpR op_eq (pv 2) pe_int (nomark _)) (pe_op op_fdiv (pv 1) pe_int) (pe_op op_sub (pv 0) (pe_op op_fdiv (pv 1) pe_int))) (pg_name (i := 3) sc_bids_of.nd rfl (by first | exact Or.inl rfl | exact Or.inr rfl)))
    (pss_cons (ps_asg (pe_ifExp (pt_cmpR op_eq (pe_op op_mod (pv 1) pe_int) (pe_op op_sub pe_int (pv 2)) (nomark _)) (pe_tup (pa_cons pe_bl (pa_cons pe_bl pa_nil))) (pe_tup (pa_cons pe_bl pa_nil))) (pg_name (i := 4) sc_bids_of.nd rfl (by first | exact Or.inl rfl | exact Or.inr rfl)))
    (pss_one (ps_ret (pe_lc2 (own := [("bid", 5), ("taking", 6)]) (vs1 := [6]) (g := gName 5) (g1 := gName 6) (wi := (iRng1 (tCons (tOp (rI0 fun i j => V.int (i + j)) (tVar 3) (tC (V.int 1))) tNil))) (wi1 := (iTup c.K (tVar 4))) (tt := tYes) (tt1 := tYes) (te := (tTup (tCons (tVar 5) (tCons (tVar 6) tNil)))) rfl sc_bids_of.nd (pi_range1 (by rfl) T.n_range (pa_cons (pe_op op_add (pv 3) pe_int) pa_nil)) (blkOk_by (N := Nn_bids_of) (sc := defScope s_bids_of) (by decide +kernel)) (by decide) (fun _ _ _ _ _ => pg_name (i := 5) sc_bids_of.nd rfl (by first | exact Or.inl rfl | exact Or.inr rfl)) (fun _ _ _ _ _ => pts_nil) (fun _ _ _ _ _ => (pi_tup (pv 4))) (fun _ _ _ _ _ => pg_name (i := 6) sc_bids_of.nd rfl (by first | exact Or.inl rfl | exact Or.inr rfl)) (fun _ _ _ _ _ => pts_nil) (fun _ _ _ _ _ => (pe_tup (pa_cons (pv 5) (pa_cons (pv 6) pa_nil))))))))),
    (ss_seq (ss_asg (se_if (st_test (se_op2 s2_eq se_var se_int)) (se_op2 s2_div se_var se_int) (se_op2 s2_sub se_var (se_op2 s2_div se_var se_int))) sg_name)
    (ss_seq (ss_asg (se_if (st_test (se_op2 s2_eq (se_op2 s2_mod se_var se_int) (se_op2 s2_sub se_int se_var))) (se_tup (sa_cons se_bl (sa_cons se_bl sa_nil))) (se_tup (sa_cons se_bl sa_nil))) sg_name)
    (ss_ret (se_new (sen_lc2 (by decide) (si_rng1 (sa_cons (se_op2 s2_add se_var se_int) sa_nil)) (si_tup se_var) (se_tup (sa_cons se_var (sa_cons se_var sa_nil))))))))⟩
theorem ok_first_size (T : Txt c mg A) : FnR P w c.K mg base (L2.CX P w) 1 A.first_size (spD c (D_first_size)) :=
  fn_ss (N := Nn_first_size) (ps := ["high", "h"]) (s := dn_first_size) T.F_first_size sc_first_size (T.F_first_size.binds (ps := ["high", "h"]) fun _ _ _ _ _ _ us hl => match us, hl with | [_, _], _ => rfl) fun cdv A_ outer sh H E' hr => ⟨(tSeq (tIfS (tTest (tOp rEq (tOp (rI (fun _ j => 0 < j) fun i j => V.int (i % j)) (tVar 1) (tC (V.int 2))) (tC (V.int 0)))) (tSeq (tAsg (tCB rMax2F (tCons (tC (V.int 0)) (tCons (tOp (rI0 fun i j => V.int (i - j)) (tOp (rI0 fun i j => V.int (i - j)) (tVar 0) (tVar 1)) (tC (V.int 1))) tNil))) (gName 2))
    (tRet (tOp (rI0 fun i j => V.int (i + j)) (tVar 2) (tOp (rI (fun _ j => 0 < j) fun i j => V.int (i % j)) (tVar 2) (tC (V.int 2)))))) tNext)
    (tSeq (tIfS (tTest (tOp (rI0 fun i j => V.bl (decide (j ≤ i))) (tVar 1) (tVar 0))) (tRet (tC (V.int 0))) tNext)
    (tSeq (tAsg (tOp (rI0 fun i j => V.int (i - j)) (tVar 0) (tVar 1)) (gName 2))
    (tRet (tOp (rI0 fun i j => V.int (i + j)) (tOp (rI0 fun i j => V.int (i - j)) (tVar 2) (tC (V.int 1))) (tOp (rI (fun _ j => 0 < j) fun i j => V.int (i % j)) (tVar 2) (tC (V.int 2)))))))),
    (pss_cons (ps_if (pt_cmpR op_eq (pe_op op_mod (pv 1) pe_int) pe_int (nomark _)) (pss_cons (ps_asg (pe_callB (call_max2 rfl) (by rfl) T.n_max (by decide +kernel) (pa_cons pe_int (pa_cons (pe_op op_sub (pe_op op_sub (pv 0) (pv 1)) pe_int) pa_nil))) (pg_name (i := 2) sc_first_size.nd rfl (by first | exact Or.inl rfl | exact Or.inr rfl)))
    (pss_one (ps_ret (pe_op op_add (pv 2) (pe_op op_mod (pv 2) pe_int))))) pss_nil)
    (pss_cons (ps_if (pt_cmpR op_ge (pv 1) (pv 0) (nomark _)) (pss_one (ps_ret pe_int)) pss_nil)
    (pss_cons (ps_asg (pe_op op_sub (pv 0) (pv 1)) (pg_name (i := 2) sc_first_size.nd rfl (by first | exact Or.inl rfl | exact Or.inr rfl)))
    (pss_one (ps_ret (pe_op op_add (pe_op op_sub (pv 2) pe_int) (pe_op op_mod (pv 2) pe_int))))))),
    (ss_seq (ss_if (st_test (se_op2 s2_eq (se_op2 s2_mod se_var se_int) se_int)) (ss_seq (ss_asg (se_cb sn_max2 (sa_cons se_int (sa_cons (se_op2 s2_sub (se_op2 s2_sub se_var se_var) se_int) sa_nil))) sg_name)
    (ss_ret (se_op2 s2_add se_var (se_op2 s2_mod se_var se_int)))) ss_next)
    (ss_seq (ss_if (st_test (se_op2 s2_ge se_var se_var)) (ss_ret se_int) ss_next)
    (ss_seq (ss_asg (se_op2 s2_sub se_var se_var) sg_name)
    (ss_ret (se_op2 s2_add (se_op2 s2_sub se_var se_int) (se_op2 s2_mod se_var se_int))))))⟩
theorem ok_second_size (T : Txt c mg A) : FnR P w c.K mg base (L2.CX P w) 1 A.second_size (spD c (D_second_size)) :=
  fn_ss (N := Nn_second_size) (ps := ["low", "h"]) (s := dn_second_size) T.F_second_size sc_second_size (T.F_second_size.binds (ps := ["low", "h"]) fun _ _ _ _ _ _ us hl => match us, hl with | [_, _], _ => rfl) fun cdv A_ outer sh H E' hr => ⟨(tSeq (tIfS (tTest (tOp rEq (tOp (rI (fun _ j => 0 < j) fun i j => V.int (i % j)) (tVar 1) (tC (V.int 2))) (tC (V.int 1)))) (tSeq (tAsg (tCB rMax2F (tCons (tC (V.int 0)) (tCons (tOp (rI0 fun i j => V.int (i - j)) (tVar 1) (tVar 0)) tNil))) (gName 2))
    (tRet (tOp (rI0 fun i j => V.int (i + j)) (tVar 2) (tOp (rI (fun _ j => 0 < j) fun i j => V.int (i % j)) (tVar 2) (tC (V.int 2)))))) tNext)
    (tSeq (tIfS (tTest (tOp (rI0 fun i j => V.bl (decide (i < j))) (tVar 1) (tVar 0))) (tRet (tC (V.int 0))) tNext)
    (tSeq (tAsg (tOp (rI0 fun i j => V.int (i - j)) (tVar 1) (tVar 0)) (gName 2))
    (tRet (tOp (rI0 fun i j => V.int (i - j)) (tOp (rI0 fun i j => V.int (i + j)) (tVar 2) (tC (V.int 1))) (tOp (rI (fun _ j => 0 < j) fun i j => V.int (i % j)) (tVar 2) (tC (V.int 2)))))))),
    (pss_cons (ps_if (pt_cmpR op_eq (pe_op op_mod (pv 1) pe_int) pe_int (nomark _)) (pss_cons (ps_asg (pe_callB (call_max2 rfl) (by rfl) T.n_max (by decide +kernel) (pa_cons pe_int (pa_cons (pe_op op_sub (pv 1) (pv 0)) pa_nil))) (pg_name (i := 2) sc_second_size.nd rfl (by first | exact Or.inl rfl | exact Or.inr rfl)))
    (pss_one (ps_ret (pe_op op_add (pv 2) (pe_op op_mod (pv 2) pe_int))))) pss_nil)
    (pss_cons (ps_if (pt_cmpR op_lt (pv 1) (pv 0) (nomark _)) (pss_one (ps_ret pe_int)) pss_nil)
    (pss_cons (ps_asg (pe_op op_sub (pv 1) (pv 0)) (pg_name (i := 2) sc_second_size.nd rfl (by first | exact Or.inl rfl | exact Or.inr rfl)))
    (pss_one (ps_ret (pe_op op_sub (pe_op op_add (pv 2) pe_int) (pe_op op_mod (pv 2) pe_int))))))),
    (ss_seq (ss_if (st_test (se_op2 s2_eq (se_op2 s2_mod se_var se_int) se_int)) (ss_seq (ss_asg (se_cb sn_max2 (sa_cons se_int (sa_cons (se_op2 s2_sub se_var se_var) sa_nil))) sg_name)
    (ss_ret (se_op2 s2_add se_var (se_op2 s2_mod se_var se_int)))) ss_next)
    (ss_seq (ss_if (st_test (se_op2 s2_lt se_var se_var)) (ss_ret se_int) ss_next)
    (ss_seq (ss_asg (se_op2 s2_sub se_var se_var) sg_name)
    (ss_ret (se_op2 s2_sub (se_op2 s2_add se_var se_int) (se_op2 s2_mod se_var se_int))))))⟩
theorem ok_token_first_told (T : Txt c mg A) : FnR P w c.K mg base (L2.CX P w) 4 A.token_first_told (spD c (D_token_first_told A.ca)) :=
  fn_ss (N := Nn_token_first_told) (ps := ["web", "row", "stand", "h"]) (s := dn_token_first_told A.ca) T.F_token_first_told sc_token_first_told (T.F_token_first_told.binds (ps := ["web", "row", "stand", "h"]) fun _ _ _ _ _ _ us hl => match us, hl with | [_, _, _, _], _ => rfl) fun cdv A_ outer sh H E' hr => ⟨(tSeq (tAsg (tCallS (spD c D_first_size) (fun _ => E') (tCons (tCallS (spD c (D_high_of A.ca)) (fun _ => E') (tCons (tVar 0) (tCons (tVar 1) (tCons (tVar 2) tNil)))) (tCons (tVar 3) tNil))) (gName 4))
    (tSeq (tAsg (tCallS (spD c D_least_with) (fun _ => E') (tCons (tOp (rIx c.K) (tProp A.ca.Web (getSp A.ca.Web "_first") [] L2.E0 (tVar 0)) (tVar 2)) (tCons (tVar 1) (tCons (tCallS (spD c (D_low_of A.ca)) (fun _ => E') (tCons (tVar 0) (tCons (tVar 1) (tCons (tVar 2) tNil)))) tNil)))) (gName 5))
    (tRet (tTup (tCons (tCB rMin2F (tCons (tOp (rI CDiv fun i j => V.int (i / j)) (tVar 4) (tC (V.int 2))) (tCons (tOp (rI CDiv fun i j => V.int (i / j)) (tVar 3) (tC (V.int 2))) tNil))) (tCons (tOp rEq (tOp (rI (fun _ j => 0 < j) fun i j => V.int (i % j)) (tVar 4) (tC (V.int 2))) (tC (V.int 1))) (tCons (tVar 5) tNil))))))),
    (pss_cons (ps_asg (pe_callRS (ok_first_size T) (hr.mono (by decide)) (by rfl) T.m_first_size T.F_first_size.kp (passE (takes_of rfl rfl rfl rfl)) (pa_cons (pe_callRS (ok_high_of T) (hr.mono (by decide)) (by rfl) T.m_high_of T.F_high_of.kp (passE (takes_of rfl rfl rfl rfl)) (pa_cons (pv 0) (pa_cons (pv 1) (pa_cons (pv 2) pa_nil)))) (pa_cons (pv 3) pa_nil))) (pg_name (i := 4) sc_token_first_told.nd rfl (by first | exact Or.inl rfl | exact Or.inr rfl)))
    (pss_cons (ps_asg (pe_callRS (ok_least_with T) (hr.mono (by decide)) (by rfl) T.m_least_with T.F_least_with.kp (passE (takes_of rfl rfl rfl rfl)) (pa_cons (pe_ix ix_seq (pe_prop (pv 0) T.f_Web.cl T.p_Web_first (getter_of T.F_Web_first gsc_Web_first rfl rfl T.f_Web.cl T.a_Web__first) (hr.mono (by decide)) (T.F_Web_first.binds (ps := ["self"]) fun _ _ _ _ _ _ us hl => match us, hl with | [_], _ => rfl) .nil passL rfl) (pv 2) (fun _ _ => rfl)) (pa_cons (pv 1) (pa_cons (pe_callRS (ok_low_of T) (hr.mono (by decide)) (by rfl) T.m_low_of T.F_low_of.kp (passE (takes_of rfl rfl rfl rfl)) (pa_cons (pv 0) (pa_cons (pv 1) (pa_cons (pv 2) pa_nil)))) pa_nil)))) (pg_name (i := 5) sc_token_first_told.nd rfl (by first | exact Or.inl rfl | exact Or.inr rfl)))
    (pss_one (ps_ret (pe_tup (pa_cons (pe_callB (call_min2 rfl) (by rfl) T.n_min (by decide +kernel) (pa_cons (pe_op op_fdiv (pv 4) pe_int) (pa_cons (pe_op op_fdiv (pv 3) pe_int) pa_nil))) (pa_cons (pe_cmpR op_eq (pe_op op_mod (pv 4) pe_int) pe_int (nomark _)) (pa_cons (pv 5) pa_nil)))))))),
    (ss_seq (ss_asg (se_call (sa_cons (se_call (sa_cons se_var (sa_cons se_var (sa_cons se_var sa_nil)))) (sa_cons se_var sa_nil))) sg_name)
    (ss_seq (ss_asg (se_call (sa_cons (se_op2 s2_ix (se_prop se_var) se_var) (sa_cons se_var (sa_cons (se_call (sa_cons se_var (sa_cons se_var (sa_cons se_var sa_nil)))) sa_nil)))) sg_name)
    (ss_ret (se_tup (sa_cons (se_cb sn_min2 (sa_cons (se_op2 s2_div se_var se_int) (sa_cons (se_op2 s2_div se_var se_int) sa_nil))) (sa_cons (se_op2 s2_eq (se_op2 s2_mod se_var se_int) se_int) (sa_cons se_var sa_nil)))))))⟩
theorem ok_check_token_kinds (T : Txt c mg A) : FnR P w c.K mg base (L2.CX P w) 4 A.check_token_kinds (spD c (D_check_token_kinds A.ca)) :=
  fn_ss (N := Nn_check_token_kinds) (ps := ["web", "k", "row"]) (s := dn_check_token_kinds A.ca) T.F_check_token_kinds sc_check_token_kinds (T.F_check_token_kinds.binds (ps := ["web", "k", "row"]) fun _ _ _ _ _ _ us hl => match us, hl with | [_, _, _], _ => rfl) fun cdv A_ outer sh H E' hr => ⟨(tSeq (tDrop (tCallS (spD c (D_check_web A.ca)) (fun _ => E') (tCons (tVar 0) tNil)))
    (tSeq (tDrop (tCallS (spD c D_check_whole) (fun _ => E') (tCons (tVar 1) tNil)))
    (tDrop (tCallS (spD c D_whole_list) (fun _ => E') (tCons (tVar 2) tNil))))),
    (pss_cons (ps_expr (pe_callRS (ok_check_web T) (hr.mono (by decide)) (by rfl) T.m_check_web T.F_check_web.kp (passE (takes_of rfl rfl rfl rfl)) (pa_cons (pv 0) pa_nil)))
    (pss_cons (ps_expr (pe_callRS (ok_check_whole T) (hr.mono (by decide)) (by rfl) T.m_check_whole T.F_check_whole.kp (passE (takes_of rfl rfl rfl rfl)) (pa_cons (pv 1) pa_nil)))
    (pss_one (ps_expr (pe_callRS (ok_whole_list T) (hr.mono (by decide)) (by rfl) T.m_whole_list T.F_whole_list.kp (passE (takes_of rfl rfl rfl rfl)) (pa_cons (pv 2) pa_nil)))))),
    (ss_seq (ss_drop (se_call (sa_cons se_var sa_nil)))
    (ss_seq (ss_drop (se_call (sa_cons se_var sa_nil)))
    (ss_drop (se_call (sa_cons se_var sa_nil)))))⟩
theorem ok_check_token_row (T : Txt c mg A) : FnR P w c.K mg base (L2.CX P w) 3 A.check_token_row (spD c (D_check_token_row A.ca)) :=
  fn_ss (N := Nn_check_token_row) (ps := ["web", "k", "row"]) (s := dn_check_token_row A.ca) T.F_check_token_row sc_check_token_row (T.F_check_token_row.binds (ps := ["web", "k", "row"]) fun _ _ _ _ _ _ us hl => match us, hl with | [_, _, _], _ => rfl) fun cdv A_ outer sh H E' hr => ⟨(tSeq (tDrop (tCallS (spD c D_check_least) (fun _ => E') (tCons (tVar 1) (tCons (tC (V.int 0)) tNil))))
    (tDrop (tCallS (spD c D_check_part_range) (fun _ => E') (tCons (tVar 2) (tCons (tProp A.ca.Web (getSp A.ca.Web "_size") [] L2.E0 (tVar 0)) (tCons (tOp (rI CMul fun i j => V.int (i * j)) (tC (V.int 2)) (tOp (rI0 fun i j => V.int (i + j)) (tVar 1) (tC (V.int 1)))) tNil)))))),
    (pss_cons (ps_expr (pe_callRS (ok_check_least T) (hr.mono (by decide)) (by rfl) T.m_check_least T.F_check_least.kp (passE (takes_of rfl rfl rfl rfl)) (pa_cons (pv 1) (pa_cons pe_int pa_nil))))
    (pss_one (ps_expr (pe_callRS (ok_check_part_range T) (hr.mono (by decide)) (by rfl) T.m_check_part_range T.F_check_part_range.kp (passE (takes_of rfl rfl rfl rfl)) (pa_cons (pv 2) (pa_cons (pe_prop (pv 0) T.f_Web.cl T.p_Web_size (getter_of T.F_Web_size gsc_Web_size rfl rfl T.f_Web.cl T.a_Web__size) (hr.mono (by decide)) (T.F_Web_size.binds (ps := ["self"]) fun _ _ _ _ _ _ us hl => match us, hl with | [_], _ => rfl) .nil passL rfl) (pa_cons (pe_op op_mul pe_int (pe_op op_add (pv 1) pe_int)) pa_nil))))))),
    (ss_seq (ss_drop (se_call (sa_cons se_var (sa_cons se_int sa_nil))))
    (ss_drop (se_call (sa_cons se_var (sa_cons (se_prop se_var) (sa_cons (se_op2 s2_mul se_int (se_op2 s2_add se_var se_int)) sa_nil))))))⟩
theorem ok_check_holding (T : Txt c mg A) : FnR P w c.K mg base (L2.CX P w) 4 A.check_holding (spD c (D_check_holding A.ca)) :=
  fn_ss (N := Nn_check_holding) (ps := ["web", "k", "stand", "h"]) (s := dn_check_holding A.ca) T.F_check_holding sc_check_holding (T.F_check_holding.binds (ps := ["web", "k", "stand", "h"]) fun _ _ _ _ _ _ us hl => match us, hl with | [_, _, _, _], _ => rfl) fun cdv A_ outer sh H E' hr => ⟨(tSeq (tDrop (tCallS (spD c (D_check_stand A.ca)) (fun _ => E') (tCons (tVar 0) (tCons (tVar 2) tNil))))
    (tDrop (tCallS (spD c D_check_range) (fun _ => E') (tCons (tVar 3) (tCons (tC (V.int 0)) (tCons (tOp (rI0 fun i j => V.int (i + j)) (tOp (rI CMul fun i j => V.int (i * j)) (tC (V.int 2)) (tVar 1)) (tC (V.int 1))) tNil)))))),
    (pss_cons (ps_expr (pe_callRS (ok_check_stand T) (hr.mono (by decide)) (by rfl) T.m_check_stand T.F_check_stand.kp (passE (takes_of rfl rfl rfl rfl)) (pa_cons (pv 0) (pa_cons (pv 2) pa_nil))))
    (pss_one (ps_expr (pe_callRS (ok_check_range T) (hr.mono (by decide)) (by rfl) T.m_check_range T.F_check_range.kp (passE (takes_of rfl rfl rfl rfl)) (pa_cons (pv 3) (pa_cons pe_int (pa_cons (pe_op op_add (pe_op op_mul pe_int (pv 1)) pe_int) pa_nil))))))),
    (ss_seq (ss_drop (se_call (sa_cons se_var (sa_cons se_var sa_nil))))
    (ss_drop (se_call (sa_cons se_var (sa_cons se_int (sa_cons (se_op2 s2_add (se_op2 s2_mul se_int se_var) se_int) sa_nil))))))⟩
theorem ok_check_token_bid (T : Txt c mg A) : FnR P w c.K mg base (L2.CX P w) 5 A.check_token_bid (spD c (D_check_token_bid A.ca)) :=
  fn_ss (N := Nn_check_token_bid) (ps := ["web", "k", "row", "stand", "half_chips"]) (s := dn_check_token_bid A.ca) T.F_check_token_bid sc_check_token_bid (T.F_check_token_bid.binds (ps := ["web", "k", "row", "stand", "half_chips"]) fun _ _ _ _ _ _ us hl => match us, hl with | [_, _, _, _, _], _ => rfl) fun cdv A_ outer sh H E' hr => ⟨(tSeq (tDrop (tCallS (spD c (D_check_token_kinds A.ca)) (fun _ => E') (tCons (tVar 0) (tCons (tVar 1) (tCons (tVar 2) tNil)))))
    (tSeq (tDrop (tCallS (spD c D_check_whole) (fun _ => E') (tCons (tVar 3) (tCons (tVar 4) tNil))))
    (tSeq (tDrop (tCallS (spD c (D_check_even A.ca)) (fun _ => E') (tCons (tVar 0) tNil)))
    (tSeq (tDrop (tCallS (spD c (D_check_token_row A.ca)) (fun _ => E') (tCons (tVar 0) (tCons (tVar 1) (tCons (tVar 2) tNil)))))
    (tSeq (tDrop (tCallS (spD c (D_check_holding A.ca)) (fun _ => E') (tCons (tVar 0) (tCons (tVar 1) (tCons (tVar 3) (tCons (tVar 4) tNil))))))
    (tSeq (tDrop (tCallS (spD c (D_check_moving A.ca)) (fun _ => E') (tCons (tVar 0) (tCons (tVar 3) tNil))))
    (tDrop (tCallS (spD c D_check_most) (fun _ => E') (tCons (tVar 1) (tCons (tC (V.int 10000000000000000000000000000000000000000)) tNil)))))))))),
    (pss_cons (ps_expr (pe_callRS (ok_check_token_kinds T) (hr.mono (by decide)) (by rfl) T.m_check_token_kinds T.F_check_token_kinds.kp (passE (takes_of rfl rfl rfl rfl)) (pa_cons (pv 0) (pa_cons (pv 1) (pa_cons (pv 2) pa_nil)))))
    (pss_cons (ps_expr (pe_callRS (ok_check_whole T) (hr.mono (by decide)) (by rfl) T.m_check_whole T.F_check_whole.kp (passE (takes_of rfl rfl rfl rfl)) (pa_cons (pv 3) (pa_cons (pv 4) pa_nil))))
    (pss_cons (ps_expr (pe_callRS (ok_check_even T) (hr.mono (by decide)) (by rfl) T.m_check_even T.F_check_even.kp (passE (takes_of rfl rfl rfl rfl)) (pa_cons (pv 0) pa_nil)))
    (pss_cons (ps_expr (pe_callRS (ok_check_token_row T) (hr.mono (by decide)) (by rfl) T.m_check_token_row T.F_check_token_row.kp (passE (takes_of rfl rfl rfl rfl)) (pa_cons (pv 0) (pa_cons (pv 1) (pa_cons (pv 2) pa_nil)))))
    (pss_cons (ps_expr (pe_callRS (ok_check_holding T) (hr.mono (by decide)) (by rfl) T.m_check_holding T.F_check_holding.kp (passE (takes_of rfl rfl rfl rfl)) (pa_cons (pv 0) (pa_cons (pv 1) (pa_cons (pv 3) (pa_cons (pv 4) pa_nil))))))
    (pss_cons (ps_expr (pe_callRS (ok_check_moving T) (hr.mono (by decide)) (by rfl) T.m_check_moving T.F_check_moving.kp (passE (takes_of rfl rfl rfl rfl)) (pa_cons (pv 0) (pa_cons (pv 3) pa_nil))))
    (pss_one (ps_expr (pe_callRS (ok_check_most T) (hr.mono (by decide)) (by rfl) T.m_check_most T.F_check_most.kp (passE (takes_of rfl rfl rfl rfl)) (pa_cons (pv 1) (pa_cons (pe_gint (by rfl) T.c_GREATEST) pa_nil))))))))))),
    (ss_seq (ss_drop (se_call (sa_cons se_var (sa_cons se_var (sa_cons se_var sa_nil)))))
    (ss_seq (ss_drop (se_call (sa_cons se_var (sa_cons se_var sa_nil))))
    (ss_seq (ss_drop (se_call (sa_cons se_var sa_nil)))
    (ss_seq (ss_drop (se_call (sa_cons se_var (sa_cons se_var (sa_cons se_var sa_nil)))))
    (ss_seq (ss_drop (se_call (sa_cons se_var (sa_cons se_var (sa_cons se_var (sa_cons se_var sa_nil))))))
    (ss_seq (ss_drop (se_call (sa_cons se_var (sa_cons se_var sa_nil))))
    (ss_drop (se_call (sa_cons se_var (sa_cons se_int sa_nil))))))))))⟩
theorem ok_token_first (T : Txt c mg A) : FnR P w c.K mg base (L2.CX P w) 6 A.token_first (spD c (D_token_first A.ca)) :=
  fn_ss (N := Nn_token_first) (ps := ["web", "k", "row", "stand", "half_chips"]) (s := dn_token_first A.ca) T.F_token_first sc_token_first (T.F_token_first.binds (ps := ["web", "k", "row", "stand", "half_chips"]) fun _ _ _ _ _ _ us hl => match us, hl with | [_, _, _, _, _], _ => rfl) fun cdv A_ outer sh H E' hr => ⟨(tSeq (tDrop (tCallS (spD c (D_check_token_bid A.ca)) (fun _ => E') (tCons (tVar 0) (tCons (tVar 1) (tCons (tVar 2) (tCons (tVar 3) (tCons (tVar 4) tNil)))))))
    (tRet (tCallS (spD c (D_token_first_told A.ca)) (fun _ => E') (tCons (tVar 0) (tCons (tVar 2) (tCons (tVar 3) (tCons (tVar 4) tNil))))))),
    (pss_cons (ps_expr (pe_callRS (ok_check_token_bid T) (hr.mono (by decide)) (by rfl) T.m_check_token_bid T.F_check_token_bid.kp (passE (takes_of rfl rfl rfl rfl)) (pa_cons (pv 0) (pa_cons (pv 1) (pa_cons (pv 2) (pa_cons (pv 3) (pa_cons (pv 4) pa_nil)))))))
    (pss_one (ps_ret (pe_callRS (ok_token_first_told T) (hr.mono (by decide)) (by rfl) T.m_token_first_told T.F_token_first_told.kp (passE (takes_of rfl rfl rfl rfl)) (pa_cons (pv 0) (pa_cons (pv 2) (pa_cons (pv 3) (pa_cons (pv 4) pa_nil)))))))),
    (ss_seq (ss_drop (se_call (sa_cons se_var (sa_cons se_var (sa_cons se_var (sa_cons se_var (sa_cons se_var sa_nil)))))))
    (ss_ret (se_call (sa_cons se_var (sa_cons se_var (sa_cons se_var (sa_cons se_var sa_nil)))))))⟩
theorem ok_token_second (T : Txt c mg A) : FnR P w c.K mg base (L2.CX P w) 6 A.token_second (spD c (D_token_second A.ca)) :=
  fn_ss (N := Nn_token_second) (ps := ["web", "k", "row", "stand", "half_chips"]) (s := dn_token_second A.ca) T.F_token_second sc_token_second (T.F_token_second.binds (ps := ["web", "k", "row", "stand", "half_chips"]) fun _ _ _ _ _ _ us hl => match us, hl with | [_, _, _, _, _], _ => rfl) fun cdv A_ outer sh H E' hr => ⟨(tSeq (tDrop (tCallS (spD c (D_check_token_bid A.ca)) (fun _ => E') (tCons (tVar 0) (tCons (tVar 1) (tCons (tVar 2) (tCons (tVar 3) (tCons (tVar 4) tNil)))))))
    (tSeq (tAsg (tCallS (spD c D_second_size) (fun _ => E') (tCons (tCallS (spD c (D_low_of A.ca)) (fun _ => E') (tCons (tVar 0) (tCons (tVar 2) (tCons (tVar 3) tNil)))) (tCons (tVar 4) tNil))) (gName 5))
    (tSeq (tAsg (tCallS (spD c D_least_with) (fun _ => E') (tCons (tOp (rIx c.K) (tProp A.ca.Web (getSp A.ca.Web "_second") [] L2.E0 (tVar 0)) (tVar 3)) (tCons (tVar 2) (tCons (tCallS (spD c (D_high_of A.ca)) (fun _ => E') (tCons (tVar 0) (tCons (tVar 2) (tCons (tVar 3) tNil)))) tNil)))) (gName 6))
    (tRet (tTup (tCons (tCB rMin2F (tCons (tOp (rI CDiv fun i j => V.int (i / j)) (tVar 5) (tC (V.int 2))) (tCons (tOp (rI0 fun i j => V.int (i - j)) (tVar 1) (tOp (rI CDiv fun i j => V.int (i / j)) (tVar 4) (tC (V.int 2)))) tNil))) (tCons (tOp rEq (tOp (rI (fun _ j => 0 < j) fun i j => V.int (i % j)) (tVar 5) (tC (V.int 2))) (tC (V.int 1))) (tCons (tVar 6) tNil)))))))),
    (pss_cons (ps_expr (pe_callRS (ok_check_token_bid T) (hr.mono (by decide)) (by rfl) T.m_check_token_bid T.F_check_token_bid.kp (passE (takes_of rfl rfl rfl rfl)) (pa_cons (pv 0) (pa_cons (pv 1) (pa_cons (pv 2) (pa_cons (pv 3) (pa_cons (pv 4) pa_nil)))))))
    (pss_cons (ps_asg (pe_callRS (ok_second_size T) (hr.mono (by decide)) (by rfl) T.m_second_size T.F_second_size.kp (passE (takes_of rfl rfl rfl rfl)) (pa_cons (pe_callRS (ok_low_of T) (hr.mono (by decide)) (by rfl) T.m_low_of T.F_low_of.kp (passE (takes_of rfl rfl rfl rfl)) (pa_cons (pv 0) (pa_cons (pv 2) (pa_cons (pv 3) pa_nil)))) (pa_cons (pv 4) pa_nil))) (pg_name (i := 5) sc_token_second.nd rfl (by first | exact Or.inl rfl | exact Or.inr rfl)))
    (pss_cons (ps_asg (pe_callRS (ok_least_with T) (hr.mono (by decide)) (by rfl) T.m_least_with T.F_least_with.kp (passE (takes_of rfl rfl rfl rfl)) (pa_cons (pe_ix ix_seq (pe_prop (pv 0) T.f_Web.cl T.p_Web_second (getter_of T.F_Web_second gsc_Web_second rfl rfl T.f_Web.cl T.a_Web__second) (hr.mono (by decide)) (T.F_Web_second.binds (ps := ["self"]) fun _ _ _ _ _ _ us hl => match us, hl with | [_], _ => rfl) .nil passL rfl) (pv 3) (fun _ _ => rfl)) (pa_cons (pv 2) (pa_cons (pe_callRS (ok_high_of T) (hr.mono (by decide)) (by rfl) T.m_high_of T.F_high_of.kp (passE (takes_of rfl rfl rfl rfl)) (pa_cons (pv 0) (pa_cons (pv 2) (pa_cons (pv 3) pa_nil)))) pa_nil)))) (pg_name (i := 6) sc_token_second.nd rfl (by first | exact Or.inl rfl | exact Or.inr rfl)))
    (pss_one (ps_ret (pe_tup (pa_cons (pe_callB (call_min2 rfl) (by rfl) T.n_min (by decide +kernel) (pa_cons (pe_op op_fdiv (pv 5) pe_int) (pa_cons (pe_op op_sub (pv 1) (pe_op op_fdiv (pv 4) pe_int)) pa_nil))) (pa_cons (pe_cmpR op_eq (pe_op op_mod (pv 5) pe_int) pe_int (nomark _)) (pa_cons (pv 6) pa_nil))))))))),
    (ss_seq (ss_drop (se_call (sa_cons se_var (sa_cons se_var (sa_cons se_var (sa_cons se_var (sa_cons se_var sa_nil)))))))
    (ss_seq (ss_asg (se_call (sa_cons (se_call (sa_cons se_var (sa_cons se_var (sa_cons se_var sa_nil)))) (sa_cons se_var sa_nil))) sg_name)
    (ss_seq (ss_asg (se_call (sa_cons (se_op2 s2_ix (se_prop se_var) se_var) (sa_cons se_var (sa_cons (se_call (sa_cons se_var (sa_cons se_var (sa_cons se_var sa_nil)))) sa_nil)))) sg_name)
    (ss_ret (se_tup (sa_cons (se_cb sn_min2 (sa_cons (se_op2 s2_div se_var se_int) (sa_cons (se_op2 s2_sub se_var (se_op2 s2_div se_var se_int)) sa_nil))) (sa_cons (se_op2 s2_eq (se_op2 s2_mod se_var se_int) se_int) (sa_cons se_var sa_nil))))))))⟩
theorem ok_token_serves (T : Txt c mg A) : FnR P w c.K mg base (L2.CX P w) 5 A.token_serves (spD c (D_token_serves A.ca)) :=
  fn_ss (N := Nn_token_serves) (ps := ["web", "k", "row", "stand", "half_chips", "side", "bid", "takes"]) (s := dn_token_serves A.ca) T.F_token_serves sc_token_serves (T.F_token_serves.binds (ps := ["web", "k", "row", "stand", "half_chips", "side", "bid", "takes"]) fun _ _ _ _ _ _ us hl => match us, hl with | [_, _, _, _, _, _, _, _], _ => rfl) fun cdv A_ outer sh H E' hr => ⟨(tSeq (tDrop (tCallS (spD c (D_check_token_kinds A.ca)) (fun _ => E') (tCons (tVar 0) (tCons (tVar 1) (tCons (tVar 2) tNil)))))
    (tSeq (tDrop (tCallS (spD c D_check_whole) (fun _ => E') (tCons (tVar 3) (tCons (tVar 4) (tCons (tVar 5) (tCons (tVar 6) tNil))))))
    (tSeq (tIfS (tNot (fun σ H Q => (tCB (rIsi c.K) (tCons (tVar 7) (tCons (tC (V.ty "bool")) tNil))) σ H fun x H' => ∃ k, TruV c.K x H' k ∧ Q k H')) (fun _ σ H => E' (Value.ref (c.ec 0)) none H) tNext)
    (tSeq (tDrop (tCallS (spD c (D_check_even A.ca)) (fun _ => E') (tCons (tVar 0) tNil)))
    (tSeq (tDrop (tCallS (spD c (D_check_token_row A.ca)) (fun _ => E') (tCons (tVar 0) (tCons (tVar 1) (tCons (tVar 2) tNil)))))
    (tSeq (tDrop (tCallS (spD c (D_check_holding A.ca)) (fun _ => E') (tCons (tVar 0) (tCons (tVar 1) (tCons (tVar 3) (tCons (tVar 4) tNil))))))
    (tSeq (tDrop (tCallS (spD c D_check_one_or_two) (fun _ => E') (tCons (tVar 5) tNil)))
    (tSeq (tDrop (tCallS (spD c D_check_range) (fun _ => E') (tCons (tVar 6) (tCons (tC (V.int 0)) (tCons (tIf (tTest (tOp rEq (tVar 5) (tC (V.int 1)))) (tOp (rI CDiv fun i j => V.int (i / j)) (tVar 4) (tC (V.int 2))) (tOp (rI0 fun i j => V.int (i - j)) (tVar 1) (tOp (rI CDiv fun i j => V.int (i / j)) (tVar 4) (tC (V.int 2))))) tNil)))))
    (tSeq (tDrop (tCallS (spD c (D_check_moving A.ca)) (fun _ => E') (tCons (tVar 0) (tCons (tVar 3) tNil))))
    (tSeq (tIfS (tAnd (fun σ H Q => (tVar 7) σ H fun x H' => ∃ k, TruV c.K x H' k ∧ Q k H') (tTest (tOp rNe (tOp (rI (fun _ j => 0 < j) fun i j => V.int (i % j)) (tVar 4) (tC (V.int 2))) (tOp (rI0 fun i j => V.int (i - j)) (tC (V.int 2)) (tVar 5))))) (fun _ σ H => E' (Value.ref (c.ec 5)) none H) tNext)
    (tSeq (tDrop (tCallS (spD c D_check_most) (fun _ => E') (tCons (tVar 1) (tCons (tC (V.int 200)) tNil))))
    (tSeq (tAsg (tCallS (spD c (D_low_of A.ca)) (fun _ => E') (tCons (tVar 0) (tCons (tVar 2) (tCons (tVar 3) tNil)))) (gName 8))
    (tSeq (tAsg (tCallS (spD c (D_high_of A.ca)) (fun _ => E') (tCons (tVar 0) (tCons (tVar 2) (tCons (tVar 3) tNil)))) (gName 9))
    (tSeq (tFor (iList c.K (tCallS (spD c D_bids_of) (fun _ => E') (tCons (tVar 1) (tCons (tVar 4) (tCons (tOp (rI0 fun i j => V.int (i - j)) (tC (V.int 3)) (tVar 5)) tNil))))) (gTup c.K 2 (gCons (gName 10) (gCons (gName 11) gNil))) (tSeq (tIfS (tTest (tOp rEq (tVar 5) (tC (V.int 1)))) (tAsg (tCallS (spD c D_token_bought) (fun _ => E') (tCons (tVar 4) (tCons (tVar 6) (tCons (tVar 7) (tCons (tVar 10) (tCons (tVar 11) tNil)))))) (gTup c.K 2 (gCons (gName 12) (gCons (gName 13) gNil)))) (tAsg (tCallS (spD c D_token_bought) (fun _ => E') (tCons (tVar 4) (tCons (tVar 10) (tCons (tVar 11) (tCons (tVar 6) (tCons (tVar 7) tNil)))))) (gTup c.K 2 (gCons (gName 12) (gCons (gName 13) gNil)))))
    (tSeq (tAsg (tOp (rI0 fun i j => V.bl (decide (j ≤ i))) (tVar 13) (tIf (tTest (tOp rEq (tVar 12) (tC (V.int 1)))) (tVar 8) (tVar 9))) (gName 14))
    (tIfS (tTest (tOp rNe (tVar 14) (tOp rEq (tVar 5) (tC (V.int 1))))) (tRet (tC (V.bl false))) tNext))))
    (tRet (tC (V.bl true))))))))))))))))),
    (pss_cons (ps_expr (pe_callRS (ok_check_token_kinds T) (hr.mono (by decide)) (by rfl) T.m_check_token_kinds T.F_check_token_kinds.kp (passE (takes_of rfl rfl rfl rfl)) (pa_cons (pv 0) (pa_cons (pv 1) (pa_cons (pv 2) pa_nil)))))
    (pss_cons (ps_expr (pe_callRS (ok_check_whole T) (hr.mono (by decide)) (by rfl) T.m_check_whole T.F_check_whole.kp (passE (takes_of rfl rfl rfl rfl)) (pa_cons (pv 3) (pa_cons (pv 4) (pa_cons (pv 5) (pa_cons (pv 6) pa_nil))))))
    (pss_cons (ps_if (pt_not (pt_truth (pe_callB call_isi (by rfl) T.n_isinstance (by decide +kernel) (pa_cons (pv 7) (pa_cons (pe_bltn (v := V.ty "bool") (by rfl) T.n_bool (by decide +kernel) rfl) pa_nil))) (by intro _; rfl))) (pss_one (ps_raise rfl (takes_of rfl rfl rfl rfl) (pmk_own PySem.F.excBase_Exception T.xE0 T.mE0 T.kE0 (raises_own T.bE0 T.tE0) (by exact rfl)))) pss_nil)
    (pss_cons (ps_expr (pe_callRS (ok_check_even T) (hr.mono (by decide)) (by rfl) T.m_check_even T.F_check_even.kp (passE (takes_of rfl rfl rfl rfl)) (pa_cons (pv 0) pa_nil)))
    (pss_cons (ps_expr (pe_callRS (ok_check_token_row T) (hr.mono (by decide)) (by rfl) T.m_check_token_row T.F_check_token_row.kp (passE (takes_of rfl rfl rfl rfl)) (pa_cons (pv 0) (pa_cons (pv 1) (pa_cons (pv 2) pa_nil)))))
    (pss_cons (ps_expr (pe_callRS (ok_check_holding T) (hr.mono (by decide)) (by rfl) T.m_check_holding T.F_check_holding.kp (passE (takes_of rfl rfl rfl rfl)) (pa_cons (pv 0) (pa_cons (pv 1) (pa_cons (pv 3) (pa_cons (pv 4) pa_nil))))))
    (pss_cons (ps_expr (pe_callRS (ok_check_one_or_two T) (hr.mono (by decide)) (by rfl) T.m_check_one_or_two T.F_check_one_or_two.kp (passE (takes_of rfl rfl rfl rfl)) (pa_cons (pv 5) pa_nil)))
    (pss_cons (ps_expr (pe_callRS (ok_check_range T) (hr.mono (by decide)) (by rfl) T.m_check_range T.F_check_range.kp (passE (takes_of rfl rfl rfl rfl)) (pa_cons (pv 6) (pa_cons pe_int (pa_cons (pe_ifExp (pt_cmpR op_eq (pv 5) pe_int (nomark _)) (pe_op op_fdiv (pv 4) pe_int) (pe_op op_sub (pv 1) (pe_op op_fdiv (pv 4) pe_int))) pa_nil)))))
    (pss_cons (ps_expr (pe_callRS (ok_check_moving T) (hr.mono (by decide)) (by rfl) T.m_check_moving T.F_check_moving.kp (passE (takes_of rfl rfl rfl rfl)) (pa_cons (pv 0) (pa_cons (pv 3) pa_nil))))
    (pss_cons (ps_if (PW.pt (pw_and (pt_truth (pv 7) (by intro _; rfl)) (pw_and1 (pt_cmpR op_ne (pe_op op_mod (pv 4) pe_int) (pe_op op_sub pe_int (pv 5)) (nomark _))))) (pss_one (ps_raise rfl (takes_of rfl rfl rfl rfl) (pmk_own PySem.F.excBase_Exception T.xE5 T.mE5 T.kE5 (raises_own T.bE5 T.tE5) (by exact rfl)))) pss_nil)
    (pss_cons (ps_expr (pe_callRS (ok_check_most T) (hr.mono (by decide)) (by rfl) T.m_check_most T.F_check_most.kp (passE (takes_of rfl rfl rfl rfl)) (pa_cons (pv 1) (pa_cons (pe_gint (by rfl) T.c_MOST_SERVING_CHIPS) pa_nil))))
    (pss_cons (ps_asg (pe_callRS (ok_low_of T) (hr.mono (by decide)) (by rfl) T.m_low_of T.F_low_of.kp (passE (takes_of rfl rfl rfl rfl)) (pa_cons (pv 0) (pa_cons (pv 2) (pa_cons (pv 3) pa_nil)))) (pg_name (i := 8) sc_token_serves.nd rfl (by first | exact Or.inl rfl | exact Or.inr rfl)))
    (pss_cons (ps_asg (pe_callRS (ok_high_of T) (hr.mono (by decide)) (by rfl) T.m_high_of T.F_high_of.kp (passE (takes_of rfl rfl rfl rfl)) (pa_cons (pv 0) (pa_cons (pv 2) (pa_cons (pv 3) pa_nil)))) (pg_name (i := 9) sc_token_serves.nd rfl (by first | exact Or.inl rfl | exact Or.inr rfl)))
    (pss_cons (ps_for (passes_of rfl) rfl (pi_list (pe_callRS (ok_bids_of T) (hr.mono (by decide)) (by rfl) T.m_bids_of T.F_bids_of.kp (passE (takes_of rfl rfl rfl rfl)) (pa_cons (pv 1) (pa_cons (pv 4) (pa_cons (pe_op op_sub pe_int (pv 5)) pa_nil))))) (pg_tup rfl (pgs_cons (pg_name (i := 10) sc_token_serves.nd rfl (by first | exact Or.inl rfl | exact Or.inr rfl)) (pgs_cons (pg_name (i := 11) sc_token_serves.nd rfl (by first | exact Or.inl rfl | exact Or.inr rfl)) pgs_nil))) (pss_cons (ps_if (pt_cmpR op_eq (pv 5) pe_int (nomark _)) (pss_one (ps_asg (pe_callRS (ok_token_bought T) (hr.mono (by decide)) (by rfl) T.m_token_bought T.F_token_bought.kp (passE (takes_of rfl rfl rfl rfl)) (pa_cons (pv 4) (pa_cons (pv 6) (pa_cons (pv 7) (pa_cons (pv 10) (pa_cons (pv 11) pa_nil)))))) (pg_tup rfl (pgs_cons (pg_name (i := 12) sc_token_serves.nd rfl (by first | exact Or.inl rfl | exact Or.inr rfl)) (pgs_cons (pg_name (i := 13) sc_token_serves.nd rfl (by first | exact Or.inl rfl | exact Or.inr rfl)) pgs_nil))))) (pss_one (ps_asg (pe_callRS (ok_token_bought T) (hr.mono (by decide)) (by rfl) T.m_token_bought T.F_token_bought.kp (passE (takes_of rfl rfl rfl rfl)) (pa_cons (pv 4) (pa_cons (pv 10) (pa_cons (pv 11) (pa_cons (pv 6) (pa_cons (pv 7) pa_nil)))))) (pg_tup rfl (pgs_cons (pg_name (i := 12) sc_token_serves.nd rfl (by first | exact Or.inl rfl | exact Or.inr rfl)) (pgs_cons (pg_name (i := 13) sc_token_serves.nd rfl (by first | exact Or.inl rfl | exact Or.inr rfl)) pgs_nil))))))
    (pss_cons (ps_asg (pe_cmpR op_ge (pv 13) (pe_ifExp (pt_cmpR op_eq (pv 12) pe_int (nomark _)) (pv 8) (pv 9)) (nomark _)) (pg_name (i := 14) sc_token_serves.nd rfl (by first | exact Or.inl rfl | exact Or.inr rfl)))
    (pss_one (ps_if (pt_cmpR op_ne (pv 14) (pe_cmpR op_eq (pv 5) pe_int (nomark _)) (nomark _)) (pss_one (ps_ret pe_bl)) pss_nil)))))
    (pss_one (ps_ret pe_bl)))))))))))))))),
    (ss_seq (ss_drop (se_call (sa_cons se_var (sa_cons se_var (sa_cons se_var sa_nil)))))
    (ss_seq (ss_drop (se_call (sa_cons se_var (sa_cons se_var (sa_cons se_var (sa_cons se_var sa_nil))))))
    (ss_seq (ss_if (st_not (st_tru (se_cb sn_is1 (sa_cons se_var (sa_cons (se_c fun _ _ => At.ty Ty.bl) sa_nil))))) (ss_raise (n := 0)) ss_next)
    (ss_seq (ss_drop (se_call (sa_cons se_var sa_nil)))
    (ss_seq (ss_drop (se_call (sa_cons se_var (sa_cons se_var (sa_cons se_var sa_nil)))))
    (ss_seq (ss_drop (se_call (sa_cons se_var (sa_cons se_var (sa_cons se_var (sa_cons se_var sa_nil))))))
    (ss_seq (ss_drop (se_call (sa_cons se_var sa_nil)))
    (ss_seq (ss_drop (se_call (sa_cons se_var (sa_cons se_int (sa_cons (se_if (st_test (se_op2 s2_eq se_var se_int)) (se_op2 s2_div se_var se_int) (se_op2 s2_sub se_var (se_op2 s2_div se_var se_int))) sa_nil)))))
    (ss_seq (ss_drop (se_call (sa_cons se_var (sa_cons se_var sa_nil))))
    (ss_seq (ss_if (st_and (st_tru se_var) (st_test (se_op2 s2_ne (se_op2 s2_mod se_var se_int) (se_op2 s2_sub se_int se_var)))) (ss_raise (n := 5)) ss_next)
    (ss_seq (ss_drop (se_call (sa_cons se_var (sa_cons se_int sa_nil))))
    (ss_seq (ss_asg (se_call (sa_cons se_var (sa_cons se_var (sa_cons se_var sa_nil)))) sg_name)
    (ss_seq (ss_asg (se_call (sa_cons se_var (sa_cons se_var (sa_cons se_var sa_nil)))) sg_name)
    (ss_seq (ss_for (si_list (se_call (sa_cons se_var (sa_cons se_var (sa_cons (se_op2 s2_sub se_int se_var) sa_nil))))) sg_pair (ss_seq (ss_if (st_test (se_op2 s2_eq se_var se_int)) (ss_asg (se_call (sa_cons se_var (sa_cons se_var (sa_cons se_var (sa_cons se_var (sa_cons se_var sa_nil)))))) sg_pair) (ss_asg (se_call (sa_cons se_var (sa_cons se_var (sa_cons se_var (sa_cons se_var (sa_cons se_var sa_nil)))))) sg_pair))
    (ss_seq (ss_asg (se_op2 s2_ge se_var (se_if (st_test (se_op2 s2_eq se_var se_int)) se_var se_var)) sg_name)
    (ss_if (st_test (se_op2 s2_ne se_var (se_op2 s2_eq se_var se_int))) (ss_ret se_bl) ss_next))))
    (ss_ret se_bl)))))))))))))))⟩
theorem ok_token_half_of (T : Txt c mg A) : FnR P w c.K mg base (L2.CX P w) 1 A.token_half_of (spD c (D_token_half_of)) :=
  fn_ss (N := Nn_token_half_of) (ps := ["x", "y"]) (s := dn_token_half_of) T.F_token_half_of sc_token_half_of (T.F_token_half_of.binds (ps := ["x", "y"]) fun _ _ _ _ _ _ us hl => match us, hl with | [_, _], _ => rfl) fun cdv A_ outer sh H E' hr => ⟨(tRet (tOp (rI CDiv fun i j => V.int (i / j)) (tOp (rI0 fun i j => V.int (i + j)) (tOp (rI0 fun i j => V.int (i + j)) (tVar 0) (tVar 1)) (tOp (rI (fun _ j => 0 < j) fun i j => V.int (i % j)) (tVar 0) (tC (V.int 2)))) (tC (V.int 2)))),
    (pss_one (ps_ret (pe_op op_fdiv (pe_op op_add (pe_op op_add (pv 0) (pv 1)) (pe_op op_mod (pv 0) pe_int)) pe_int))),
    (ss_ret (se_op2 s2_div (se_op2 s2_add (se_op2 s2_add se_var se_var) (se_op2 s2_mod se_var se_int)) se_int))⟩
theorem ok_token_half (T : Txt c mg A) : FnR P w c.K mg base (L2.CX P w) 3 A.token_half (spD c (D_token_half)) :=
  fn_ss (N := Nn_token_half) (ps := ["x", "y"]) (s := dn_token_half) T.F_token_half sc_token_half (T.F_token_half.binds (ps := ["x", "y"]) fun _ _ _ _ _ _ us hl => match us, hl with | [_, _], _ => rfl) fun cdv A_ outer sh H E' hr => ⟨(tSeq (tDrop (tCallS (spD c D_check_whole) (fun _ => E') (tCons (tVar 0) (tCons (tVar 1) tNil))))
    (tRet (tCallS (spD c D_token_half_of) (fun _ => E') (tCons (tVar 0) (tCons (tVar 1) tNil))))),
    (pss_cons (ps_expr (pe_callRS (ok_check_whole T) (hr.mono (by decide)) (by rfl) T.m_check_whole T.F_check_whole.kp (passE (takes_of rfl rfl rfl rfl)) (pa_cons (pv 0) (pa_cons (pv 1) pa_nil))))
    (pss_one (ps_ret (pe_callRS (ok_token_half_of T) (hr.mono (by decide)) (by rfl) T.m_token_half_of T.F_token_half_of.kp (passE (takes_of rfl rfl rfl rfl)) (pa_cons (pv 0) (pa_cons (pv 1) pa_nil)))))),
    (ss_seq (ss_drop (se_call (sa_cons se_var (sa_cons se_var sa_nil))))
    (ss_ret (se_call (sa_cons se_var (sa_cons se_var sa_nil)))))⟩
theorem ok_token_price_of (T : Txt c mg A) : FnR P w c.K mg base (L2.CX P w) 4 A.token_price_of (spD c (D_token_price_of A.ca)) :=
  fn_ss (N := Nn_token_price_of) (ps := ["web", "k", "row", "stand"]) (s := dn_token_price_of A.ca) T.F_token_price_of sc_token_price_of (T.F_token_price_of.binds (ps := ["web", "k", "row", "stand"]) fun _ _ _ _ _ _ us hl => match us, hl with | [_, _, _, _], _ => rfl) fun cdv A_ outer sh H E' hr => ⟨(tSeq (tIfS (tNot (fun σ H Q => (tOp (rIx c.K) (tProp A.ca.Web (getSp A.ca.Web "_first") [] L2.E0 (tVar 0)) (tVar 3)) σ H fun x H' => ∃ k, TruV c.K x H' k ∧ Q k H')) (tRet (tOp (rI CMul fun i j => V.int (i * j)) (tC (V.int 2)) (tOp (rI0 fun i j => V.int (i + j)) (tVar 1) (tC (V.int 1))))) tNext)
    (tRet (tCallS (spD c D_token_half_of) (fun _ => E') (tCons (tCallS (spD c (D_low_of A.ca)) (fun _ => E') (tCons (tVar 0) (tCons (tVar 2) (tCons (tVar 3) tNil)))) (tCons (tCallS (spD c (D_high_of A.ca)) (fun _ => E') (tCons (tVar 0) (tCons (tVar 2) (tCons (tVar 3) tNil)))) tNil))))),
    (pss_cons (ps_if (pt_not (pt_truth (pe_ix ix_seq (pe_prop (pv 0) T.f_Web.cl T.p_Web_first (getter_of T.F_Web_first gsc_Web_first rfl rfl T.f_Web.cl T.a_Web__first) (hr.mono (by decide)) (T.F_Web_first.binds (ps := ["self"]) fun _ _ _ _ _ _ us hl => match us, hl with | [_], _ => rfl) .nil passL rfl) (pv 3) (fun _ _ => rfl)) (by intro _; rfl))) (pss_one (ps_ret (pe_op op_mul pe_int (pe_op op_add (pv 1) pe_int)))) pss_nil)
    (pss_one (ps_ret (pe_callRS (ok_token_half_of T) (hr.mono (by decide)) (by rfl) T.m_token_half_of T.F_token_half_of.kp (passE (takes_of rfl rfl rfl rfl)) (pa_cons (pe_callRS (ok_low_of T) (hr.mono (by decide)) (by rfl) T.m_low_of T.F_low_of.kp (passE (takes_of rfl rfl rfl rfl)) (pa_cons (pv 0) (pa_cons (pv 2) (pa_cons (pv 3) pa_nil)))) (pa_cons (pe_callRS (ok_high_of T) (hr.mono (by decide)) (by rfl) T.m_high_of T.F_high_of.kp (passE (takes_of rfl rfl rfl rfl)) (pa_cons (pv 0) (pa_cons (pv 2) (pa_cons (pv 3) pa_nil)))) pa_nil)))))),
    (ss_seq (ss_if (st_not (st_tru (se_op2 s2_ix (se_prop se_var) se_var))) (ss_ret (se_op2 s2_mul se_int (se_op2 s2_add se_var se_int))) ss_next)
    (ss_ret (se_call (sa_cons (se_call (sa_cons se_var (sa_cons se_var (sa_cons se_var sa_nil)))) (sa_cons (se_call (sa_cons se_var (sa_cons se_var (sa_cons se_var sa_nil)))) sa_nil)))))⟩
theorem ok_token_price (T : Txt c mg A) : FnR P w c.K mg base (L2.CX P w) 5 A.token_price (spD c (D_token_price A.ca)) :=
  fn_ss (N := Nn_token_price) (ps := ["web", "k", "row", "stand"]) (s := dn_token_price A.ca) T.F_token_price sc_token_price (T.F_token_price.binds (ps := ["web", "k", "row", "stand"]) fun _ _ _ _ _ _ us hl => match us, hl with | [_, _, _, _], _ => rfl) fun cdv A_ outer sh H E' hr => ⟨(tSeq (tDrop (tCallS (spD c (D_check_web A.ca)) (fun _ => E') (tCons (tVar 0) tNil)))
    (tSeq (tDrop (tCallS (spD c D_check_whole) (fun _ => E') (tCons (tVar 1) (tCons (tVar 3) tNil))))
    (tSeq (tDrop (tCallS (spD c D_whole_list) (fun _ => E') (tCons (tVar 2) tNil)))
    (tSeq (tDrop (tCallS (spD c (D_check_even A.ca)) (fun _ => E') (tCons (tVar 0) tNil)))
    (tSeq (tDrop (tCallS (spD c D_check_least) (fun _ => E') (tCons (tVar 1) (tCons (tC (V.int 0)) tNil))))
    (tSeq (tDrop (tCallS (spD c D_check_size) (fun _ => E') (tCons (tVar 2) (tCons (tProp A.ca.Web (getSp A.ca.Web "_size") [] L2.E0 (tVar 0)) tNil))))
    (tSeq (tDrop (tCallS (spD c (D_check_stand A.ca)) (fun _ => E') (tCons (tVar 0) (tCons (tVar 3) tNil))))
    (tSeq (tDrop (tCallS (spD c D_check_most) (fun _ => E') (tCons (tVar 1) (tCons (tC (V.int 10000000000000000000000000000000000000000)) tNil))))
    (tRet (tCallS (spD c (D_token_price_of A.ca)) (fun _ => E') (tCons (tVar 0) (tCons (tVar 1) (tCons (tVar 2) (tCons (tVar 3) tNil)))))))))))))),
    (pss_cons (ps_expr (pe_callRS (ok_check_web T) (hr.mono (by decide)) (by rfl) T.m_check_web T.F_check_web.kp (passE (takes_of rfl rfl rfl rfl)) (pa_cons (pv 0) pa_nil)))
    (pss_cons (ps_expr (pe_callRS (ok_check_whole T) (hr.mono (by decide)) (by rfl) T.m_check_whole T.F_check_whole.kp (passE (takes_of rfl rfl rfl rfl)) (pa_cons (pv 1) (pa_cons (pv 3) pa_nil))))
    (pss_cons (ps_expr (pe_callRS (ok_whole_list T) (hr.mono (by decide)) (by rfl) T.m_whole_list T.F_whole_list.kp (passE (takes_of rfl rfl rfl rfl)) (pa_cons (pv 2) pa_nil)))
    (pss_cons (ps_expr (pe_callRS (ok_check_even T) (hr.mono (by decide)) (by rfl) T.m_check_even T.F_check_even.kp (passE (takes_of rfl rfl rfl rfl)) (pa_cons (pv 0) pa_nil)))
    (pss_cons (ps_expr (pe_callRS (ok_check_least T) (hr.mono (by decide)) (by rfl) T.m_check_least T.F_check_least.kp (passE (takes_of rfl rfl rfl rfl)) (pa_cons (pv 1) (pa_cons pe_int pa_nil))))
    (pss_cons (ps_expr (pe_callRS (ok_check_size T) (hr.mono (by decide)) (by rfl) T.m_check_size T.F_check_size.kp (passE (takes_of rfl rfl rfl rfl)) (pa_cons (pv 2) (pa_cons (pe_prop (pv 0) T.f_Web.cl T.p_Web_size (getter_of T.F_Web_size gsc_Web_size rfl rfl T.f_Web.cl T.a_Web__size) (hr.mono (by decide)) (T.F_Web_size.binds (ps := ["self"]) fun _ _ _ _ _ _ us hl => match us, hl with | [_], _ => rfl) .nil passL rfl) pa_nil))))
    (pss_cons (ps_expr (pe_callRS (ok_check_stand T) (hr.mono (by decide)) (by rfl) T.m_check_stand T.F_check_stand.kp (passE (takes_of rfl rfl rfl rfl)) (pa_cons (pv 0) (pa_cons (pv 3) pa_nil))))
    (pss_cons (ps_expr (pe_callRS (ok_check_most T) (hr.mono (by decide)) (by rfl) T.m_check_most T.F_check_most.kp (passE (takes_of rfl rfl rfl rfl)) (pa_cons (pv 1) (pa_cons (pe_gint (by rfl) T.c_GREATEST) pa_nil))))
    (pss_one (ps_ret (pe_callRS (ok_token_price_of T) (hr.mono (by decide)) (by rfl) T.m_token_price_of T.F_token_price_of.kp (passE (takes_of rfl rfl rfl rfl)) (pa_cons (pv 0) (pa_cons (pv 1) (pa_cons (pv 2) (pa_cons (pv 3) pa_nil))))))))))))))),
    (ss_seq (ss_drop (se_call (sa_cons se_var sa_nil)))
    (ss_seq (ss_drop (se_call (sa_cons se_var (sa_cons se_var sa_nil))))
    (ss_seq (ss_drop (se_call (sa_cons se_var sa_nil)))
    (ss_seq (ss_drop (se_call (sa_cons se_var sa_nil)))
    (ss_seq (ss_drop (se_call (sa_cons se_var (sa_cons se_int sa_nil))))
    (ss_seq (ss_drop (se_call (sa_cons se_var (sa_cons (se_prop se_var) sa_nil))))
    (ss_seq (ss_drop (se_call (sa_cons se_var (sa_cons se_var sa_nil))))
    (ss_seq (ss_drop (se_call (sa_cons se_var (sa_cons se_int sa_nil))))
    (ss_ret (se_call (sa_cons se_var (sa_cons se_var (sa_cons se_var (sa_cons se_var sa_nil))))))))))))))⟩
theorem ok_token_due (T : Txt c mg A) : FnR P w c.K mg base (L2.CX P w) 5 A.token_due (spD c (D_token_due)) :=
  fn_ss (N := Nn_token_due) (ps := ["due", "k"]) (s := dn_token_due) T.F_token_due sc_token_due (T.F_token_due.binds (ps := ["due", "k"]) fun _ _ _ _ _ _ us hl => match us, hl with | [_, _], _ => rfl) fun cdv A_ outer sh H E' hr => ⟨(tRet (tOp (rI CMul fun i j => V.int (i * j)) (tC (V.int 2)) (tCallS (spD c D_due_number) (fun _ => E') (tCons (tVar 0) (tCons (tVar 1) tNil))))),
    (pss_one (ps_ret (pe_op op_mul pe_int (pe_callRS (ok_due_number T) (hr.mono (by decide)) (by rfl) T.m_due_number T.F_due_number.kp (passE (takes_of rfl rfl rfl rfl)) (pa_cons (pv 0) (pa_cons (pv 1) pa_nil)))))),
    (ss_ret (se_op2 s2_mul se_int (se_call (sa_cons se_var (sa_cons se_var sa_nil)))))⟩
theorem ok_law_draw (T : Txt c mg A) : FnR P w c.K mg base (L2.CX P w) 6 A.law_draw (spD c (D_law_draw)) :=
  fn_ss (N := Nn_law_draw) (ps := ["_law_pot_here", "_law_many"]) (s := dn_law_draw) T.F_law_draw sc_law_draw (T.F_law_draw.binds (ps := ["_law_pot_here", "_law_many"]) fun _ _ _ _ _ _ us hl => match us, hl with | [_, _], _ => rfl) fun cdv A_ outer sh H E' hr => ⟨(tSeq (tIfS (tTest (tOp rEq (tCB (rLenS c.K) (tCons (tVar 0) tNil)) (tC (V.int 0)))) (tRet (tC (V.int 0))) tNext)
    (tRet (tOp (rI (fun _ j => 0 < j) fun i j => V.int (i % j)) (tCB rIntF (tCons (tBM0 c.K "list" rPop (tVar 0)) tNil)) (tVar 1)))),
    (pss_cons (ps_if (pt_cmpR op_eq (pe_callB call_len_seq (by rfl) T.n_len PySem.boot_len (pa_cons (pv 0) pa_nil)) pe_int (nomark _)) (pss_one (ps_ret pe_int)) pss_nil)
    (pss_one (ps_ret (pe_op op_mod (pe_callTy call_int1 (by rfl) T.n_int (by decide +kernel) (pa_cons (pe_bm0 PySem.F.plainAttrs_list PySem.F.slot_list_pop PySem.F.type_list_pop mt_pop (pv 0)) pa_nil)) (pv 1))))),
    (ss_seq (ss_if (st_test (se_op2 s2_eq (se_lenp T.pl se_var) se_int)) (ss_ret se_int) ss_next)
    (ss_ret (se_op2 s2_mod (se_cb sn_int (sa_cons (se_pop T.pl se_var) sa_nil)) se_var)))⟩
theorem ok_law_whole (T : Txt c mg A) : FnR P w c.K mg base (L2.CX P w) 6 A.law_whole (spD c (D_is_integer)) :=
  fn_ss (N := Nn_law_whole) (ps := ["_law_thing"]) (s := dn_is_integer) T.F_law_whole sc_law_whole (T.F_law_whole.binds (ps := ["_law_thing"]) fun _ _ _ _ _ _ us hl => match us, hl with | [_], _ => rfl) fun cdv A_ outer sh H E' hr => ⟨(tRet (tAndV (tCB (rIsi c.K) (tCons (tVar 0) (tCons (tC (V.ty "int")) tNil))) (tNotV (tCB (rIsi c.K) (tCons (tVar 0) (tCons (tC (V.ty "bool")) tNil)))))),
    (pss_one (ps_ret (pe_and (pe_callB call_isi (by rfl) T.n_isinstance (by decide +kernel) (pa_cons (pv 0) (pa_cons (pe_bltn (v := V.ty "int") (by rfl) T.n_int (by decide +kernel) rfl) pa_nil))) (pe_one (pe_not (pe_callB call_isi (by rfl) T.n_isinstance (by decide +kernel) (pa_cons (pv 0) (pa_cons (pe_bltn (v := V.ty "bool") (by rfl) T.n_bool (by decide +kernel) rfl) pa_nil)))))))),
    (ss_ret (se_and (se_cb sn_is1 (sa_cons se_var (sa_cons (se_c fun _ _ => At.ty Ty.int) sa_nil))) (se_not (se_cb sn_is1 (sa_cons se_var (sa_cons (se_c fun _ _ => At.ty Ty.bl) sa_nil))))))⟩
theorem ok_law_lot (T : Txt c mg A) : FnR P w c.K mg base (L2.CX P w) 7 A.law_lot (spD c (D_law_lot)) :=
  fn_ss (N := Nn_law_lot) (ps := ["_law_pot_here", "_law_size_here"]) (s := dn_law_lot) T.F_law_lot sc_law_lot (T.F_law_lot.binds (ps := ["_law_pot_here", "_law_size_here"]) fun _ _ _ _ _ _ us hl => match us, hl with | [_, _], _ => rfl) fun cdv A_ outer sh H E' hr => ⟨(tSeq (tAsg (tLst (tCons (tCallS (spD c D_law_draw) (fun _ => E') (tCons (tVar 0) (tCons (tVar 1) tNil))) tNil)) (gName 2))
    (tSeq (tFor (iRng1 (tCons (tCallS (spD c D_law_draw) (fun _ => E') (tCons (tVar 0) (tCons (tC (V.int 3)) tNil))) tNil)) (gName 3) (tSeq (tAsg (tCallS (spD c D_law_draw) (fun _ => E') (tCons (tVar 0) (tCons (tVar 1) tNil))) (gName 4))
    (tIfS (tTest (tOp (rIn c.K true) (tVar 4) (tVar 2))) (tDrop (tBM c.K "list" rAppend (tVar 2) (tCons (tVar 4) tNil))) tNext)))
    (tRet (tVar 2)))),
    (pss_cons (ps_asg (pe_lst (pa_cons (pe_callRS (ok_law_draw T) (hr.mono (by decide)) (by rfl) T.m_law_draw T.F_law_draw.kp (passE (takes_of rfl rfl rfl rfl)) (pa_cons (pv 0) (pa_cons (pv 1) pa_nil))) pa_nil)) (pg_name (i := 2) sc_law_lot.nd rfl (by first | exact Or.inl rfl | exact Or.inr rfl)))
    (pss_cons (ps_for (passes_of rfl) rfl (pi_range1 (by rfl) T.n_range (pa_cons (pe_callRS (ok_law_draw T) (hr.mono (by decide)) (by rfl) T.m_law_draw T.F_law_draw.kp (passE (takes_of rfl rfl rfl rfl)) (pa_cons (pv 0) (pa_cons pe_int pa_nil))) pa_nil)) (pg_name (i := 3) sc_law_lot.nd rfl (by first | exact Or.inl rfl | exact Or.inr rfl)) (pss_cons (ps_asg (pe_callRS (ok_law_draw T) (hr.mono (by decide)) (by rfl) T.m_law_draw T.F_law_draw.kp (passE (takes_of rfl rfl rfl rfl)) (pa_cons (pv 0) (pa_cons (pv 1) pa_nil))) (pg_name (i := 4) sc_law_lot.nd rfl (by first | exact Or.inl rfl | exact Or.inr rfl)))
    (pss_one (ps_if (pt_cmpR op_notIn_seq (pv 4) (pv 2) rfl) (pss_one (ps_expr (pe_bm PySem.F.plainAttrs_list PySem.F.slot_list_append PySem.F.type_list_append mt_append (pv 2) (pa_cons (pv 4) pa_nil)))) pss_nil))))
    (pss_one (ps_ret (pv 2))))),
    (ss_seq (ss_own (sen_lst (sa_cons (se_call (sa_cons se_var (sa_cons se_var sa_nil))) sa_nil)))
    (ss_seq (ss_for (si_rng1 (sa_cons (se_call (sa_cons se_var (sa_cons se_int sa_nil))) sa_nil)) sg_name (ss_seq (ss_asg (se_call (sa_cons se_var (sa_cons se_var sa_nil))) sg_name)
    (ss_if (st_test (se_inc se_var)) (ss_append se_var) ss_next)))
    (ss_give (i := 2) (ss_ret se_var))))⟩
theorem ok_law_due (T : Txt c mg A) : FnR P w c.K mg base (L2.CX P w) 7 A.law_due (spD c (D_law_due)) :=
  fn_ss (N := Nn_law_due) (ps := ["_law_pot_here"]) (s := dn_law_due) T.F_law_due sc_law_due (T.F_law_due.binds (ps := ["_law_pot_here"]) fun _ _ _ _ _ _ us hl => match us, hl with | [_], _ => rfl) fun cdv A_ outer sh H E' hr => ⟨(tSeq (tAsg (tCallS (spD c D_law_draw) (fun _ => E') (tCons (tVar 0) (tCons (tC (V.int 6)) tNil))) (gName 1))
    (tSeq (tIfS (tTest (tOp (rI0 fun i j => V.bl (decide (i ≤ j))) (tVar 1) (tC (V.int 2)))) (tRet (tTup (tCons (tC (V.str "chips")) (tCons (tC (V.int 0)) tNil)))) tNext)
    (tSeq (tIfS (tTest (tOp rEq (tVar 1) (tC (V.int 3)))) (tRet (tTup (tCons (tC (V.str "chips")) (tCons (tOp (rI0 fun i j => V.int (i + j)) (tC (V.int 1)) (tCallS (spD c D_law_draw) (fun _ => E') (tCons (tVar 0) (tCons (tC (V.int 4)) tNil)))) tNil)))) tNext)
    (tSeq (tIfS (tTest (tOp rEq (tVar 1) (tC (V.int 4)))) (tRet (tTup (tCons (tC (V.str "less")) (tCons (tOp (rI0 fun i j => V.int (i + j)) (tC (V.int 1)) (tCallS (spD c D_law_draw) (fun _ => E') (tCons (tVar 0) (tCons (tC (V.int 3)) tNil)))) tNil)))) tNext)
    (tRet (tC V.non)))))),
    (pss_cons (ps_asg (pe_callRS (ok_law_draw T) (hr.mono (by decide)) (by rfl) T.m_law_draw T.F_law_draw.kp (passE (takes_of rfl rfl rfl rfl)) (pa_cons (pv 0) (pa_cons pe_int pa_nil))) (pg_name (i := 1) sc_law_due.nd rfl (by first | exact Or.inl rfl | exact Or.inr rfl)))
    (pss_cons (ps_if (pt_cmpR op_le (pv 1) pe_int (nomark _)) (pss_one (ps_ret (pe_tup (pa_cons pe_str (pa_cons pe_int pa_nil))))) pss_nil)
    (pss_cons (ps_if (pt_cmpR op_eq (pv 1) pe_int (nomark _)) (pss_one (ps_ret (pe_tup (pa_cons pe_str (pa_cons (pe_op op_add pe_int (pe_callRS (ok_law_draw T) (hr.mono (by decide)) (by rfl) T.m_law_draw T.F_law_draw.kp (passE (takes_of rfl rfl rfl rfl)) (pa_cons (pv 0) (pa_cons pe_int pa_nil)))) pa_nil))))) pss_nil)
    (pss_cons (ps_if (pt_cmpR op_eq (pv 1) pe_int (nomark _)) (pss_one (ps_ret (pe_tup (pa_cons pe_str (pa_cons (pe_op op_add pe_int (pe_callRS (ok_law_draw T) (hr.mono (by decide)) (by rfl) T.m_law_draw T.F_law_draw.kp (passE (takes_of rfl rfl rfl rfl)) (pa_cons (pv 0) (pa_cons pe_int pa_nil)))) pa_nil))))) pss_nil)
    (pss_one (ps_ret pe_non)))))),
    (ss_seq (ss_asg (se_call (sa_cons se_var (sa_cons se_int sa_nil))) sg_name)
    (ss_seq (ss_if (st_test (se_op2 s2_le se_var se_int)) (ss_ret (se_tup (sa_cons se_str (sa_cons se_int sa_nil)))) ss_next)
    (ss_seq (ss_if (st_test (se_op2 s2_eq se_var se_int)) (ss_ret (se_tup (sa_cons se_str (sa_cons (se_op2 s2_add se_int (se_call (sa_cons se_var (sa_cons se_int sa_nil)))) sa_nil)))) ss_next)
    (ss_seq (ss_if (st_test (se_op2 s2_eq se_var se_int)) (ss_ret (se_tup (sa_cons se_str (sa_cons (se_op2 s2_add se_int (se_call (sa_cons se_var (sa_cons se_int sa_nil)))) sa_nil)))) ss_next)
    (ss_ret se_non)))))⟩
theorem ok_law_marks (T : Txt c mg A) : FnR P w c.K mg base (L2.CX P w) 7 A.law_marks (spD c (D_law_marks)) :=
  fn_ss (N := Nn_law_marks) (ps := ["_law_pot_here", "_law_size_here"]) (s := dn_law_marks) T.F_law_marks sc_law_marks (T.F_law_marks.binds (ps := ["_law_pot_here", "_law_size_here"]) fun _ _ _ _ _ _ us hl => match us, hl with | [_, _], _ => rfl) fun cdv A_ outer sh H E' hr => ⟨(tSeq (tAsg (tCallS (spD c D_law_draw) (fun _ => E') (tCons (tVar 0) (tCons (tC (V.int 4)) tNil))) (gName 2))
    (tSeq (tIfS (tTest (tOp (rI0 fun i j => V.bl (decide (i ≤ j))) (tVar 2) (tC (V.int 1)))) (tRet (tLc (iRng1 (tCons (tVar 1) tNil)) (gName 3) tYes (tOp (rI0 fun i j => V.int (i + j)) (tC (V.int 1)) (tVar 2)) [3])) tNext)
    (tRet (tLc (iRng1 (tCons (tVar 1) tNil)) (gName 3) tYes (tOp (rI0 fun i j => V.int (i + j)) (tC (V.int 1)) (tCallS (spD c D_law_draw) (fun _ => L2.E0) (tCons (tVar 0) (tCons (tC (V.int 2)) tNil)))) [3])))),
    (pss_cons (ps_asg (pe_callRS (ok_law_draw T) (hr.mono (by decide)) (by rfl) T.m_law_draw T.F_law_draw.kp (passE (takes_of rfl rfl rfl rfl)) (pa_cons (pv 0) (pa_cons pe_int pa_nil))) (pg_name (i := 2) sc_law_marks.nd rfl (by first | exact Or.inl rfl | exact Or.inr rfl)))
    (pss_cons (ps_if (pt_cmpR op_le (pv 2) pe_int (nomark _)) (pss_one (ps_ret (pe_lc (own := [("_law_stand", 3)]) (g := gName 3) (wi := (iRng1 (tCons (tVar 1) tNil))) (tt := tYes) (te := (tOp (rI0 fun i j => V.int (i + j)) (tC (V.int 1)) (tVar 2))) rfl sc_law_marks.nd (pi_range1 (by rfl) T.n_range (pa_cons (pv 1) pa_nil)) (blkOk_by (N := Nn_law_marks) (sc := defScope s_law_marks) (by decide +kernel)) (fun _ _ _ _ _ => pg_name (i := 3) sc_law_marks.nd rfl (by first | exact Or.inl rfl | exact Or.inr rfl)) (fun _ _ _ _ _ => pts_nil) (fun _ _ _ _ _ => (pe_op op_add pe_int (pv 2)))))) pss_nil)
    (pss_one (ps_ret (pe_lc (own := [("_law_stand", 3)]) (g := gName 3) (wi := (iRng1 (tCons (tVar 1) tNil))) (tt := tYes) (te := (tOp (rI0 fun i j => V.int (i + j)) (tC (V.int 1)) (tCallS (spD c D_law_draw) (fun _ => L2.E0) (tCons (tVar 0) (tCons (tC (V.int 2)) tNil))))) rfl sc_law_marks.nd (pi_range1 (by rfl) T.n_range (pa_cons (pv 1) pa_nil)) (blkOk_by (N := Nn_law_marks) (sc := defScope s_law_marks) (by decide +kernel)) (fun _ _ _ _ _ => pg_name (i := 3) sc_law_marks.nd rfl (by first | exact Or.inl rfl | exact Or.inr rfl)) (fun _ _ _ _ _ => pts_nil) (fun _ _ _ _ _ => (pe_op op_add pe_int (pe_callRS (ok_law_draw T) (hr.mono (by decide)) (by rfl) T.m_law_draw T.F_law_draw.kp passNo (pa_cons (pv 0) (pa_cons pe_int pa_nil)))))))))),
    (ss_seq (ss_asg (se_call (sa_cons se_var (sa_cons se_int sa_nil))) sg_name)
    (ss_seq (ss_if (st_test (se_op2 s2_le se_var se_int)) (ss_ret (se_new (sen_comp (si_rng1 (sa_cons se_var sa_nil)) st_true (se_op2 s2_add se_int se_var)))) ss_next)
    (ss_ret (se_new (sen_comp (si_rng1 (sa_cons se_var sa_nil)) st_true (se_op2 s2_add se_int (se_call (sa_cons se_var (sa_cons se_int sa_nil)))))))))⟩
theorem ok_law_path (T : Txt c mg A) : FnR P w c.K mg base (L2.CX P w) 6 A.law_path (spD c (D_law_path)) :=
  fn_ss (N := Nn_law_path) (ps := ["_law_size_here"]) (s := dn_law_path) T.F_law_path sc_law_path (T.F_law_path.binds (ps := ["_law_size_here"]) fun _ _ _ _ _ _ us hl => match us, hl with | [_], _ => rfl) fun cdv A_ outer sh H E' hr => ⟨(tSeq (tAsg (tLst (tCons (tLst tNil) (tCons (tLst tNil) tNil))) (gName 1))
    (tSeq (tFor (iRng2 (tCons (tC (V.int 2)) (tCons (tVar 0) tNil))) (gName 2) (tSeq (tAsg (tOp (rI0 fun i j => V.int (i - j)) (tVar 2) (tC (V.int 1))) (gName 3))
    (tSeq (tIfS (tTest (tOp rEq (tVar 2) (tC (V.int 2)))) (tAsg (tC (V.int 0)) (gName 3)) tNext)
    (tSeq (tAsg (tOp (rI0 fun i j => V.int (i + j)) (tVar 2) (tC (V.int 1))) (gName 4))
    (tSeq (tIfS (tTest (tOp rEq (tVar 2) (tOp (rI0 fun i j => V.int (i - j)) (tVar 0) (tC (V.int 1))))) (tAsg (tC (V.int 1)) (gName 4)) tNext)
    (tDrop (tBM c.K "list" rAppend (tVar 1) (tCons (tLst (tCons (tVar 3) (tCons (tVar 4) tNil))) tNil))))))))
    (tRet (tVar 1)))),
    (pss_cons (ps_asg (pe_lst (pa_cons (pe_lst pa_nil) (pa_cons (pe_lst pa_nil) pa_nil))) (pg_name (i := 1) sc_law_path.nd rfl (by first | exact Or.inl rfl | exact Or.inr rfl)))
    (pss_cons (ps_for (passes_of rfl) rfl (pi_range2 (by rfl) T.n_range (pa_cons pe_int (pa_cons (pv 0) pa_nil))) (pg_name (i := 2) sc_law_path.nd rfl (by first | exact Or.inl rfl | exact Or.inr rfl)) (pss_cons (ps_asg (pe_op op_sub (pv 2) pe_int) (pg_name (i := 3) sc_law_path.nd rfl (by first | exact Or.inl rfl | exact Or.inr rfl)))
    (pss_cons (ps_if (pt_cmpR op_eq (pv 2) pe_int (nomark _)) (pss_one (ps_asg pe_int (pg_name (i := 3) sc_law_path.nd rfl (by first | exact Or.inl rfl | exact Or.inr rfl)))) pss_nil)
    (pss_cons (ps_asg (pe_op op_add (pv 2) pe_int) (pg_name (i := 4) sc_law_path.nd rfl (by first | exact Or.inl rfl | exact Or.inr rfl)))
    (pss_cons (ps_if (pt_cmpR op_eq (pv 2) (pe_op op_sub (pv 0) pe_int) (nomark _)) (pss_one (ps_asg pe_int (pg_name (i := 4) sc_law_path.nd rfl (by first | exact Or.inl rfl | exact Or.inr rfl)))) pss_nil)
    (pss_one (ps_expr (pe_bm PySem.F.plainAttrs_list PySem.F.slot_list_append PySem.F.type_list_append mt_append (pv 1) (pa_cons (pe_lst (pa_cons (pv 3) (pa_cons (pv 4) pa_nil))) pa_nil)))))))))
    (pss_one (ps_ret (pv 1))))),
    (ss_seq (ss_own (sen_lst (sa_cons (se_new (sen_lst sa_nil)) (sa_cons (se_new (sen_lst sa_nil)) sa_nil))))
    (ss_seq (ss_for (si_rng2 (sa_cons se_int (sa_cons se_var sa_nil))) sg_name (ss_seq (ss_asg (se_op2 s2_sub se_var se_int) sg_name)
    (ss_seq (ss_if (st_test (se_op2 s2_eq se_var se_int)) (ss_asg se_int sg_name) ss_next)
    (ss_seq (ss_asg (se_op2 s2_add se_var se_int) sg_name)
    (ss_seq (ss_if (st_test (se_op2 s2_eq se_var (se_op2 s2_sub se_var se_int))) (ss_asg se_int sg_name) ss_next)
    (ss_append (se_new (sen_lst (sa_cons se_var (sa_cons se_var sa_nil))))))))))
    (ss_give (i := 1) (ss_ret se_var))))⟩
theorem ok_law_web (T : Txt c mg A) : FnR P w c.K mg base (L2.CX P w) 8 A.law_web (spD c (D_law_web)) :=
  fn_ss (N := Nn_law_web) (ps := ["_law_pot_here", "_law_most", "_law_even"]) (s := dn_law_web) T.F_law_web sc_law_web (T.F_law_web.binds (ps := ["_law_pot_here", "_law_most", "_law_even"]) fun _ _ _ _ _ _ us hl => match us, hl with | [_, _, _], _ => rfl) fun cdv A_ outer sh H E' hr => ⟨(tSeq (tAsg (tCB rMin2F (tCons (tVar 1) (tCons (tOp (rIx c.K) (tLst (tCons (tC (V.int 4)) (tCons (tC (V.int 3)) (tCons (tC (V.int 5)) (tCons (tC (V.int 4)) (tCons (tC (V.int 6)) (tCons (tC (V.int 2)) (tCons (tC (V.int 5)) (tCons (tC (V.int 3)) (tCons (tC (V.int 7)) (tCons (tC (V.int 1)) tNil))))))))))) (tCallS (spD c D_law_draw) (fun _ => E') (tCons (tVar 0) (tCons (tC (V.int 10)) tNil)))) tNil))) (gName 3))
    (tSeq (tAsg (tCallS (spD c D_law_draw) (fun _ => E') (tCons (tVar 0) (tCons (tC (V.int 5)) tNil))) (gName 4))
    (tSeq (tAsg (tLst tNil) (gName 5))
    (tSeq (tAsg (tLst tNil) (gName 6))
    (tSeq (tIfS (tAnd (tTest (tOp rEq (tVar 4) (tC (V.int 0)))) (tTest (tOp (rI0 fun i j => V.bl (decide (j ≤ i))) (tVar 3) (tC (V.int 2))))) (tSeq (tAsg (tCallS (spD c D_law_path) (fun _ => E') (tCons (tVar 3) tNil)) (gName 5))
    (tSeq (tAsg (tOp rCat (tLst (tCons (tTup (tCons (tC (V.str "chips")) (tCons (tC (V.int 0)) tNil))) tNil)) (tLc (iRng1 (tCons (tOp (rI0 fun i j => V.int (i - j)) (tVar 3) (tC (V.int 1))) tNil)) (gName 7) tYes (tC V.non) [7])) (gName 6))
    (tAsg (tLc (iList c.K (tVar 5)) (gName 9) tYes (tCB (rListF c.K) (tCons (tVar 9) tNil)) [9]) (gName 8)))) (tSeq (tAsg (tLst tNil) (gName 8))
    (tFor (iRng1 (tCons (tVar 3) tNil)) (gName 7) (tSeq (tAsg (tAndV (tOp rEq (tVar 7) (tC (V.int 0))) (tOp rNe (tVar 4) (tC (V.int 4)))) (gName 10))
    (tSeq (tIfS (tAnd (tTest (tOp rEq (tVar 7) (tC (V.int 1)))) (tTest (tOp rNe (tVar 4) (tC (V.int 3))))) (tAsg (tC (V.bl true)) (gName 10)) tNext)
    (tSeq (tIfS (tAnd (tTest (tOp (rI0 fun i j => V.bl (decide (j ≤ i))) (tVar 7) (tC (V.int 2)))) (tTest (tOp rEq (tCallS (spD c D_law_draw) (fun _ => E') (tCons (tVar 0) (tCons (tC (V.int 8)) tNil))) (tC (V.int 7))))) (tAsg (tC (V.bl true)) (gName 10)) tNext)
    (tSeq (tIfS (fun σ H Q => (tVar 10) σ H fun x H' => ∃ k, TruV c.K x H' k ∧ Q k H') (tSeq (tDrop (tBM c.K "list" rAppend (tVar 5) (tCons (tLst tNil) tNil)))
    (tDrop (tBM c.K "list" rAppend (tVar 8) (tCons (tLst tNil) tNil)))) (tSeq (tAsg (tCallS (spD c D_law_lot) (fun _ => E') (tCons (tVar 0) (tCons (tVar 3) tNil))) (gName 9))
    (tSeq (tDrop (tBM c.K "list" rAppend (tVar 5) (tCons (tVar 9) tNil)))
    (tIfS (tOr (fun σ H Q => (tVar 2) σ H fun x H' => ∃ k, TruV c.K x H' k ∧ Q k H') (tTest (tOp rEq (tCallS (spD c D_law_draw) (fun _ => E') (tCons (tVar 0) (tCons (tC (V.int 2)) tNil))) (tC (V.int 0))))) (tDrop (tBM c.K "list" rAppend (tVar 8) (tCons (tCB (rListF c.K) (tCons (tVar 9) tNil)) tNil))) (tDrop (tBM c.K "list" rAppend (tVar 8) (tCons (tCallS (spD c D_law_lot) (fun _ => E') (tCons (tVar 0) (tCons (tVar 3) tNil))) tNil)))))))
    (tSeq (tAsg (tC V.non) (gName 11))
    (tSeq (tIfS (tOr (tTest (tOp rEq (tVar 7) (tC (V.int 0)))) (tAnd (fun σ H Q => (tVar 10) σ H fun x H' => ∃ k, TruV c.K x H' k ∧ Q k H') (tTest (tOp (rI0 fun i j => V.bl (decide (j ≤ i))) (tVar 7) (tC (V.int 2)))))) (tAsg (tCallS (spD c D_law_due) (fun _ => E') (tCons (tVar 0) tNil)) (gName 11)) (tIfS (tAnd (tNot (fun σ H Q => (tVar 10) σ H fun x H' => ∃ k, TruV c.K x H' k ∧ Q k H')) (tTest (tOp rEq (tCallS (spD c D_law_draw) (fun _ => E') (tCons (tVar 0) (tCons (tC (V.int 8)) tNil))) (tC (V.int 7))))) (tAsg (tCallS (spD c D_law_due) (fun _ => E') (tCons (tVar 0) tNil)) (gName 11)) tNext))
    (tDrop (tBM c.K "list" rAppend (tVar 6) (tCons (tVar 11) tNil))))))))))))
    (tRet (tLst (tCons (tVar 5) (tCons (tVar 8) (tCons (tCallS (spD c D_law_marks) (fun _ => E') (tCons (tVar 0) (tCons (tVar 3) tNil))) (tCons (tVar 6) tNil))))))))))),
    (pss_cons (ps_asg (pe_callB (call_min2 rfl) (by rfl) T.n_min (by decide +kernel) (pa_cons (pv 1) (pa_cons (pe_ix ix_seq (pe_lst (pa_cons pe_int (pa_cons pe_int (pa_cons pe_int (pa_cons pe_int (pa_cons pe_int (pa_cons pe_int (pa_cons pe_int (pa_cons pe_int (pa_cons pe_int (pa_cons pe_int pa_nil))))))))))) (pe_callRS (ok_law_draw T) (hr.mono (by decide)) (by rfl) T.m_law_draw T.F_law_draw.kp (passE (takes_of rfl rfl rfl rfl)) (pa_cons (pv 0) (pa_cons pe_int pa_nil))) (fun _ _ => rfl)) pa_nil))) (pg_name (i := 3) sc_law_web.nd rfl (by first | exact Or.inl rfl | exact Or.inr rfl)))
    (pss_cons (ps_asg (pe_callRS (ok_law_draw T) (hr.mono (by decide)) (by rfl) T.m_law_draw T.F_law_draw.kp (passE (takes_of rfl rfl rfl rfl)) (pa_cons (pv 0) (pa_cons pe_int pa_nil))) (pg_name (i := 4) sc_law_web.nd rfl (by first | exact Or.inl rfl | exact Or.inr rfl)))
    (pss_cons (ps_asg (pe_lst pa_nil) (pg_name (i := 5) sc_law_web.nd rfl (by first | exact Or.inl rfl | exact Or.inr rfl)))
    (pss_cons (ps_asg (pe_lst pa_nil) (pg_name (i := 6) sc_law_web.nd rfl (by first | exact Or.inl rfl | exact Or.inr rfl)))
    (pss_cons (ps_if (PW.pt (pw_and (pt_cmpR op_eq (pv 4) pe_int (nomark _)) (pw_and1 (pt_cmpR op_ge (pv 3) pe_int (nomark _))))) (pss_cons (ps_asg (pe_callRS (ok_law_path T) (hr.mono (by decide)) (by rfl) T.m_law_path T.F_law_path.kp (passE (takes_of rfl rfl rfl rfl)) (pa_cons (pv 3) pa_nil)) (pg_name (i := 5) sc_law_web.nd rfl (by first | exact Or.inl rfl | exact Or.inr rfl)))
    (pss_cons (ps_asg (pe_op op_cat (pe_lst (pa_cons (pe_tup (pa_cons pe_str (pa_cons pe_int pa_nil))) pa_nil)) (pe_lc (own := [("_law_stand", 7)]) (g := gName 7) (wi := (iRng1 (tCons (tOp (rI0 fun i j => V.int (i - j)) (tVar 3) (tC (V.int 1))) tNil))) (tt := tYes) (te := (tC V.non)) rfl sc_law_web.nd (pi_range1 (by rfl) T.n_range (pa_cons (pe_op op_sub (pv 3) pe_int) pa_nil)) (blkOk_by (N := Nn_law_web) (sc := defScope s_law_web) (by decide +kernel)) (fun _ _ _ _ _ => pg_name (i := 7) sc_law_web.nd rfl (by first | exact Or.inl rfl | exact Or.inr rfl)) (fun _ _ _ _ _ => pts_nil) (fun _ _ _ _ _ => pe_non))) (pg_name (i := 6) sc_law_web.nd rfl (by first | exact Or.inl rfl | exact Or.inr rfl)))
    (pss_one (ps_setLc (i := 8) (own := [("_law_lot_here", 9)]) (g := gName 9) (wi := (iList c.K (tVar 5))) (tt := tYes) (te := (tCB (rListF c.K) (tCons (tVar 9) tNil))) rfl sc_law_web.nd rfl rfl (sw_true rfl rfl rfl (by decide +kernel)) (pi_list (pv 5)) (blkOk_by (N := Nn_law_web) (sc := defScope s_law_web) (by decide +kernel)) (fun _ _ _ _ _ => pg_name (i := 9) sc_law_web.nd rfl (by first | exact Or.inl rfl | exact Or.inr rfl)) (fun _ _ _ _ _ => pts_nil) (fun _ _ _ _ _ => (pe_callTy call_list_of (by rfl) T.n_list (by decide +kernel) (pa_cons (pv 9) pa_nil))))))) (pss_cons (ps_asg (pe_lst pa_nil) (pg_name (i := 8) sc_law_web.nd rfl (by first | exact Or.inl rfl | exact Or.inr rfl)))
    (pss_one (ps_for (passes_of rfl) rfl (pi_range1 (by rfl) T.n_range (pa_cons (pv 3) pa_nil)) (pg_name (i := 7) sc_law_web.nd rfl (by first | exact Or.inl rfl | exact Or.inr rfl)) (pss_cons (ps_asg (pe_and (pe_cmpR op_eq (pv 7) pe_int (nomark _)) (pe_one (pe_cmpR op_ne (pv 4) pe_int (nomark _)))) (pg_name (i := 10) sc_law_web.nd rfl (by first | exact Or.inl rfl | exact Or.inr rfl)))
    (pss_cons (ps_if (PW.pt (pw_and (pt_cmpR op_eq (pv 7) pe_int (nomark _)) (pw_and1 (pt_cmpR op_ne (pv 4) pe_int (nomark _))))) (pss_one (ps_asg pe_bl (pg_name (i := 10) sc_law_web.nd rfl (by first | exact Or.inl rfl | exact Or.inr rfl)))) pss_nil)
    (pss_cons (ps_if (PW.pt (pw_and (pt_cmpR op_ge (pv 7) pe_int (nomark _)) (pw_and1 (pt_cmpR op_eq (pe_callRS (ok_law_draw T) (hr.mono (by decide)) (by rfl) T.m_law_draw T.F_law_draw.kp (passE (takes_of rfl rfl rfl rfl)) (pa_cons (pv 0) (pa_cons pe_int pa_nil))) pe_int (nomark _))))) (pss_one (ps_asg pe_bl (pg_name (i := 10) sc_law_web.nd rfl (by first | exact Or.inl rfl | exact Or.inr rfl)))) pss_nil)
    (pss_cons (ps_if (pt_truth (pv 10) (by intro _; rfl)) (pss_cons (ps_expr (pe_bm PySem.F.plainAttrs_list PySem.F.slot_list_append PySem.F.type_list_append mt_append (pv 5) (pa_cons (pe_lst pa_nil) pa_nil)))
    (pss_one (ps_expr (pe_bm PySem.F.plainAttrs_list PySem.F.slot_list_append PySem.F.type_list_append mt_append (pv 8) (pa_cons (pe_lst pa_nil) pa_nil))))) (pss_cons (ps_asg (pe_callRS (ok_law_lot T) (hr.mono (by decide)) (by rfl) T.m_law_lot T.F_law_lot.kp (passE (takes_of rfl rfl rfl rfl)) (pa_cons (pv 0) (pa_cons (pv 3) pa_nil))) (pg_name (i := 9) sc_law_web.nd rfl (by first | exact Or.inl rfl | exact Or.inr rfl)))
    (pss_cons (ps_expr (pe_bm PySem.F.plainAttrs_list PySem.F.slot_list_append PySem.F.type_list_append mt_append (pv 5) (pa_cons (pv 9) pa_nil)))
    (pss_one (ps_if (PW.pt (pw_or (pt_truth (pv 2) (by intro _; rfl)) (pw_or1 (pt_cmpR op_eq (pe_callRS (ok_law_draw T) (hr.mono (by decide)) (by rfl) T.m_law_draw T.F_law_draw.kp (passE (takes_of rfl rfl rfl rfl)) (pa_cons (pv 0) (pa_cons pe_int pa_nil))) pe_int (nomark _))))) (pss_one (ps_expr (pe_bm PySem.F.plainAttrs_list PySem.F.slot_list_append PySem.F.type_list_append mt_append (pv 8) (pa_cons (pe_callTy call_list_of (by rfl) T.n_list (by decide +kernel) (pa_cons (pv 9) pa_nil)) pa_nil)))) (pss_one (ps_expr (pe_bm PySem.F.plainAttrs_list PySem.F.slot_list_append PySem.F.type_list_append mt_append (pv 8) (pa_cons (pe_callRS (ok_law_lot T) (hr.mono (by decide)) (by rfl) T.m_law_lot T.F_law_lot.kp (passE (takes_of rfl rfl rfl rfl)) (pa_cons (pv 0) (pa_cons (pv 3) pa_nil))) pa_nil)))))))))
    (pss_cons (ps_asg pe_non (pg_name (i := 11) sc_law_web.nd rfl (by first | exact Or.inl rfl | exact Or.inr rfl)))
    (pss_cons (ps_if (PW.pt (pw_or (pt_cmpR op_eq (pv 7) pe_int (nomark _)) (pw_or1 (PW.pt (pw_and (pt_truth (pv 10) (by intro _; rfl)) (pw_and1 (pt_cmpR op_ge (pv 7) pe_int (nomark _)))))))) (pss_one (ps_asg (pe_callRS (ok_law_due T) (hr.mono (by decide)) (by rfl) T.m_law_due T.F_law_due.kp (passE (takes_of rfl rfl rfl rfl)) (pa_cons (pv 0) pa_nil)) (pg_name (i := 11) sc_law_web.nd rfl (by first | exact Or.inl rfl | exact Or.inr rfl)))) (pss_one (ps_if (PW.pt (pw_and (pt_not (pt_truth (pv 10) (by intro _; rfl))) (pw_and1 (pt_cmpR op_eq (pe_callRS (ok_law_draw T) (hr.mono (by decide)) (by rfl) T.m_law_draw T.F_law_draw.kp (passE (takes_of rfl rfl rfl rfl)) (pa_cons (pv 0) (pa_cons pe_int pa_nil))) pe_int (nomark _))))) (pss_one (ps_asg (pe_callRS (ok_law_due T) (hr.mono (by decide)) (by rfl) T.m_law_due T.F_law_due.kp (passE (takes_of rfl rfl rfl rfl)) (pa_cons (pv 0) pa_nil)) (pg_name (i := 11) sc_law_web.nd rfl (by first | exact Or.inl rfl | exact Or.inr rfl)))) pss_nil)))
    (pss_one (ps_expr (pe_bm PySem.F.plainAttrs_list PySem.F.slot_list_append PySem.F.type_list_append mt_append (pv 6) (pa_cons (pv 11) pa_nil))))))))))))))
    (pss_one (ps_ret (pe_lst (pa_cons (pv 5) (pa_cons (pv 8) (pa_cons (pe_callRS (ok_law_marks T) (hr.mono (by decide)) (by rfl) T.m_law_marks T.F_law_marks.kp (passE (takes_of rfl rfl rfl rfl)) (pa_cons (pv 0) (pa_cons (pv 3) pa_nil))) (pa_cons (pv 6) pa_nil)))))))))))),
    (ss_seq (ss_asg (se_cb sn_min2 (sa_cons se_var (sa_cons (se_op2 s2_ix (se_new (sen_lst (sa_cons se_int (sa_cons se_int (sa_cons se_int (sa_cons se_int (sa_cons se_int (sa_cons se_int (sa_cons se_int (sa_cons se_int (sa_cons se_int (sa_cons se_int sa_nil)))))))))))) (se_call (sa_cons se_var (sa_cons se_int sa_nil)))) sa_nil))) sg_name)
    (ss_seq (ss_asg (se_call (sa_cons se_var (sa_cons se_int sa_nil))) sg_name)
    (ss_seq (ss_own (sen_lst sa_nil))
    (ss_seq (ss_own (sen_lst sa_nil))
    (ss_seq (ss_if (st_and (st_test (se_op2 s2_eq se_var se_int)) (st_test (se_op2 s2_ge se_var se_int))) (ss_seq (ss_asg (se_call (sa_cons se_var sa_nil)) sg_name)
    (ss_seq (ss_asg (se_op2 s2_cat (se_new (sen_lst (sa_cons (se_tup (sa_cons se_str (sa_cons se_int sa_nil))) sa_nil))) (se_new (sen_comp (si_rng1 (sa_cons (se_op2 s2_sub se_var se_int) sa_nil)) st_true se_non))) sg_name)
    (ss_give (i := 5) (ss_own (sen_comp (si_list se_var) st_true (se_new (sen_list (sa_cons se_var sa_nil)))))))) (ss_seq (ss_own (sen_lst sa_nil))
    (ss_for (si_rng1 (sa_cons se_var sa_nil)) sg_name (ss_seq (ss_asg (se_and (se_op2 s2_eq se_var se_int) (se_op2 s2_ne se_var se_int)) sg_name)
    (ss_seq (ss_if (st_and (st_test (se_op2 s2_eq se_var se_int)) (st_test (se_op2 s2_ne se_var se_int))) (ss_asg se_bl sg_name) ss_next)
    (ss_seq (ss_if (st_and (st_test (se_op2 s2_ge se_var se_int)) (st_test (se_op2 s2_eq (se_call (sa_cons se_var (sa_cons se_int sa_nil))) se_int))) (ss_asg se_bl sg_name) ss_next)
    (ss_seq (ss_if (st_tru se_var) (ss_seq (ss_append (se_new (sen_lst sa_nil)))
    (ss_append (se_new (sen_lst sa_nil)))) (ss_seq (ss_asg (se_call (sa_cons se_var (sa_cons se_var sa_nil))) sg_name)
    (ss_seq (ss_append se_var)
    (ss_if (st_or (st_tru se_var) (st_test (se_op2 s2_eq (se_call (sa_cons se_var (sa_cons se_int sa_nil))) se_int))) (ss_append (se_new (sen_list (sa_cons se_var sa_nil)))) (ss_append (se_call (sa_cons se_var (sa_cons se_var sa_nil))))))))
    (ss_seq (ss_asg se_non sg_name)
    (ss_seq (ss_if (st_or (st_test (se_op2 s2_eq se_var se_int)) (st_and (st_tru se_var) (st_test (se_op2 s2_ge se_var se_int)))) (ss_asg (se_call (sa_cons se_var sa_nil)) sg_name) (ss_if (st_and (st_not (st_tru se_var)) (st_test (se_op2 s2_eq (se_call (sa_cons se_var (sa_cons se_int sa_nil))) se_int))) (ss_asg (se_call (sa_cons se_var sa_nil)) sg_name) ss_next))
    (ss_append se_var))))))))))
    (ss_give (i := 8) (ss_give (i := 5) (ss_give (i := 6) (ss_ret (se_new (sen_lst (sa_cons se_var (sa_cons se_var (sa_cons (se_call (sa_cons se_var (sa_cons se_var sa_nil))) (sa_cons se_var sa_nil)))))))))))))))⟩
theorem ok_law_due_at (T : Txt c mg A) : FnR P w c.K mg base (L2.CX P w) 6 A.law_due_at (spD c (D_due_at)) :=
  fn_ss (N := Nn_law_due_at) (ps := ["_law_due_here", "_law_k"]) (s := dn_due_at) T.F_law_due_at sc_law_due_at (T.F_law_due_at.binds (ps := ["_law_due_here", "_law_k"]) fun _ _ _ _ _ _ us hl => match us, hl with | [_, _], _ => rfl) fun cdv A_ outer sh H E' hr => ⟨(tSeq (tIfS (tTest (tOp rIsNF (tVar 0) (tC V.non))) (tRet (tOp (rI0 fun i j => V.int (i + j)) (tVar 1) (tC (V.int 1)))) tNext)
    (tSeq (tIfS (tTest (tOp rEq (tOp (rIx c.K) (tVar 0) (tC (V.int 0))) (tC (V.str "chips")))) (tRet (tCB rMin2F (tCons (tOp (rIx c.K) (tVar 0) (tC (V.int 1))) (tCons (tOp (rI0 fun i j => V.int (i + j)) (tVar 1) (tC (V.int 1))) tNil)))) tNext)
    (tRet (tCB rMax2F (tCons (tC (V.int 0)) (tCons (tOp (rI0 fun i j => V.int (i - j)) (tOp (rI0 fun i j => V.int (i + j)) (tVar 1) (tC (V.int 1))) (tOp (rIx c.K) (tVar 0) (tC (V.int 1)))) tNil)))))),
    (pss_cons (ps_if (pt_cmpR op_isN (pv 0) pe_non (nomark _)) (pss_one (ps_ret (pe_op op_add (pv 1) pe_int))) pss_nil)
    (pss_cons (ps_if (pt_cmpR op_eq (pe_ix ix_seq (pv 0) pe_int (fun _ _ => rfl)) pe_str (nomark _)) (pss_one (ps_ret (pe_callB (call_min2 rfl) (by rfl) T.n_min (by decide +kernel) (pa_cons (pe_ix ix_seq (pv 0) pe_int (fun _ _ => rfl)) (pa_cons (pe_op op_add (pv 1) pe_int) pa_nil))))) pss_nil)
    (pss_one (ps_ret (pe_callB (call_max2 rfl) (by rfl) T.n_max (by decide +kernel) (pa_cons pe_int (pa_cons (pe_op op_sub (pe_op op_add (pv 1) pe_int) (pe_ix ix_seq (pv 0) pe_int (fun _ _ => rfl))) pa_nil))))))),
    (ss_seq (ss_if (st_test (se_op2 s2_isN se_var se_non)) (ss_ret (se_op2 s2_add se_var se_int)) ss_next)
    (ss_seq (ss_if (st_test (se_op2 s2_eq (se_op2 s2_ix se_var se_int) se_str)) (ss_ret (se_cb sn_min2 (sa_cons (se_op2 s2_ix se_var se_int) (sa_cons (se_op2 s2_add se_var se_int) sa_nil)))) ss_next)
    (ss_ret (se_cb sn_max2 (sa_cons se_int (sa_cons (se_op2 s2_sub (se_op2 s2_add se_var se_int) (se_op2 s2_ix se_var se_int)) sa_nil))))))⟩
theorem ok_law_low (T : Txt c mg A) : FnR P w c.K mg base (L2.CX P w) 6 A.law_low (spD c (D_law_low)) :=
  fn_ss (N := Nn_law_low) (ps := ["_law_web_here", "_law_row", "_law_stand"]) (s := dn_law_low) T.F_law_low sc_law_low (T.F_law_low.binds (ps := ["_law_web_here", "_law_row", "_law_stand"]) fun _ _ _ _ _ _ us hl => match us, hl with | [_, _, _], _ => rfl) fun cdv A_ outer sh H E' hr => ⟨(tRet (tCB (rMin c.K) (tCons (tLc (iList c.K (tOp (rIx c.K) (tOp (rIx c.K) (tVar 0) (tC (V.int 0))) (tVar 2))) (gName 3) tYes (tOp (rIx c.K) (tVar 1) (tVar 3)) [3]) tNil))),
    (pss_one (ps_ret (pe_callB (cr_min rfl) (by rfl) T.n_min (by decide +kernel) (pa_cons (pe_lc (own := [("_law_step", 3)]) (g := gName 3) (wi := (iList c.K (tOp (rIx c.K) (tOp (rIx c.K) (tVar 0) (tC (V.int 0))) (tVar 2)))) (tt := tYes) (te := (tOp (rIx c.K) (tVar 1) (tVar 3))) rfl sc_law_low.nd (pi_list (pe_ix ix_seq (pe_ix ix_seq (pv 0) pe_int (fun _ _ => rfl)) (pv 2) (fun _ _ => rfl))) (blkOk_by (N := Nn_law_low) (sc := defScope s_law_low) (by decide +kernel)) (fun _ _ _ _ _ => pg_name (i := 3) sc_law_low.nd rfl (by first | exact Or.inl rfl | exact Or.inr rfl)) (fun _ _ _ _ _ => pts_nil) (fun _ _ _ _ _ => (pe_ix ix_seq (pv 1) (pv 3) (fun _ _ => rfl)))) pa_nil)))),
    (ss_ret (se_cb sn_minL (sa_cons (se_new (sen_comp (si_list (se_op2 s2_ix (se_op2 s2_ix se_var se_int) se_var)) st_true (se_op2 s2_ix se_var se_var))) sa_nil)))⟩
theorem ok_law_high (T : Txt c mg A) : FnR P w c.K mg base (L2.CX P w) 6 A.law_high (spD c (D_law_high)) :=
  fn_ss (N := Nn_law_high) (ps := ["_law_web_here", "_law_row", "_law_stand"]) (s := dn_law_high) T.F_law_high sc_law_high (T.F_law_high.binds (ps := ["_law_web_here", "_law_row", "_law_stand"]) fun _ _ _ _ _ _ us hl => match us, hl with | [_, _, _], _ => rfl) fun cdv A_ outer sh H E' hr => ⟨(tRet (tCB (rMax c.K) (tCons (tLc (iList c.K (tOp (rIx c.K) (tOp (rIx c.K) (tVar 0) (tC (V.int 1))) (tVar 2))) (gName 3) tYes (tOp (rIx c.K) (tVar 1) (tVar 3)) [3]) tNil))),
    (pss_one (ps_ret (pe_callB (cr_max rfl) (by rfl) T.n_max (by decide +kernel) (pa_cons (pe_lc (own := [("_law_step", 3)]) (g := gName 3) (wi := (iList c.K (tOp (rIx c.K) (tOp (rIx c.K) (tVar 0) (tC (V.int 1))) (tVar 2)))) (tt := tYes) (te := (tOp (rIx c.K) (tVar 1) (tVar 3))) rfl sc_law_high.nd (pi_list (pe_ix ix_seq (pe_ix ix_seq (pv 0) pe_int (fun _ _ => rfl)) (pv 2) (fun _ _ => rfl))) (blkOk_by (N := Nn_law_high) (sc := defScope s_law_high) (by decide +kernel)) (fun _ _ _ _ _ => pg_name (i := 3) sc_law_high.nd rfl (by first | exact Or.inl rfl | exact Or.inr rfl)) (fun _ _ _ _ _ => pts_nil) (fun _ _ _ _ _ => (pe_ix ix_seq (pv 1) (pv 3) (fun _ _ => rfl)))) pa_nil)))),
    (ss_ret (se_cb sn_maxL (sa_cons (se_new (sen_comp (si_list (se_op2 s2_ix (se_op2 s2_ix se_var se_int) se_var)) st_true (se_op2 s2_ix se_var se_var))) sa_nil)))⟩
theorem ok_law_made (T : Txt c mg A) : FnR P w c.K mg base (L2.CX P w) 8 A.law_made (spD c (D_law_built_k09 A.ca)) :=
  fn_ss (N := Nn_law_made) (ps := ["_law_web_here"]) (s := dn_law_built_k09 A.ca) T.F_law_made sc_law_made (T.F_law_made.binds (ps := ["_law_web_here"]) fun _ _ _ _ _ _ us hl => match us, hl with | [_], _ => rfl) fun cdv A_ outer sh H E' hr => ⟨(tRet (StX.tMakeR A.ca.Web (spI c A.ca.Web (D_Web_init_k09 A.ca)) E' (tCons (tLc (iList c.K (tOp (rIx c.K) (tVar 0) (tC (V.int 0)))) (gName 1) tYes (tCB (rListF c.K) (tCons (tVar 1) tNil)) [1]) (tCons (tLc (iList c.K (tOp (rIx c.K) (tVar 0) (tC (V.int 1)))) (gName 1) tYes (tCB (rListF c.K) (tCons (tVar 1) tNil)) [1]) (tCons (tCB (rListF c.K) (tCons (tOp (rIx c.K) (tVar 0) (tC (V.int 2))) tNil)) (tCons (tCB (rListF c.K) (tCons (tOp (rIx c.K) (tVar 0) (tC (V.int 3))) tNil)) tNil)))))),
    (pss_one (ps_ret (StX.pe_makeR T.mk_Web (ok_Web_init T) (hr.mono (by decide)) (by rfl) T.m_Web (fun pins σ H s e s' I h => passE (takes_of rfl rfl rfl rfl) σ pins H s e s' I h) (pa_cons (pe_lc (own := [("_law_lot_here", 1)]) (g := gName 1) (wi := (iList c.K (tOp (rIx c.K) (tVar 0) (tC (V.int 0))))) (tt := tYes) (te := (tCB (rListF c.K) (tCons (tVar 1) tNil))) rfl sc_law_made.nd (pi_list (pe_ix ix_seq (pv 0) pe_int (fun _ _ => rfl))) (blkOk_by (N := Nn_law_made) (sc := defScope s_law_made) (by decide +kernel)) (fun _ _ _ _ _ => pg_name (i := 1) sc_law_made.nd rfl (by first | exact Or.inl rfl | exact Or.inr rfl)) (fun _ _ _ _ _ => pts_nil) (fun _ _ _ _ _ => (pe_callTy call_list_of (by rfl) T.n_list (by decide +kernel) (pa_cons (pv 1) pa_nil)))) (pa_cons (pe_lc (own := [("_law_lot_here", 1)]) (g := gName 1) (wi := (iList c.K (tOp (rIx c.K) (tVar 0) (tC (V.int 1))))) (tt := tYes) (te := (tCB (rListF c.K) (tCons (tVar 1) tNil))) rfl sc_law_made.nd (pi_list (pe_ix ix_seq (pv 0) pe_int (fun _ _ => rfl))) (blkOk_by (N := Nn_law_made) (sc := defScope s_law_made) (by decide +kernel)) (fun _ _ _ _ _ => pg_name (i := 1) sc_law_made.nd rfl (by first | exact Or.inl rfl | exact Or.inr rfl)) (fun _ _ _ _ _ => pts_nil) (fun _ _ _ _ _ => (pe_callTy call_list_of (by rfl) T.n_list (by decide +kernel) (pa_cons (pv 1) pa_nil)))) (pa_cons (pe_callTy call_list_of (by rfl) T.n_list (by decide +kernel) (pa_cons (pe_ix ix_seq (pv 0) pe_int (fun _ _ => rfl)) pa_nil)) (pa_cons (pe_callTy call_list_of (by rfl) T.n_list (by decide +kernel) (pa_cons (pe_ix ix_seq (pv 0) pe_int (fun _ _ => rfl)) pa_nil)) pa_nil))))))),
    (ss_ret (se_make (sa_cons (se_new (sen_comp (si_list (se_op2 s2_ix se_var se_int)) st_true (se_new (sen_list (sa_cons se_var sa_nil))))) (sa_cons (se_new (sen_comp (si_list (se_op2 s2_ix se_var se_int)) st_true (se_new (sen_list (sa_cons se_var sa_nil))))) (sa_cons (se_new (sen_list (sa_cons (se_op2 s2_ix se_var se_int) sa_nil))) (sa_cons (se_new (sen_list (sa_cons (se_op2 s2_ix se_var se_int) sa_nil))) sa_nil))))))⟩
theorem ok_law_token_row (T : Txt c mg A) : FnR P w c.K mg base (L2.CX P w) 7 A.law_token_row (spD c (D_law_token_row)) :=
  fn_ss (N := Nn_law_token_row) (ps := ["_law_web_here", "_law_k"]) (s := dn_law_token_row) T.F_law_token_row sc_law_token_row (T.F_law_token_row.binds (ps := ["_law_web_here", "_law_k"]) fun _ _ _ _ _ _ us hl => match us, hl with | [_, _], _ => rfl) fun cdv A_ outer sh H E' hr => ⟨(tSeq (tAsg (tLc (iList c.K (tOp (rIx c.K) (tVar 0) (tC (V.int 3)))) (gName 3) tYes (tOp (rI CMul fun i j => V.int (i * j)) (tC (V.int 2)) (tCallS (spD c D_due_at) (fun _ => L2.E0) (tCons (tVar 3) (tCons (tVar 1) tNil)))) [3]) (gName 2))
    (tSeq (tAsg (tCB (rListF c.K) (tCons (tVar 2) tNil)) (gName 4))
    (tSeq (tFor (iRng1 (tCons (tOp (rI0 fun i j => V.int (i + j)) (tOp (rI CMul fun i j => V.int (i * j)) (tCB (rLenS c.K) (tCons (tVar 4) tNil)) (tOp (rI0 fun i j => V.int (i + j)) (tOp (rI CMul fun i j => V.int (i * j)) (tC (V.int 2)) (tVar 1)) (tC (V.int 3)))) (tC (V.int 1))) tNil)) (gName 5) (tSeq (tAsg (tLst tNil) (gName 6))
    (tSeq (tFor (iRng1 (tCons (tCB (rLenS c.K) (tCons (tVar 4) tNil)) tNil)) (gName 7) (tSeq (tAsg (tOp (rI0 fun i j => V.int (i + j)) (tOp (rI CMul fun i j => V.int (i * j)) (tC (V.int 2)) (tVar 1)) (tC (V.int 2))) (gName 8))
    (tSeq (tIfS (tTest (tOp (rI0 fun i j => V.bl (decide (j < i))) (tCB (rLenS c.K) (tCons (tOp (rIx c.K) (tOp (rIx c.K) (tVar 0) (tC (V.int 0))) (tVar 7)) tNil)) (tC (V.int 0)))) (tSeq (tAsg (tCallS (spD c D_law_low) (fun _ => E') (tCons (tVar 0) (tCons (tVar 4) (tCons (tVar 7) tNil)))) (gName 9))
    (tAsg (tOp (rI CDiv fun i j => V.int (i / j)) (tOp (rI0 fun i j => V.int (i + j)) (tOp (rI0 fun i j => V.int (i + j)) (tVar 9) (tCallS (spD c D_law_high) (fun _ => E') (tCons (tVar 0) (tCons (tVar 4) (tCons (tVar 7) tNil))))) (tOp (rI (fun _ j => 0 < j) fun i j => V.int (i % j)) (tCB rIntF (tCons (tVar 9) tNil)) (tC (V.int 2)))) (tC (V.int 2))) (gName 8))) tNext)
    (tDrop (tBM c.K "list" rAppend (tVar 6) (tCons (tCB rMin2F (tCons (tOp (rIx c.K) (tVar 2) (tVar 7)) (tCons (tVar 8) tNil))) tNil))))))
    (tSeq (tIfS (tTest (tOp (rEqD c.K) (tVar 6) (tVar 4))) (tRet (tVar 4)) tNext)
    (tAsg (tVar 6) (gName 4))))))
    (tRet (tVar 4))))),
    (pss_cons (ps_setLc (i := 2) (own := [("_law_due_here", 3)]) (g := gName 3) (wi := (iList c.K (tOp (rIx c.K) (tVar 0) (tC (V.int 3))))) (tt := tYes) (te := (tOp (rI CMul fun i j => V.int (i * j)) (tC (V.int 2)) (tCallS (spD c D_due_at) (fun _ => L2.E0) (tCons (tVar 3) (tCons (tVar 1) tNil))))) rfl sc_law_token_row.nd rfl rfl (sw_true rfl rfl rfl (by decide +kernel)) (pi_list (pe_ix ix_seq (pv 0) pe_int (fun _ _ => rfl))) (blkOk_by (N := Nn_law_token_row) (sc := defScope s_law_token_row) (by decide +kernel)) (fun _ _ _ _ _ => pg_name (i := 3) sc_law_token_row.nd rfl (by first | exact Or.inl rfl | exact Or.inr rfl)) (fun _ _ _ _ _ => pts_nil) (fun _ _ _ _ _ => (pe_op op_mul pe_int (pe_callRS (ok_law_due_at T) (hr.mono (by decide)) (by rfl) T.m_law_due_at T.F_law_due_at.kp passNo (pa_cons (pv 3) (pa_cons (pv 1) pa_nil))))))
    (pss_cons (ps_asg (pe_callTy call_list_of (by rfl) T.n_list (by decide +kernel) (pa_cons (pv 2) pa_nil)) (pg_name (i := 4) sc_law_token_row.nd rfl (by first | exact Or.inl rfl | exact Or.inr rfl)))
    (pss_cons (ps_for (passes_of rfl) rfl (pi_range1 (by rfl) T.n_range (pa_cons (pe_op op_add (pe_op op_mul (pe_callB call_len_seq (by rfl) T.n_len (by decide +kernel) (pa_cons (pv 4) pa_nil)) (pe_op op_add (pe_op op_mul pe_int (pv 1)) pe_int)) pe_int) pa_nil)) (pg_name (i := 5) sc_law_token_row.nd rfl (by first | exact Or.inl rfl | exact Or.inr rfl)) (pss_cons (ps_asg (pe_lst pa_nil) (pg_name (i := 6) sc_law_token_row.nd rfl (by first | exact Or.inl rfl | exact Or.inr rfl)))
    (pss_cons (ps_for (passes_of rfl) rfl (pi_range1 (by rfl) T.n_range (pa_cons (pe_callB call_len_seq (by rfl) T.n_len (by decide +kernel) (pa_cons (pv 4) pa_nil)) pa_nil)) (pg_name (i := 7) sc_law_token_row.nd rfl (by first | exact Or.inl rfl | exact Or.inr rfl)) (pss_cons (ps_asg (pe_op op_add (pe_op op_mul pe_int (pv 1)) pe_int) (pg_name (i := 8) sc_law_token_row.nd rfl (by first | exact Or.inl rfl | exact Or.inr rfl)))
    (pss_cons (ps_if (pt_cmpR op_gt (pe_callB call_len_seq (by rfl) T.n_len (by decide +kernel) (pa_cons (pe_ix ix_seq (pe_ix ix_seq (pv 0) pe_int (fun _ _ => rfl)) (pv 7) (fun _ _ => rfl)) pa_nil)) pe_int (nomark _)) (pss_cons (ps_asg (pe_callRS (ok_law_low T) (hr.mono (by decide)) (by rfl) T.m_law_low T.F_law_low.kp (passE (takes_of rfl rfl rfl rfl)) (pa_cons (pv 0) (pa_cons (pv 4) (pa_cons (pv 7) pa_nil)))) (pg_name (i := 9) sc_law_token_row.nd rfl (by first | exact Or.inl rfl | exact Or.inr rfl)))
    (pss_one (ps_asg (pe_op op_fdiv (pe_op op_add (pe_op op_add (pv 9) (pe_callRS (ok_law_high T) (hr.mono (by decide)) (by rfl) T.m_law_high T.F_law_high.kp (passE (takes_of rfl rfl rfl rfl)) (pa_cons (pv 0) (pa_cons (pv 4) (pa_cons (pv 7) pa_nil))))) (pe_op op_mod (pe_callTy call_int1 (by rfl) T.n_int (by decide +kernel) (pa_cons (pv 9) pa_nil)) pe_int)) pe_int) (pg_name (i := 8) sc_law_token_row.nd rfl (by first | exact Or.inl rfl | exact Or.inr rfl))))) pss_nil)
    (pss_one (ps_expr (pe_bm PySem.F.plainAttrs_list PySem.F.slot_list_append PySem.F.type_list_append mt_append (pv 6) (pa_cons (pe_callB (call_min2 rfl) (by rfl) T.n_min (by decide +kernel) (pa_cons (pe_ix ix_seq (pv 2) (pv 7) (fun _ _ => rfl)) (pa_cons (pv 8) pa_nil))) pa_nil)))))))
    (pss_cons (ps_if (pt_cmpR (op_eqD (hr.units)) (pv 6) (pv 4) (nomark _)) (pss_one (ps_ret (pv 4))) pss_nil)
    (pss_one (ps_asg (pv 6) (pg_name (i := 4) sc_law_token_row.nd rfl (by first | exact Or.inl rfl | exact Or.inr rfl))))))))
    (pss_one (ps_ret (pv 4)))))),
    (ss_seq (ss_asg (se_new (sen_comp (si_list (se_op2 s2_ix se_var se_int)) st_true (se_op2 s2_mul se_int (se_call (sa_cons se_var (sa_cons se_var sa_nil)))))) sg_name)
    (ss_seq (ss_asg (se_new (sen_list (sa_cons se_var sa_nil))) sg_name)
    (ss_seq (ss_for (si_rng1 (sa_cons (se_op2 s2_add (se_op2 s2_mul (se_cb sn_len (sa_cons se_var sa_nil)) (se_op2 s2_add (se_op2 s2_mul se_int se_var) se_int)) se_int) sa_nil)) sg_name (ss_seq (ss_own (sen_lst sa_nil))
    (ss_seq (ss_for (si_rng1 (sa_cons (se_cb sn_len (sa_cons se_var sa_nil)) sa_nil)) sg_name (ss_seq (ss_asg (se_op2 s2_add (se_op2 s2_mul se_int se_var) se_int) sg_name)
    (ss_seq (ss_if (st_test (se_op2 s2_gt (se_cb sn_len (sa_cons (se_op2 s2_ix (se_op2 s2_ix se_var se_int) se_var) sa_nil)) se_int)) (ss_seq (ss_asg (se_call (sa_cons se_var (sa_cons se_var (sa_cons se_var sa_nil)))) sg_name)
    (ss_asg (se_op2 s2_div (se_op2 s2_add (se_op2 s2_add se_var (se_call (sa_cons se_var (sa_cons se_var (sa_cons se_var sa_nil))))) (se_op2 s2_mod (se_cb sn_int (sa_cons se_var sa_nil)) se_int)) se_int) sg_name)) ss_next)
    (ss_append (se_cb sn_min2 (sa_cons (se_op2 s2_ix se_var se_var) (sa_cons se_var sa_nil)))))))
    (ss_seq (ss_if (st_lend (i := 6) (st_test (se_op2 s2_eqD se_var se_var))) (ss_ret se_var) ss_next)
    (ss_give (i := 6) (ss_asg se_var sg_name))))))
    (ss_ret se_var))))⟩
theorem ok_law_half_chips (T : Txt c mg A) : FnR P w c.K mg base (L2.CX P w) 6 A.law_half_chips (spD c (D_law_half_chips)) :=
  fn_ss (N := Nn_law_half_chips) (ps := ["_law_x", "_law_y"]) (s := dn_law_half_chips) T.F_law_half_chips sc_law_half_chips (T.F_law_half_chips.binds (ps := ["_law_x", "_law_y"]) fun _ _ _ _ _ _ us hl => match us, hl with | [_, _], _ => rfl) fun cdv A_ outer sh H E' hr => ⟨(tRet (tOp (rI CDiv fun i j => V.int (i / j)) (tOp (rI0 fun i j => V.int (i + j)) (tOp (rI0 fun i j => V.int (i + j)) (tVar 0) (tVar 1)) (tOp (rI (fun _ j => 0 < j) fun i j => V.int (i % j)) (tCB rIntF (tCons (tVar 0) tNil)) (tC (V.int 2)))) (tC (V.int 2)))),
    (pss_one (ps_ret (pe_op op_fdiv (pe_op op_add (pe_op op_add (pv 0) (pv 1)) (pe_op op_mod (pe_callTy call_int1 (by rfl) T.n_int (by decide +kernel) (pa_cons (pv 0) pa_nil)) pe_int)) pe_int))),
    (ss_ret (se_op2 s2_div (se_op2 s2_add (se_op2 s2_add se_var se_var) (se_op2 s2_mod (se_cb sn_int (sa_cons se_var sa_nil)) se_int)) se_int))⟩
theorem ok_law_after (T : Txt c mg A) : FnR P w c.K mg base (L2.CX P w) 6 A.law_after (spD c (D_law_after)) :=
  fn_ss (N := Nn_law_after) (ps := ["_law_h", "_law_p", "_law_first_takes", "_law_q", "_law_second_takes"]) (s := dn_law_after) T.F_law_after sc_law_after (T.F_law_after.binds (ps := ["_law_h", "_law_p", "_law_first_takes", "_law_q", "_law_second_takes"]) fun _ _ _ _ _ _ us hl => match us, hl with | [_, _, _, _, _], _ => rfl) fun cdv A_ outer sh H E' hr => ⟨(tSeq (tIfS (tTest (tOp (rI0 fun i j => V.bl (decide (j < i))) (tVar 1) (tVar 3))) (tRet (tLst (tCons (tC (V.int 1)) (tCons (tOp (rI0 fun i j => V.int (i - j)) (tVar 0) (tOp (rI CMul fun i j => V.int (i * j)) (tC (V.int 2)) (tVar 1))) tNil)))) tNext)
    (tSeq (tIfS (tTest (tOp (rI0 fun i j => V.bl (decide (i < j))) (tVar 1) (tVar 3))) (tRet (tLst (tCons (tC (V.int 2)) (tCons (tOp (rI0 fun i j => V.int (i + j)) (tVar 0) (tOp (rI CMul fun i j => V.int (i * j)) (tC (V.int 2)) (tVar 3))) tNil)))) tNext)
    (tSeq (tIfS (tTest (tOp rEq (tOp (rI (fun _ j => 0 < j) fun i j => V.int (i % j)) (tCB rIntF (tCons (tVar 0) tNil)) (tC (V.int 2))) (tC (V.int 1)))) (tSeq (tIfS (fun σ H Q => (tVar 2) σ H fun x H' => ∃ k, TruV c.K x H' k ∧ Q k H') (tRet (tLst (tCons (tC (V.int 1)) (tCons (tOp (rI0 fun i j => V.int (i - j)) (tOp (rI0 fun i j => V.int (i - j)) (tVar 0) (tOp (rI CMul fun i j => V.int (i * j)) (tC (V.int 2)) (tVar 1))) (tC (V.int 1))) tNil)))) tNext)
    (tRet (tLst (tCons (tC (V.int 2)) (tCons (tOp (rI0 fun i j => V.int (i + j)) (tVar 0) (tOp (rI CMul fun i j => V.int (i * j)) (tC (V.int 2)) (tVar 3))) tNil))))) tNext)
    (tSeq (tIfS (fun σ H Q => (tVar 4) σ H fun x H' => ∃ k, TruV c.K x H' k ∧ Q k H') (tRet (tLst (tCons (tC (V.int 2)) (tCons (tOp (rI0 fun i j => V.int (i + j)) (tOp (rI0 fun i j => V.int (i + j)) (tVar 0) (tOp (rI CMul fun i j => V.int (i * j)) (tC (V.int 2)) (tVar 3))) (tC (V.int 1))) tNil)))) tNext)
    (tRet (tLst (tCons (tC (V.int 1)) (tCons (tOp (rI0 fun i j => V.int (i - j)) (tVar 0) (tOp (rI CMul fun i j => V.int (i * j)) (tC (V.int 2)) (tVar 1))) tNil)))))))),
    (pss_cons (ps_if (pt_cmpR op_gt (pv 1) (pv 3) (nomark _)) (pss_one (ps_ret (pe_lst (pa_cons pe_int (pa_cons (pe_op op_sub (pv 0) (pe_op op_mul pe_int (pv 1))) pa_nil))))) pss_nil)
    (pss_cons (ps_if (pt_cmpR op_lt (pv 1) (pv 3) (nomark _)) (pss_one (ps_ret (pe_lst (pa_cons pe_int (pa_cons (pe_op op_add (pv 0) (pe_op op_mul pe_int (pv 3))) pa_nil))))) pss_nil)
    (pss_cons (ps_if (pt_cmpR op_eq (pe_op op_mod (pe_callTy call_int1 (by rfl) T.n_int (by decide +kernel) (pa_cons (pv 0) pa_nil)) pe_int) pe_int (nomark _)) (pss_cons (ps_if (pt_truth (pv 2) (by intro _; rfl)) (pss_one (ps_ret (pe_lst (pa_cons pe_int (pa_cons (pe_op op_sub (pe_op op_sub (pv 0) (pe_op op_mul pe_int (pv 1))) pe_int) pa_nil))))) pss_nil)
    (pss_one (ps_ret (pe_lst (pa_cons pe_int (pa_cons (pe_op op_add (pv 0) (pe_op op_mul pe_int (pv 3))) pa_nil)))))) pss_nil)
    (pss_cons (ps_if (pt_truth (pv 4) (by intro _; rfl)) (pss_one (ps_ret (pe_lst (pa_cons pe_int (pa_cons (pe_op op_add (pe_op op_add (pv 0) (pe_op op_mul pe_int (pv 3))) pe_int) pa_nil))))) pss_nil)
    (pss_one (ps_ret (pe_lst (pa_cons pe_int (pa_cons (pe_op op_sub (pv 0) (pe_op op_mul pe_int (pv 1))) pa_nil))))))))),
    (ss_seq (ss_if (st_test (se_op2 s2_gt se_var se_var)) (ss_ret (se_new (sen_lst (sa_cons se_int (sa_cons (se_op2 s2_sub se_var (se_op2 s2_mul se_int se_var)) sa_nil))))) ss_next)
    (ss_seq (ss_if (st_test (se_op2 s2_lt se_var se_var)) (ss_ret (se_new (sen_lst (sa_cons se_int (sa_cons (se_op2 s2_add se_var (se_op2 s2_mul se_int se_var)) sa_nil))))) ss_next)
    (ss_seq (ss_if (st_test (se_op2 s2_eq (se_op2 s2_mod (se_cb sn_int (sa_cons se_var sa_nil)) se_int) se_int)) (ss_seq (ss_if (st_tru se_var) (ss_ret (se_new (sen_lst (sa_cons se_int (sa_cons (se_op2 s2_sub (se_op2 s2_sub se_var (se_op2 s2_mul se_int se_var)) se_int) sa_nil))))) ss_next)
    (ss_ret (se_new (sen_lst (sa_cons se_int (sa_cons (se_op2 s2_add se_var (se_op2 s2_mul se_int se_var)) sa_nil)))))) ss_next)
    (ss_seq (ss_if (st_tru se_var) (ss_ret (se_new (sen_lst (sa_cons se_int (sa_cons (se_op2 s2_add (se_op2 s2_add se_var (se_op2 s2_mul se_int se_var)) se_int) sa_nil))))) ss_next)
    (ss_ret (se_new (sen_lst (sa_cons se_int (sa_cons (se_op2 s2_sub se_var (se_op2 s2_mul se_int se_var)) sa_nil)))))))))⟩
theorem ok_law_bids (T : Txt c mg A) : FnR P w c.K mg base (L2.CX P w) 6 A.law_bids (spD c (D_law_bids)) :=
  fn_ss (N := Nn_law_bids) (ps := ["_law_k", "_law_h", "_law_side"]) (s := dn_law_bids) T.F_law_bids sc_law_bids (T.F_law_bids.binds (ps := ["_law_k", "_law_h", "_law_side"]) fun _ _ _ _ _ _ us hl => match us, hl with | [_, _, _], _ => rfl) fun cdv A_ outer sh H E' hr => ⟨(tSeq (tAsg (tOp (rI CDiv fun i j => V.int (i / j)) (tVar 1) (tC (V.int 2))) (gName 3))
    (tSeq (tAsg (tOp (rI (fun _ j => 0 < j) fun i j => V.int (i % j)) (tCB rIntF (tCons (tVar 1) tNil)) (tC (V.int 2))) (gName 4))
    (tSeq (tIfS (tTest (tOp rEq (tVar 2) (tC (V.int 2)))) (tSeq (tAsg (tOp (rI0 fun i j => V.int (i - j)) (tVar 0) (tVar 3)) (gName 3))
    (tAsg (tOp (rI0 fun i j => V.int (i - j)) (tC (V.int 1)) (tVar 4)) (gName 4))) tNext)
    (tSeq (tAsg (tLc (iRng1 (tCons (tOp (rI0 fun i j => V.int (i + j)) (tVar 3) (tC (V.int 1))) tNil)) (gName 6) tYes (tTup (tCons (tVar 6) (tCons (tC (V.bl false)) tNil))) [6]) (gName 5))
    (tSeq (tIfS (tTest (tOp rEq (tVar 4) (tC (V.int 1)))) (tAsg (tOp rCat (tVar 5) (tLc (iRng1 (tCons (tOp (rI0 fun i j => V.int (i + j)) (tVar 3) (tC (V.int 1))) tNil)) (gName 6) tYes (tTup (tCons (tVar 6) (tCons (tC (V.bl true)) tNil))) [6])) (gName 5)) tNext)
    (tRet (tVar 5))))))),
    (pss_cons (ps_asg (pe_op op_fdiv (pv 1) pe_int) (pg_name (i := 3) sc_law_bids.nd rfl (by first | exact Or.inl rfl | exact Or.inr rfl)))
    (pss_cons (ps_asg (pe_op op_mod (pe_callTy call_int1 (by rfl) T.n_int (by decide +kernel) (pa_cons (pv 1) pa_nil)) pe_int) (pg_name (i := 4) sc_law_bids.nd rfl (by first | exact Or.inl rfl | exact Or.inr rfl)))
    (pss_cons (ps_if (pt_cmpR op_eq (pv 2) pe_int (nomark _)) (pss_cons (ps_asg (pe_op op_sub (pv 0) (pv 3)) (pg_name (i := 3) sc_law_bids.nd rfl (by first | exact Or.inl rfl | exact Or.inr rfl)))
    (pss_one (ps_asg (pe_op op_sub pe_int (pv 4)) (pg_name (i := 4) sc_law_bids.nd rfl (by first | exact Or.inl rfl | exact Or.inr rfl))))) pss_nil)
    (pss_cons (ps_setLc (i := 5) (own := [("_law_p", 6)]) (g := gName 6) (wi := (iRng1 (tCons (tOp (rI0 fun i j => V.int (i + j)) (tVar 3) (tC (V.int 1))) tNil))) (tt := tYes) (te := (tTup (tCons (tVar 6) (tCons (tC (V.bl false)) tNil)))) rfl sc_law_bids.nd rfl rfl (sw_true rfl rfl rfl (by decide +kernel)) (pi_range1 (by rfl) T.n_range (pa_cons (pe_op op_add (pv 3) pe_int) pa_nil)) (blkOk_by (N := Nn_law_bids) (sc := defScope s_law_bids) (by decide +kernel)) (fun _ _ _ _ _ => pg_name (i := 6) sc_law_bids.nd rfl (by first | exact Or.inl rfl | exact Or.inr rfl)) (fun _ _ _ _ _ => pts_nil) (fun _ _ _ _ _ => (pe_tup (pa_cons (pv 6) (pa_cons pe_bl pa_nil)))))
    (pss_cons (ps_if (pt_cmpR op_eq (pv 4) pe_int (nomark _)) (pss_one (ps_asg (pe_op op_cat (pv 5) (pe_lc (own := [("_law_p", 6)]) (g := gName 6) (wi := (iRng1 (tCons (tOp (rI0 fun i j => V.int (i + j)) (tVar 3) (tC (V.int 1))) tNil))) (tt := tYes) (te := (tTup (tCons (tVar 6) (tCons (tC (V.bl true)) tNil)))) rfl sc_law_bids.nd (pi_range1 (by rfl) T.n_range (pa_cons (pe_op op_add (pv 3) pe_int) pa_nil)) (blkOk_by (N := Nn_law_bids) (sc := defScope s_law_bids) (by decide +kernel)) (fun _ _ _ _ _ => pg_name (i := 6) sc_law_bids.nd rfl (by first | exact Or.inl rfl | exact Or.inr rfl)) (fun _ _ _ _ _ => pts_nil) (fun _ _ _ _ _ => (pe_tup (pa_cons (pv 6) (pa_cons pe_bl pa_nil)))))) (pg_name (i := 5) sc_law_bids.nd rfl (by first | exact Or.inl rfl | exact Or.inr rfl)))) pss_nil)
    (pss_one (ps_ret (pv 5)))))))),
    (ss_seq (ss_asg (se_op2 s2_div se_var se_int) sg_name)
    (ss_seq (ss_asg (se_op2 s2_mod (se_cb sn_int (sa_cons se_var sa_nil)) se_int) sg_name)
    (ss_seq (ss_if (st_test (se_op2 s2_eq se_var se_int)) (ss_seq (ss_asg (se_op2 s2_sub se_var se_var) sg_name)
    (ss_asg (se_op2 s2_sub se_int se_var) sg_name)) ss_next)
    (ss_seq (ss_asg (se_new (sen_comp (si_rng1 (sa_cons (se_op2 s2_add se_var se_int) sa_nil)) st_true (se_tup (sa_cons se_var (sa_cons se_bl sa_nil))))) sg_name)
    (ss_seq (ss_if (st_test (se_op2 s2_eq se_var se_int)) (ss_asg (se_op2 s2_cat se_var (se_new (sen_comp (si_rng1 (sa_cons (se_op2 s2_add se_var se_int) sa_nil)) st_true (se_tup (sa_cons se_var (sa_cons se_bl sa_nil)))))) sg_name) ss_next)
    (ss_ret se_var))))))⟩
theorem ok_law_own_serves (T : Txt c mg A) : FnR P w c.K mg base (L2.CX P w) 7 A.law_own_serves (spD c (D_law_own_serves)) :=
  fn_ss (N := Nn_law_own_serves) (ps := ["_law_low_here", "_law_high_here", "_law_k", "_law_h", "_law_side", "_law_bid"]) (s := dn_law_own_serves) T.F_law_own_serves sc_law_own_serves (T.F_law_own_serves.binds (ps := ["_law_low_here", "_law_high_here", "_law_k", "_law_h", "_law_side", "_law_bid"]) fun _ _ _ _ _ _ us hl => match us, hl with | [_, _, _, _, _, _], _ => rfl) fun cdv A_ outer sh H E' hr => ⟨(tSeq (tFor (iList c.K (tCallS (spD c D_law_bids) (fun _ => E') (tCons (tVar 2) (tCons (tVar 3) (tCons (tOp (rI0 fun i j => V.int (i - j)) (tC (V.int 3)) (tVar 4)) tNil))))) (gName 6) (tSeq (tIfS (tTest (tOp rEq (tVar 4) (tC (V.int 1)))) (tAsg (tCallS (spD c D_law_after) (fun _ => E') (tCons (tVar 3) (tCons (tOp (rIx c.K) (tVar 5) (tC (V.int 0))) (tCons (tOp (rIx c.K) (tVar 5) (tC (V.int 1))) (tCons (tOp (rIx c.K) (tVar 6) (tC (V.int 0))) (tCons (tOp (rIx c.K) (tVar 6) (tC (V.int 1))) tNil)))))) (gName 7)) (tAsg (tCallS (spD c D_law_after) (fun _ => E') (tCons (tVar 3) (tCons (tOp (rIx c.K) (tVar 6) (tC (V.int 0))) (tCons (tOp (rIx c.K) (tVar 6) (tC (V.int 1))) (tCons (tOp (rIx c.K) (tVar 5) (tC (V.int 0))) (tCons (tOp (rIx c.K) (tVar 5) (tC (V.int 1))) tNil)))))) (gName 7)))
    (tSeq (tAsg (tOp (rI0 fun i j => V.bl (decide (j ≤ i))) (tOp (rIx c.K) (tVar 7) (tC (V.int 1))) (tOp (rIx c.K) (tLst (tCons (tVar 0) (tCons (tVar 1) tNil))) (tOp (rI0 fun i j => V.int (i - j)) (tOp (rIx c.K) (tVar 7) (tC (V.int 0))) (tC (V.int 1))))) (gName 8))
    (tIfS (tTest (tOp rNe (tVar 8) (tOp rEq (tVar 4) (tC (V.int 1))))) (tRet (tC (V.bl false))) tNext))))
    (tRet (tC (V.bl true)))),
    (pss_cons (ps_for (passes_of rfl) rfl (pi_list (pe_callRS (ok_law_bids T) (hr.mono (by decide)) (by rfl) T.m_law_bids T.F_law_bids.kp (passE (takes_of rfl rfl rfl rfl)) (pa_cons (pv 2) (pa_cons (pv 3) (pa_cons (pe_op op_sub pe_int (pv 4)) pa_nil))))) (pg_name (i := 6) sc_law_own_serves.nd rfl (by first | exact Or.inl rfl | exact Or.inr rfl)) (pss_cons (ps_if (pt_cmpR op_eq (pv 4) pe_int (nomark _)) (pss_one (ps_asg (pe_callRS (ok_law_after T) (hr.mono (by decide)) (by rfl) T.m_law_after T.F_law_after.kp (passE (takes_of rfl rfl rfl rfl)) (pa_cons (pv 3) (pa_cons (pe_ix ix_seq (pv 5) pe_int (fun _ _ => rfl)) (pa_cons (pe_ix ix_seq (pv 5) pe_int (fun _ _ => rfl)) (pa_cons (pe_ix ix_seq (pv 6) pe_int (fun _ _ => rfl)) (pa_cons (pe_ix ix_seq (pv 6) pe_int (fun _ _ => rfl)) pa_nil)))))) (pg_name (i := 7) sc_law_own_serves.nd rfl (by first | exact Or.inl rfl | exact Or.inr rfl)))) (pss_one (ps_asg (pe_callRS (ok_law_after T) (hr.mono (by decide)) (by rfl) T.m_law_after T.F_law_after.kp (passE (takes_of rfl rfl rfl rfl)) (pa_cons (pv 3) (pa_cons (pe_ix ix_seq (pv 6) pe_int (fun _ _ => rfl)) (pa_cons (pe_ix ix_seq (pv 6) pe_int (fun _ _ => rfl)) (pa_cons (pe_ix ix_seq (pv 5) pe_int (fun _ _ => rfl)) (pa_cons (pe_ix ix_seq (pv 5) pe_int (fun _ _ => rfl)) pa_nil)))))) (pg_name (i := 7) sc_law_own_serves.nd rfl (by first | exact Or.inl rfl | exact Or.inr rfl)))))
    (pss_cons (ps_asg (pe_cmpR op_ge (pe_ix ix_seq (pv 7) pe_int (fun _ _ => rfl)) (pe_ix ix_seq (pe_lst (pa_cons (pv 0) (pa_cons (pv 1) pa_nil))) (pe_op op_sub (pe_ix ix_seq (pv 7) pe_int (fun _ _ => rfl)) pe_int) (fun _ _ => rfl)) (nomark _)) (pg_name (i := 8) sc_law_own_serves.nd rfl (by first | exact Or.inl rfl | exact Or.inr rfl)))
    (pss_one (ps_if (pt_cmpR op_ne (pv 8) (pe_cmpR op_eq (pv 4) pe_int (nomark _)) (nomark _)) (pss_one (ps_ret pe_bl)) pss_nil)))))
    (pss_one (ps_ret pe_bl))),
    (ss_seq (ss_for (si_list (se_call (sa_cons se_var (sa_cons se_var (sa_cons (se_op2 s2_sub se_int se_var) sa_nil))))) sg_name (ss_seq (ss_if (st_test (se_op2 s2_eq se_var se_int)) (ss_asg (se_call (sa_cons se_var (sa_cons (se_op2 s2_ix se_var se_int) (sa_cons (se_op2 s2_ix se_var se_int) (sa_cons (se_op2 s2_ix se_var se_int) (sa_cons (se_op2 s2_ix se_var se_int) sa_nil)))))) sg_name) (ss_asg (se_call (sa_cons se_var (sa_cons (se_op2 s2_ix se_var se_int) (sa_cons (se_op2 s2_ix se_var se_int) (sa_cons (se_op2 s2_ix se_var se_int) (sa_cons (se_op2 s2_ix se_var se_int) sa_nil)))))) sg_name))
    (ss_seq (ss_asg (se_op2 s2_ge (se_op2 s2_ix se_var se_int) (se_op2 s2_ix (se_new (sen_lst (sa_cons se_var (sa_cons se_var sa_nil)))) (se_op2 s2_sub (se_op2 s2_ix se_var se_int) se_int))) sg_name)
    (ss_if (st_test (se_op2 s2_ne se_var (se_op2 s2_eq se_var se_int))) (ss_ret se_bl) ss_next))))
    (ss_ret se_bl))⟩
theorem ok_law_size (T : Txt c mg A) : FnR P w c.K mg base (L2.CX P w) 6 A.law_size (spD c (D_law_size)) :=
  fn_ss (N := Nn_law_size) (ps := ["_law_low_here", "_law_high_here", "_law_h", "_law_side"]) (s := dn_law_size) T.F_law_size sc_law_size (T.F_law_size.binds (ps := ["_law_low_here", "_law_high_here", "_law_h", "_law_side"]) fun _ _ _ _ _ _ us hl => match us, hl with | [_, _, _, _], _ => rfl) fun cdv A_ outer sh H E' hr => ⟨(tSeq (tIfS (tAnd (tTest (tOp rEq (tVar 3) (tC (V.int 1)))) (tTest (tOp rEq (tOp (rI (fun _ j => 0 < j) fun i j => V.int (i % j)) (tCB rIntF (tCons (tVar 2) tNil)) (tC (V.int 2))) (tC (V.int 0))))) (tSeq (tAsg (tCB rMax2F (tCons (tC (V.int 0)) (tCons (tOp (rI0 fun i j => V.int (i - j)) (tOp (rI0 fun i j => V.int (i - j)) (tVar 1) (tVar 2)) (tC (V.int 1))) tNil))) (gName 4))
    (tRet (tOp (rI0 fun i j => V.int (i + j)) (tVar 4) (tOp (rI (fun _ j => 0 < j) fun i j => V.int (i % j)) (tCB rIntF (tCons (tVar 4) tNil)) (tC (V.int 2)))))) tNext)
    (tSeq (tIfS (tTest (tOp rEq (tVar 3) (tC (V.int 1)))) (tSeq (tAsg (tOp (rI0 fun i j => V.int (i - j)) (tVar 1) (tVar 2)) (gName 4))
    (tSeq (tIfS (tTest (tOp (rI0 fun i j => V.bl (decide (i ≤ j))) (tVar 4) (tC (V.int 0)))) (tRet (tC (V.int 0))) tNext)
    (tRet (tOp (rI0 fun i j => V.int (i + j)) (tOp (rI0 fun i j => V.int (i - j)) (tVar 4) (tC (V.int 1))) (tOp (rI (fun _ j => 0 < j) fun i j => V.int (i % j)) (tCB rIntF (tCons (tVar 4) tNil)) (tC (V.int 2))))))) tNext)
    (tSeq (tAsg (tOp (rI0 fun i j => V.int (i - j)) (tVar 2) (tVar 0)) (gName 4))
    (tSeq (tIfS (tTest (tOp rEq (tOp (rI (fun _ j => 0 < j) fun i j => V.int (i % j)) (tCB rIntF (tCons (tVar 2) tNil)) (tC (V.int 2))) (tC (V.int 1)))) (tRet (tOp (rI0 fun i j => V.int (i + j)) (tCB rMax2F (tCons (tC (V.int 0)) (tCons (tVar 4) tNil))) (tOp (rI (fun _ j => 0 < j) fun i j => V.int (i % j)) (tCB rIntF (tCons (tCB rMax2F (tCons (tC (V.int 0)) (tCons (tVar 4) tNil))) tNil)) (tC (V.int 2))))) tNext)
    (tSeq (tIfS (tTest (tOp (rI0 fun i j => V.bl (decide (i < j))) (tVar 4) (tC (V.int 0)))) (tRet (tC (V.int 0))) tNext)
    (tRet (tOp (rI0 fun i j => V.int (i - j)) (tOp (rI0 fun i j => V.int (i + j)) (tVar 4) (tC (V.int 1))) (tOp (rI (fun _ j => 0 < j) fun i j => V.int (i % j)) (tCB rIntF (tCons (tVar 4) tNil)) (tC (V.int 2)))))))))),
    (pss_cons (ps_if (PW.pt (pw_and (pt_cmpR op_eq (pv 3) pe_int (nomark _)) (pw_and1 (pt_cmpR op_eq (pe_op op_mod (pe_callTy call_int1 (by rfl) T.n_int (by decide +kernel) (pa_cons (pv 2) pa_nil)) pe_int) pe_int (nomark _))))) (pss_cons (ps_asg (pe_callB (call_max2 rfl) (by rfl) T.n_max (by decide +kernel) (pa_cons pe_int (pa_cons (pe_op op_sub (pe_op op_sub (pv 1) (pv 2)) pe_int) pa_nil))) (pg_name (i := 4) sc_law_size.nd rfl (by first | exact Or.inl rfl | exact Or.inr rfl)))
    (pss_one (ps_ret (pe_op op_add (pv 4) (pe_op op_mod (pe_callTy call_int1 (by rfl) T.n_int (by decide +kernel) (pa_cons (pv 4) pa_nil)) pe_int))))) pss_nil)
    (pss_cons (ps_if (pt_cmpR op_eq (pv 3) pe_int (nomark _)) (pss_cons (ps_asg (pe_op op_sub (pv 1) (pv 2)) (pg_name (i := 4) sc_law_size.nd rfl (by first | exact Or.inl rfl | exact Or.inr rfl)))
    (pss_cons (ps_if (pt_cmpR op_le (pv 4) pe_int (nomark _)) (pss_one (ps_ret pe_int)) pss_nil)
    (pss_one (ps_ret (pe_op op_add (pe_op op_sub (pv 4) pe_int) (pe_op op_mod (pe_callTy call_int1 (by rfl) T.n_int (by decide +kernel) (pa_cons (pv 4) pa_nil)) pe_int)))))) pss_nil)
    (pss_cons (ps_asg (pe_op op_sub (pv 2) (pv 0)) (pg_name (i := 4) sc_law_size.nd rfl (by first | exact Or.inl rfl | exact Or.inr rfl)))
    (pss_cons (ps_if (pt_cmpR op_eq (pe_op op_mod (pe_callTy call_int1 (by rfl) T.n_int (by decide +kernel) (pa_cons (pv 2) pa_nil)) pe_int) pe_int (nomark _)) (pss_one (ps_ret (pe_op op_add (pe_callB (call_max2 rfl) (by rfl) T.n_max (by decide +kernel) (pa_cons pe_int (pa_cons (pv 4) pa_nil))) (pe_op op_mod (pe_callTy call_int1 (by rfl) T.n_int (by decide +kernel) (pa_cons (pe_callB (call_max2 rfl) (by rfl) T.n_max (by decide +kernel) (pa_cons pe_int (pa_cons (pv 4) pa_nil))) pa_nil)) pe_int)))) pss_nil)
    (pss_cons (ps_if (pt_cmpR op_lt (pv 4) pe_int (nomark _)) (pss_one (ps_ret pe_int)) pss_nil)
    (pss_one (ps_ret (pe_op op_sub (pe_op op_add (pv 4) pe_int) (pe_op op_mod (pe_callTy call_int1 (by rfl) T.n_int (by decide +kernel) (pa_cons (pv 4) pa_nil)) pe_int))))))))),
    (ss_seq (ss_if (st_and (st_test (se_op2 s2_eq se_var se_int)) (st_test (se_op2 s2_eq (se_op2 s2_mod (se_cb sn_int (sa_cons se_var sa_nil)) se_int) se_int))) (ss_seq (ss_asg (se_cb sn_max2 (sa_cons se_int (sa_cons (se_op2 s2_sub (se_op2 s2_sub se_var se_var) se_int) sa_nil))) sg_name)
    (ss_ret (se_op2 s2_add se_var (se_op2 s2_mod (se_cb sn_int (sa_cons se_var sa_nil)) se_int)))) ss_next)
    (ss_seq (ss_if (st_test (se_op2 s2_eq se_var se_int)) (ss_seq (ss_asg (se_op2 s2_sub se_var se_var) sg_name)
    (ss_seq (ss_if (st_test (se_op2 s2_le se_var se_int)) (ss_ret se_int) ss_next)
    (ss_ret (se_op2 s2_add (se_op2 s2_sub se_var se_int) (se_op2 s2_mod (se_cb sn_int (sa_cons se_var sa_nil)) se_int))))) ss_next)
    (ss_seq (ss_asg (se_op2 s2_sub se_var se_var) sg_name)
    (ss_seq (ss_if (st_test (se_op2 s2_eq (se_op2 s2_mod (se_cb sn_int (sa_cons se_var sa_nil)) se_int) se_int)) (ss_ret (se_op2 s2_add (se_cb sn_max2 (sa_cons se_int (sa_cons se_var sa_nil))) (se_op2 s2_mod (se_cb sn_int (sa_cons (se_cb sn_max2 (sa_cons se_int (sa_cons se_var sa_nil))) sa_nil)) se_int))) ss_next)
    (ss_seq (ss_if (st_test (se_op2 s2_lt se_var se_int)) (ss_ret se_int) ss_next)
    (ss_ret (se_op2 s2_sub (se_op2 s2_add se_var se_int) (se_op2 s2_mod (se_cb sn_int (sa_cons se_var sa_nil)) se_int))))))))⟩
theorem ok_law_one_side (T : Txt c mg A) : FnR P w c.K mg base (L2.CX P w) 8 A.law_one_side (spD c (D_law_one_side A.ca)) :=
  fn_ss (N := Nn_law_one_side) (ps := ["_law_made_here", "_law_web_here", "_law_k", "_law_row", "_law_stand", "_law_h", "_law_side", "_law_wins"]) (s := dn_law_one_side A.ca) T.F_law_one_side sc_law_one_side (T.F_law_one_side.binds (ps := ["_law_made_here", "_law_web_here", "_law_k", "_law_row", "_law_stand", "_law_h", "_law_side", "_law_wins"]) fun _ _ _ _ _ _ us hl => match us, hl with | [_, _, _, _, _, _, _, _], _ => rfl) fun cdv A_ outer sh H E' hr => ⟨(tSeq (tAsg (tCallS (spD c D_law_low) (fun _ => E') (tCons (tVar 1) (tCons (tVar 3) (tCons (tVar 4) tNil)))) (gName 8))
    (tSeq (tAsg (tCallS (spD c D_law_high) (fun _ => E') (tCons (tVar 1) (tCons (tVar 3) (tCons (tVar 4) tNil)))) (gName 9))
    (tSeq (tAsg (tCallS (spD c D_law_size) (fun _ => E') (tCons (tVar 8) (tCons (tVar 9) (tCons (tVar 5) (tCons (tVar 6) tNil))))) (gName 10))
    (tSeq (tAsg (tOp (rI CDiv fun i j => V.int (i / j)) (tVar 5) (tC (V.int 2))) (gName 11))
    (tSeq (tAsg (tVar 8) (gName 12))
    (tSeq (tAsg (tOp (rIx c.K) (tOp (rIx c.K) (tVar 1) (tC (V.int 0))) (tVar 4)) (gName 13))
    (tSeq (tIfS (tTest (tOp rEq (tVar 6) (tC (V.int 2)))) (tSeq (tAsg (tOp (rI0 fun i j => V.int (i - j)) (tVar 2) (tVar 11)) (gName 11))
    (tSeq (tAsg (tVar 9) (gName 12))
    (tAsg (tOp (rIx c.K) (tOp (rIx c.K) (tVar 1) (tC (V.int 1))) (tVar 4)) (gName 13)))) tNext)
    (tSeq (tAsg (tCB (rMin c.K) (tCons (tLc (iList c.K (tVar 13)) (gName 15) (tTest (tOp rEq (tOp (rIx c.K) (tVar 3) (tVar 15)) (tVar 12))) (tVar 15) [15]) tNil)) (gName 14))
    (tSeq (tIfS (tTest (tOp rEq (tVar 6) (tC (V.int 1)))) (tAsg (tCallS (spD c (D_token_first A.ca)) (fun _ => E') (tCons (tVar 0) (tCons (tVar 2) (tCons (tVar 3) (tCons (tVar 4) (tCons (tVar 5) tNil)))))) (gName 16)) (tAsg (tCallS (spD c (D_token_second A.ca)) (fun _ => E') (tCons (tVar 0) (tCons (tVar 2) (tCons (tVar 3) (tCons (tVar 4) (tCons (tVar 5) tNil)))))) (gName 16)))
    (tSeq (tIfS (tOr (tNot (fun σ H Q => (tCB (rIsi c.K) (tCons (tVar 16) (tCons (tC (V.ty "tuple")) tNil))) σ H fun x H' => ∃ k, TruV c.K x H' k ∧ Q k H')) (tTest (tOp (rNeD c.K) (tVar 16) (tTup (tCons (tCB rMin2F (tCons (tOp (rI CDiv fun i j => V.int (i / j)) (tVar 10) (tC (V.int 2))) (tCons (tVar 11) tNil))) (tCons (tOp rEq (tOp (rI (fun _ j => 0 < j) fun i j => V.int (i % j)) (tCB rIntF (tCons (tVar 10) tNil)) (tC (V.int 2))) (tC (V.int 1))) (tCons (tVar 14) tNil))))))) (tRet (tC (V.bl false))) tNext)
    (tSeq (tIfS (tOr (tNot (fun σ H Q => (tCallS (spD c D_is_integer) (fun _ => E') (tCons (tOp (rIx c.K) (tVar 16) (tC (V.int 0))) tNil)) σ H fun x H' => ∃ k, TruV c.K x H' k ∧ Q k H')) (tOr (tNot (fun σ H Q => (tCB (rIsi c.K) (tCons (tOp (rIx c.K) (tVar 16) (tC (V.int 1))) (tCons (tC (V.ty "bool")) tNil))) σ H fun x H' => ∃ k, TruV c.K x H' k ∧ Q k H')) (tNot (fun σ H Q => (tCallS (spD c D_is_integer) (fun _ => E') (tCons (tOp (rIx c.K) (tVar 16) (tC (V.int 2))) tNil)) σ H fun x H' => ∃ k, TruV c.K x H' k ∧ Q k H')))) (tRet (tC (V.bl false))) tNext)
    (tSeq (tFor (iList c.K (tCallS (spD c D_law_bids) (fun _ => E') (tCons (tVar 2) (tCons (tVar 5) (tCons (tVar 6) tNil))))) (gName 17) (tSeq (tAsg (tCallS (spD c (D_token_serves A.ca)) (fun _ => E') (tCons (tVar 0) (tCons (tVar 2) (tCons (tVar 3) (tCons (tVar 4) (tCons (tVar 5) (tCons (tVar 6) (tCons (tOp (rIx c.K) (tVar 17) (tC (V.int 0))) (tCons (tOp (rIx c.K) (tVar 17) (tC (V.int 1))) tNil))))))))) (gName 18))
    (tSeq (tIfS (tOr (tNot (fun σ H Q => (tCB (rIsi c.K) (tCons (tVar 18) (tCons (tC (V.ty "bool")) tNil))) σ H fun x H' => ∃ k, TruV c.K x H' k ∧ Q k H')) (tTest (tOp rNe (tVar 18) (tCallS (spD c D_law_own_serves) (fun _ => E') (tCons (tVar 8) (tCons (tVar 9) (tCons (tVar 2) (tCons (tVar 5) (tCons (tVar 6) (tCons (tVar 17) tNil)))))))))) (tRet (tC (V.bl false))) tNext)
    (tSeq (tAsg (tOp (rI0 fun i j => V.int (i + j)) (tOp (rI CMul fun i j => V.int (i * j)) (tC (V.int 2)) (tOp (rIx c.K) (tVar 17) (tC (V.int 0)))) (tCB rIntF (tCons (tOp (rIx c.K) (tVar 17) (tC (V.int 1))) tNil))) (gName 19))
    (tSeq (tIfS (tAnd (fun σ H Q => (tVar 18) σ H fun x H' => ∃ k, TruV c.K x H' k ∧ Q k H') (tOr (tNot (fun σ H Q => (tVar 7) σ H fun x H' => ∃ k, TruV c.K x H' k ∧ Q k H')) (tTest (tOp (rI0 fun i j => V.bl (decide (i < j))) (tVar 19) (tVar 10))))) (tRet (tC (V.bl false))) tNext)
    (tIfS (tAnd (fun σ H Q => (tVar 7) σ H fun x H' => ∃ k, TruV c.K x H' k ∧ Q k H') (tAnd (tTest (tOp rEq (tVar 19) (tVar 10))) (tNot (fun σ H Q => (tVar 18) σ H fun x H' => ∃ k, TruV c.K x H' k ∧ Q k H')))) (tRet (tC (V.bl false))) tNext))))))
    (tRet (tOrV (tNotT c.K (tVar 7)) (tOp (rI0 fun i j => V.bl (decide (i ≤ j))) (tOp (rI CDiv fun i j => V.int (i / j)) (tVar 10) (tC (V.int 2))) (tVar 11)))))))))))))))),
    (pss_cons (ps_asg (pe_callRS (ok_law_low T) (hr.mono (by decide)) (by rfl) T.m_law_low T.F_law_low.kp (passE (takes_of rfl rfl rfl rfl)) (pa_cons (pv 1) (pa_cons (pv 3) (pa_cons (pv 4) pa_nil)))) (pg_name (i := 8) sc_law_one_side.nd rfl (by first | exact Or.inl rfl | exact Or.inr rfl)))
    (pss_cons (ps_asg (pe_callRS (ok_law_high T) (hr.mono (by decide)) (by rfl) T.m_law_high T.F_law_high.kp (passE (takes_of rfl rfl rfl rfl)) (pa_cons (pv 1) (pa_cons (pv 3) (pa_cons (pv 4) pa_nil)))) (pg_name (i := 9) sc_law_one_side.nd rfl (by first | exact Or.inl rfl | exact Or.inr rfl)))
    (pss_cons (ps_asg (pe_callRS (ok_law_size T) (hr.mono (by decide)) (by rfl) T.m_law_size T.F_law_size.kp (passE (takes_of rfl rfl rfl rfl)) (pa_cons (pv 8) (pa_cons (pv 9) (pa_cons (pv 5) (pa_cons (pv 6) pa_nil))))) (pg_name (i := 10) sc_law_one_side.nd rfl (by first | exact Or.inl rfl | exact Or.inr rfl)))
    (pss_cons (ps_asg (pe_op op_fdiv (pv 5) pe_int) (pg_name (i := 11) sc_law_one_side.nd rfl (by first | exact Or.inl rfl | exact Or.inr rfl)))
    (pss_cons (ps_asg (pv 8) (pg_name (i := 12) sc_law_one_side.nd rfl (by first | exact Or.inl rfl | exact Or.inr rfl)))
    (pss_cons (ps_asg (pe_ix ix_seq (pe_ix ix_seq (pv 1) pe_int (fun _ _ => rfl)) (pv 4) (fun _ _ => rfl)) (pg_name (i := 13) sc_law_one_side.nd rfl (by first | exact Or.inl rfl | exact Or.inr rfl)))
    (pss_cons (ps_if (pt_cmpR op_eq (pv 6) pe_int (nomark _)) (pss_cons (ps_asg (pe_op op_sub (pv 2) (pv 11)) (pg_name (i := 11) sc_law_one_side.nd rfl (by first | exact Or.inl rfl | exact Or.inr rfl)))
    (pss_cons (ps_asg (pv 9) (pg_name (i := 12) sc_law_one_side.nd rfl (by first | exact Or.inl rfl | exact Or.inr rfl)))
    (pss_one (ps_asg (pe_ix ix_seq (pe_ix ix_seq (pv 1) pe_int (fun _ _ => rfl)) (pv 4) (fun _ _ => rfl)) (pg_name (i := 13) sc_law_one_side.nd rfl (by first | exact Or.inl rfl | exact Or.inr rfl)))))) pss_nil)
    (pss_cons (ps_asg (pe_callB (cr_min rfl) (by rfl) T.n_min (by decide +kernel) (pa_cons (pe_lc (own := [("_law_one", 15)]) (g := gName 15) (wi := (iList c.K (tVar 13))) (tt := (tTest (tOp rEq (tOp (rIx c.K) (tVar 3) (tVar 15)) (tVar 12)))) (te := (tVar 15)) rfl sc_law_one_side.nd (pi_list (pv 13)) (blkOk_by (N := Nn_law_one_side) (sc := defScope s_law_one_side) (by decide +kernel)) (fun _ _ _ _ _ => pg_name (i := 15) sc_law_one_side.nd rfl (by first | exact Or.inl rfl | exact Or.inr rfl)) (fun _ _ _ _ _ => (pts_one (pt_cmpR op_eq (pe_ix ix_seq (pv 3) (pv 15) (fun _ _ => rfl)) (pv 12) (nomark _)))) (fun _ _ _ _ _ => (pv 15))) pa_nil)) (pg_name (i := 14) sc_law_one_side.nd rfl (by first | exact Or.inl rfl | exact Or.inr rfl)))
    (pss_cons (ps_if (pt_cmpR op_eq (pv 6) pe_int (nomark _)) (pss_one (ps_asg (pe_callRS (ok_token_first T) (hr.mono (by decide)) (by rfl) T.m_token_first T.F_token_first.kp (passE (takes_of rfl rfl rfl rfl)) (pa_cons (pv 0) (pa_cons (pv 2) (pa_cons (pv 3) (pa_cons (pv 4) (pa_cons (pv 5) pa_nil)))))) (pg_name (i := 16) sc_law_one_side.nd rfl (by first | exact Or.inl rfl | exact Or.inr rfl)))) (pss_one (ps_asg (pe_callRS (ok_token_second T) (hr.mono (by decide)) (by rfl) T.m_token_second T.F_token_second.kp (passE (takes_of rfl rfl rfl rfl)) (pa_cons (pv 0) (pa_cons (pv 2) (pa_cons (pv 3) (pa_cons (pv 4) (pa_cons (pv 5) pa_nil)))))) (pg_name (i := 16) sc_law_one_side.nd rfl (by first | exact Or.inl rfl | exact Or.inr rfl)))))
    (pss_cons (ps_if (PW.pt (pw_or (pt_not (pt_truth (pe_callB call_isi (by rfl) T.n_isinstance (by decide +kernel) (pa_cons (pv 16) (pa_cons (pe_bltn (v := V.ty "tuple") (by rfl) T.n_tuple (by decide +kernel) rfl) pa_nil))) (by intro _; rfl))) (pw_or1 (pt_cmpR (op_neD (hr.units)) (pv 16) (pe_tup (pa_cons (pe_callB (call_min2 rfl) (by rfl) T.n_min (by decide +kernel) (pa_cons (pe_op op_fdiv (pv 10) pe_int) (pa_cons (pv 11) pa_nil))) (pa_cons (pe_cmpR op_eq (pe_op op_mod (pe_callTy call_int1 (by rfl) T.n_int (by decide +kernel) (pa_cons (pv 10) pa_nil)) pe_int) pe_int (nomark _)) (pa_cons (pv 14) pa_nil)))) (nomark _))))) (pss_one (ps_ret pe_bl)) pss_nil)
    (pss_cons (ps_if (PW.pt (pw_or (pt_not (pt_truth (pe_callRS (ok_law_whole T) (hr.mono (by decide)) (by rfl) T.m_law_whole T.F_law_whole.kp (passE (takes_of rfl rfl rfl rfl)) (pa_cons (pe_ix ix_seq (pv 16) pe_int (fun _ _ => rfl)) pa_nil)) (by intro _; rfl))) (pw_or (pt_not (pt_truth (pe_callB call_isi (by rfl) T.n_isinstance (by decide +kernel) (pa_cons (pe_ix ix_seq (pv 16) pe_int (fun _ _ => rfl)) (pa_cons (pe_bltn (v := V.ty "bool") (by rfl) T.n_bool (by decide +kernel) rfl) pa_nil))) (by intro _; rfl))) (pw_or1 (pt_not (pt_truth (pe_callRS (ok_law_whole T) (hr.mono (by decide)) (by rfl) T.m_law_whole T.F_law_whole.kp (passE (takes_of rfl rfl rfl rfl)) (pa_cons (pe_ix ix_seq (pv 16) pe_int (fun _ _ => rfl)) pa_nil)) (by intro _; rfl))))))) (pss_one (ps_ret pe_bl)) pss_nil)
    (pss_cons (ps_for (passes_of rfl) rfl (pi_list (pe_callRS (ok_law_bids T) (hr.mono (by decide)) (by rfl) T.m_law_bids T.F_law_bids.kp (passE (takes_of rfl rfl rfl rfl)) (pa_cons (pv 2) (pa_cons (pv 5) (pa_cons (pv 6) pa_nil))))) (pg_name (i := 17) sc_law_one_side.nd rfl (by first | exact Or.inl rfl | exact Or.inr rfl)) (pss_cons (ps_asg (pe_callRS (ok_token_serves T) (hr.mono (by decide)) (by rfl) T.m_token_serves T.F_token_serves.kp (passE (takes_of rfl rfl rfl rfl)) (pa_cons (pv 0) (pa_cons (pv 2) (pa_cons (pv 3) (pa_cons (pv 4) (pa_cons (pv 5) (pa_cons (pv 6) (pa_cons (pe_ix ix_seq (pv 17) pe_int (fun _ _ => rfl)) (pa_cons (pe_ix ix_seq (pv 17) pe_int (fun _ _ => rfl)) pa_nil))))))))) (pg_name (i := 18) sc_law_one_side.nd rfl (by first | exact Or.inl rfl | exact Or.inr rfl)))
    (pss_cons (ps_if (PW.pt (pw_or (pt_not (pt_truth (pe_callB call_isi (by rfl) T.n_isinstance (by decide +kernel) (pa_cons (pv 18) (pa_cons (pe_bltn (v := V.ty "bool") (by rfl) T.n_bool (by decide +kernel) rfl) pa_nil))) (by intro _; rfl))) (pw_or1 (pt_cmpR op_ne (pv 18) (pe_callRS (ok_law_own_serves T) (hr.mono (by decide)) (by rfl) T.m_law_own_serves T.F_law_own_serves.kp (passE (takes_of rfl rfl rfl rfl)) (pa_cons (pv 8) (pa_cons (pv 9) (pa_cons (pv 2) (pa_cons (pv 5) (pa_cons (pv 6) (pa_cons (pv 17) pa_nil))))))) (nomark _))))) (pss_one (ps_ret pe_bl)) pss_nil)
    (pss_cons (ps_asg (pe_op op_add (pe_op op_mul pe_int (pe_ix ix_seq (pv 17) pe_int (fun _ _ => rfl))) (pe_callTy call_int1 (by rfl) T.n_int (by decide +kernel) (pa_cons (pe_ix ix_seq (pv 17) pe_int (fun _ _ => rfl)) pa_nil))) (pg_name (i := 19) sc_law_one_side.nd rfl (by first | exact Or.inl rfl | exact Or.inr rfl)))
    (pss_cons (ps_if (PW.pt (pw_and (pt_truth (pv 18) (by intro _; rfl)) (pw_and1 (PW.pt (pw_or (pt_not (pt_truth (pv 7) (by intro _; rfl))) (pw_or1 (pt_cmpR op_lt (pv 19) (pv 10) (nomark _)))))))) (pss_one (ps_ret pe_bl)) pss_nil)
    (pss_one (ps_if (PW.pt (pw_and (pt_truth (pv 7) (by intro _; rfl)) (pw_and (pt_cmpR op_eq (pv 19) (pv 10) (nomark _)) (pw_and1 (pt_not (pt_truth (pv 18) (by intro _; rfl))))))) (pss_one (ps_ret pe_bl)) pss_nil)))))))
    (pss_one (ps_ret (pe_or (pe_notT (pv 7)) (pe_one (pe_cmpR op_le (pe_op op_fdiv (pv 10) pe_int) (pv 11) (nomark _)))))))))))))))))),
    (ss_seq (ss_asg (se_call (sa_cons se_var (sa_cons se_var (sa_cons se_var sa_nil)))) sg_name)
    (ss_seq (ss_asg (se_call (sa_cons se_var (sa_cons se_var (sa_cons se_var sa_nil)))) sg_name)
    (ss_seq (ss_asg (se_call (sa_cons se_var (sa_cons se_var (sa_cons se_var (sa_cons se_var sa_nil))))) sg_name)
    (ss_seq (ss_asg (se_op2 s2_div se_var se_int) sg_name)
    (ss_seq (ss_asg se_var sg_name)
    (ss_seq (ss_asg (se_op2 s2_ix (se_op2 s2_ix se_var se_int) se_var) sg_name)
    (ss_seq (ss_if (st_test (se_op2 s2_eq se_var se_int)) (ss_seq (ss_asg (se_op2 s2_sub se_var se_var) sg_name)
    (ss_seq (ss_asg se_var sg_name)
    (ss_asg (se_op2 s2_ix (se_op2 s2_ix se_var se_int) se_var) sg_name))) ss_next)
    (ss_seq (ss_asg (se_cb sn_minL (sa_cons (se_new (sen_comp (si_list se_var) (st_test (se_op2 s2_eq (se_op2 s2_ix se_var se_var) se_var)) se_var)) sa_nil)) sg_name)
    (ss_seq (ss_if (st_test (se_op2 s2_eq se_var se_int)) (ss_asg (se_call (sa_cons se_var (sa_cons se_var (sa_cons se_var (sa_cons se_var (sa_cons se_var sa_nil)))))) sg_name) (ss_asg (se_call (sa_cons se_var (sa_cons se_var (sa_cons se_var (sa_cons se_var (sa_cons se_var sa_nil)))))) sg_name))
    (ss_seq (ss_if (st_or (st_not (st_tru (se_cb sn_is1 (sa_cons se_var (sa_cons (se_c fun _ _ => At.ty Ty.tup) sa_nil))))) (st_test (se_op2 s2_neD se_var (se_tup (sa_cons (se_cb sn_min2 (sa_cons (se_op2 s2_div se_var se_int) (sa_cons se_var sa_nil))) (sa_cons (se_op2 s2_eq (se_op2 s2_mod (se_cb sn_int (sa_cons se_var sa_nil)) se_int) se_int) (sa_cons se_var sa_nil))))))) (ss_ret se_bl) ss_next)
    (ss_seq (ss_if (st_or (st_not (st_tru (se_call (sa_cons (se_op2 s2_ix se_var se_int) sa_nil)))) (st_or (st_not (st_tru (se_cb sn_is1 (sa_cons (se_op2 s2_ix se_var se_int) (sa_cons (se_c fun _ _ => At.ty Ty.bl) sa_nil))))) (st_not (st_tru (se_call (sa_cons (se_op2 s2_ix se_var se_int) sa_nil)))))) (ss_ret se_bl) ss_next)
    (ss_seq (ss_for (si_list (se_call (sa_cons se_var (sa_cons se_var (sa_cons se_var sa_nil))))) sg_name (ss_seq (ss_asg (se_call (sa_cons se_var (sa_cons se_var (sa_cons se_var (sa_cons se_var (sa_cons se_var (sa_cons se_var (sa_cons (se_op2 s2_ix se_var se_int) (sa_cons (se_op2 s2_ix se_var se_int) sa_nil))))))))) sg_name)
    (ss_seq (ss_if (st_or (st_not (st_tru (se_cb sn_is1 (sa_cons se_var (sa_cons (se_c fun _ _ => At.ty Ty.bl) sa_nil))))) (st_test (se_op2 s2_ne se_var (se_call (sa_cons se_var (sa_cons se_var (sa_cons se_var (sa_cons se_var (sa_cons se_var (sa_cons se_var sa_nil)))))))))) (ss_ret se_bl) ss_next)
    (ss_seq (ss_asg (se_op2 s2_add (se_op2 s2_mul se_int (se_op2 s2_ix se_var se_int)) (se_cb sn_int (sa_cons (se_op2 s2_ix se_var se_int) sa_nil))) sg_name)
    (ss_seq (ss_if (st_and (st_tru se_var) (st_or (st_not (st_tru se_var)) (st_test (se_op2 s2_lt se_var se_var)))) (ss_ret se_bl) ss_next)
    (ss_if (st_and (st_tru se_var) (st_and (st_test (se_op2 s2_eq se_var se_var)) (st_not (st_tru se_var)))) (ss_ret se_bl) ss_next))))))
    (ss_ret (se_or (se_notT se_var) (se_op2 s2_le (se_op2 s2_div se_var se_int) se_var)))))))))))))))⟩
def tb_law_refused (c : Cfg) (w : World) (A : Adr) (W : WX) : TS := (tSeq (tIfS (tTest (tOp rEq (tVar 0) (tC (V.int 0)))) (tDrop (tCallS (spD c (D_token_first A.ca)) (fun σ cls d H => W cls d σ H) (tCons (tVar 1) (tCons (tVar 2) (tCons (tVar 3) (tCons (tVar 4) (tCons (tVar 5) tNil))))))) tNext)
    (tSeq (tIfS (tTest (tOp rEq (tVar 0) (tC (V.int 1)))) (tDrop (tCallS (spD c (D_token_second A.ca)) (fun σ cls d H => W cls d σ H) (tCons (tVar 1) (tCons (tVar 2) (tCons (tVar 3) (tCons (tVar 4) (tCons (tVar 5) tNil))))))) tNext)
    (tIfS (tTest (tOp rEq (tVar 0) (tC (V.int 2)))) (tDrop (tCallS (spD c (D_token_serves A.ca)) (fun σ cls d H => W cls d σ H) (tCons (tVar 1) (tCons (tVar 2) (tCons (tVar 3) (tCons (tVar 4) (tCons (tVar 5) (tCons (tVar 6) (tCons (tVar 7) (tCons (tVar 8) tNil)))))))))) tNext)))
theorem se_tb_law_refused (T : Txt c mg A) (W : WX) : SS c (fun σ cls d H => W cls d σ H) (tb_law_refused c w A W) ((sseq (sif (mtest (op2 fEq (mvar 0) (mret (D.int 0)))) (sdrop (mcall (D_token_first A.ca) (acons (mvar 1) (acons (mvar 2) (acons (mvar 3) (acons (mvar 4) (acons (mvar 5) anil))))))) sskip)
    (sseq (sif (mtest (op2 fEq (mvar 0) (mret (D.int 1)))) (sdrop (mcall (D_token_second A.ca) (acons (mvar 1) (acons (mvar 2) (acons (mvar 3) (acons (mvar 4) (acons (mvar 5) anil))))))) sskip)
    (sif (mtest (op2 fEq (mvar 0) (mret (D.int 2)))) (sdrop (mcall (D_token_serves A.ca) (acons (mvar 1) (acons (mvar 2) (acons (mvar 3) (acons (mvar 4) (acons (mvar 5) (acons (mvar 6) (acons (mvar 7) (acons (mvar 8) anil)))))))))) sskip)))) := (ss_seq (ss_if (st_test (se_op2 s2_eq se_var se_int)) (ss_drop (se_call (sa_cons se_var (sa_cons se_var (sa_cons se_var (sa_cons se_var (sa_cons se_var sa_nil))))))) ss_next)
    (ss_seq (ss_if (st_test (se_op2 s2_eq se_var se_int)) (ss_drop (se_call (sa_cons se_var (sa_cons se_var (sa_cons se_var (sa_cons se_var (sa_cons se_var sa_nil))))))) ss_next)
    (ss_if (st_test (se_op2 s2_eq se_var se_int)) (ss_drop (se_call (sa_cons se_var (sa_cons se_var (sa_cons se_var (sa_cons se_var (sa_cons se_var (sa_cons se_var (sa_cons se_var (sa_cons se_var sa_nil)))))))))) ss_next)))
theorem ok_law_refused (T : Txt c mg A) : FnR P w c.K mg base (L2.CX P w) 7 A.law_refused (spD c (D_law_refused_k56 A.ca)) :=
  fn_ss (N := Nn_law_refused) (ps := ["_law_what", "_law_made_here", "_law_k", "_law_row", "_law_stand", "_law_h", "_law_side", "_law_bid", "_law_takes"]) (s := dn_law_refused_k56 A.ca) T.F_law_refused sc_law_refused (T.F_law_refused.binds (ps := ["_law_what", "_law_made_here", "_law_k", "_law_row", "_law_stand", "_law_h", "_law_side", "_law_bid", "_law_takes"]) fun _ _ _ _ _ _ us hl => match us, hl with | [_, _, _, _, _, _, _, _, _], _ => rfl) fun cdv A_ outer sh H E' hr => ⟨(tSeq (tAsg (tC (V.str "none")) (gName 9))
    (tSeq (fun D σ H => tb_law_refused c w A (wMany c.K (fun cls d σ H => (fun _ => E') σ cls d H) D [(Value.ref (c.ec 3), fun _ _ _ => (tAsg (tC (V.str "much")) (gName 9))), (Value.ref (c.ec 5), fun _ _ _ => (tAsg (tC (V.str "deed")) (gName 9))), (Value.ref (c.ec 4), fun _ _ _ => (tAsg (tC (V.str "text")) (gName 9))), (Value.ref (c.ec 2), fun _ _ _ => (tAsg (tC (V.str "web")) (gName 9))), (Value.ref (c.ec 1), fun _ _ _ => (tAsg (tC (V.str "number")) (gName 9))), (Value.ref (c.ec 0), fun _ _ _ => (tAsg (tC (V.str "kind")) (gName 9)))]) D σ H)
    (tRet (tVar 9)))),
    (pss_cons (ps_asg pe_str (pg_name (i := 9) sc_law_refused.nd rfl (by first | exact Or.inl rfl | exact Or.inr rfl)))
    (pss_cons (ps_try_many (l := [(Value.ref (c.ec 3), fun _ _ _ => (tAsg (tC (V.str "much")) (gName 9))), (Value.ref (c.ec 5), fun _ _ _ => (tAsg (tC (V.str "deed")) (gName 9))), (Value.ref (c.ec 4), fun _ _ _ => (tAsg (tC (V.str "text")) (gName 9))), (Value.ref (c.ec 2), fun _ _ _ => (tAsg (tC (V.str "web")) (gName 9))), (Value.ref (c.ec 1), fun _ _ _ => (tAsg (tC (V.str "number")) (gName 9))), (Value.ref (c.ec 0), fun _ _ _ => (tAsg (tC (V.str "kind")) (gName 9)))]) (tb := tb_law_refused c w A) rfl rfl (takes_of rfl rfl rfl rfl) (fun W pn xe tk _ => (pss_cons (ps_if (pt_cmpR op_eq (pv 0) pe_int (nomark _)) (pss_one (ps_expr (pe_callRS (ok_token_first T) (hr.mono (by decide)) (by rfl) T.m_token_first T.F_token_first.kp (fun σ => passAt tk σ) (pa_cons (pv 1) (pa_cons (pv 2) (pa_cons (pv 3) (pa_cons (pv 4) (pa_cons (pv 5) pa_nil)))))))) pss_nil)
    (pss_cons (ps_if (pt_cmpR op_eq (pv 0) pe_int (nomark _)) (pss_one (ps_expr (pe_callRS (ok_token_second T) (hr.mono (by decide)) (by rfl) T.m_token_second T.F_token_second.kp (fun σ => passAt tk σ) (pa_cons (pv 1) (pa_cons (pv 2) (pa_cons (pv 3) (pa_cons (pv 4) (pa_cons (pv 5) pa_nil)))))))) pss_nil)
    (pss_one (ps_if (pt_cmpR op_eq (pv 0) pe_int (nomark _)) (pss_one (ps_expr (pe_callRS (ok_token_serves T) (hr.mono (by decide)) (by rfl) T.m_token_serves T.F_token_serves.kp (fun σ => passAt tk σ) (pa_cons (pv 1) (pa_cons (pv 2) (pa_cons (pv 3) (pa_cons (pv 4) (pa_cons (pv 5) (pa_cons (pv 6) (pa_cons (pv 7) (pa_cons (pv 8) pa_nil))))))))))) pss_nil))))) (HdsOk.cons (by exact ⟨rfl, by decide, .inl T.mE3⟩) (fun a oe cls d pn _ _ => (pss_one (ps_asg pe_str (pg_name (i := 9) sc_law_refused.nd rfl (by first | exact Or.inl rfl | exact Or.inr rfl))))) (HdsOk.cons (by exact ⟨rfl, by decide, .inl T.mE5⟩) (fun a oe cls d pn _ _ => (pss_one (ps_asg pe_str (pg_name (i := 9) sc_law_refused.nd rfl (by first | exact Or.inl rfl | exact Or.inr rfl))))) (HdsOk.cons (by exact ⟨rfl, by decide, .inl T.mE4⟩) (fun a oe cls d pn _ _ => (pss_one (ps_asg pe_str (pg_name (i := 9) sc_law_refused.nd rfl (by first | exact Or.inl rfl | exact Or.inr rfl))))) (HdsOk.cons (by exact ⟨rfl, by decide, .inl T.mE2⟩) (fun a oe cls d pn _ _ => (pss_one (ps_asg pe_str (pg_name (i := 9) sc_law_refused.nd rfl (by first | exact Or.inl rfl | exact Or.inr rfl))))) (HdsOk.cons (by exact ⟨rfl, by decide, .inl T.mE1⟩) (fun a oe cls d pn _ _ => (pss_one (ps_asg pe_str (pg_name (i := 9) sc_law_refused.nd rfl (by first | exact Or.inl rfl | exact Or.inr rfl))))) (HdsOk.cons (by exact ⟨rfl, by decide, .inl T.mE0⟩) (fun a oe cls d pn _ _ => (pss_one (ps_asg pe_str (pg_name (i := 9) sc_law_refused.nd rfl (by first | exact Or.inl rfl | exact Or.inr rfl))))) HdsOk.nil)))))))
    (pss_one (ps_ret (pv 9))))),
    (ss_seq (ss_asg se_str sg_name)
    (ss_seq (ss_tryB (tb := tb_law_refused c w A) T.apart (fun W => se_tb_law_refused T W) (SuitesB.cons (by decide) (fun _ _ _ => (ss_asg se_str sg_name)) (SuitesB.cons (by decide) (fun _ _ _ => (ss_asg se_str sg_name)) (SuitesB.cons (by decide) (fun _ _ _ => (ss_asg se_str sg_name)) (SuitesB.cons (by decide) (fun _ _ _ => (ss_asg se_str sg_name)) (SuitesB.cons (by decide) (fun _ _ _ => (ss_asg se_str sg_name)) (SuitesB.cons (by decide) (fun _ _ _ => (ss_asg se_str sg_name)) SuitesB.nil)))))))
    (ss_ret se_var)))⟩
theorem ok_law_bad (T : Txt c mg A) : FnR P w c.K mg base (L2.CX P w) 9 A.law_bad (spD c (D_law_bad_k56 A.ca)) :=
  fn_ss (N := Nn_law_bad) (ps := ["_law_pot_here", "_law_web_here", "_law_made_here", "_law_k", "_law_row", "_law_stand"]) (s := dn_law_bad_k56 A.ca) T.F_law_bad sc_law_bad (T.F_law_bad.binds (ps := ["_law_pot_here", "_law_web_here", "_law_made_here", "_law_k", "_law_row", "_law_stand"]) fun _ _ _ _ _ _ us hl => match us, hl with | [_, _, _, _, _, _], _ => rfl) fun cdv A_ outer sh H E' hr => ⟨(tSeq (tAsg (tCallS (spD c D_law_draw) (fun _ => E') (tCons (tVar 0) (tCons (tC (V.int 7)) tNil))) (gName 6))
    (tSeq (tAsg (tCallS (spD c D_law_draw) (fun _ => E') (tCons (tVar 0) (tCons (tC (V.int 3)) tNil))) (gName 7))
    (tSeq (tAsg (tCallS (spD c D_law_draw) (fun _ => E') (tCons (tVar 0) (tCons (tOp (rI0 fun i j => V.int (i + j)) (tOp (rI CMul fun i j => V.int (i * j)) (tC (V.int 2)) (tVar 3)) (tC (V.int 2))) tNil))) (gName 8))
    (tSeq (tIfS (tTest (tOp rEq (tVar 6) (tC (V.int 0)))) (tSeq (tAsg (tOp rCat (tSl (rSlL c.K) (tVar 4) tNoPart (tPart (tUn (rU fun i => V.int (-i)) (tC (V.int 1))))) (tLst (tCons (tOp (rI0 fun i j => V.int (i + j)) (tOp (rI CMul fun i j => V.int (i * j)) (tC (V.int 2)) (tVar 3)) (tC (V.int 3))) tNil))) (gName 9))
    (tRet (tOp rEq (tCallS (spD c (D_law_refused_k56 A.ca)) (fun _ => E') (tCons (tVar 7) (tCons (tVar 2) (tCons (tVar 3) (tCons (tVar 9) (tCons (tVar 5) (tCons (tVar 8) (tCons (tC (V.int 1)) (tCons (tC (V.int 0)) (tCons (tC (V.bl false)) tNil)))))))))) (tC (V.str "number"))))) tNext)
    (tSeq (tIfS (tTest (tOp rEq (tVar 6) (tC (V.int 1)))) (tRet (tOp rEq (tCallS (spD c (D_law_refused_k56 A.ca)) (fun _ => E') (tCons (tVar 7) (tCons (tVar 2) (tCons (tVar 3) (tCons (tVar 4) (tCons (tVar 5) (tCons (tOp (rI0 fun i j => V.int (i + j)) (tOp (rI CMul fun i j => V.int (i * j)) (tC (V.int 2)) (tVar 3)) (tC (V.int 2))) (tCons (tC (V.int 1)) (tCons (tC (V.int 0)) (tCons (tC (V.bl false)) tNil)))))))))) (tC (V.str "number")))) tNext)
    (tSeq (tIfS (tTest (tOp rEq (tVar 6) (tC (V.int 2)))) (tSeq (tIfS (tTest (tOp rNe (tCallS (spD c (D_law_refused_k56 A.ca)) (fun _ => E') (tCons (tC (V.int 2)) (tCons (tVar 2) (tCons (tVar 3) (tCons (tVar 4) (tCons (tVar 5) (tCons (tVar 8) (tCons (tOp (rI CMul fun i j => V.int (i * j)) (tC (V.int 3)) (tCallS (spD c D_law_draw) (fun _ => E') (tCons (tVar 0) (tCons (tC (V.int 2)) tNil)))) (tCons (tC (V.int 0)) (tCons (tC (V.bl false)) tNil)))))))))) (tC (V.str "number")))) (tRet (tC (V.bl false))) tNext)
    (tRet (tOp rEq (tCallS (spD c (D_law_refused_k56 A.ca)) (fun _ => E') (tCons (tC (V.int 2)) (tCons (tVar 2) (tCons (tVar 3) (tCons (tVar 4) (tCons (tVar 5) (tCons (tVar 8) (tCons (tC (V.int 1)) (tCons (tOp (rI0 fun i j => V.int (i + j)) (tOp (rI CDiv fun i j => V.int (i / j)) (tVar 8) (tC (V.int 2))) (tC (V.int 1))) (tCons (tC (V.bl false)) tNil)))))))))) (tC (V.str "number"))))) tNext)
    (tSeq (tIfS (tTest (tOp rEq (tVar 6) (tC (V.int 3)))) (tRet (tOp rEq (tCallS (spD c (D_law_refused_k56 A.ca)) (fun _ => E') (tCons (tC (V.int 2)) (tCons (tVar 2) (tCons (tVar 3) (tCons (tVar 4) (tCons (tVar 5) (tCons (tVar 8) (tCons (tOp (rI0 fun i j => V.int (i + j)) (tC (V.int 1)) (tOp (rI (fun _ j => 0 < j) fun i j => V.int (i % j)) (tCB rIntF (tCons (tVar 8) tNil)) (tC (V.int 2)))) (tCons (tC (V.int 0)) (tCons (tC (V.bl true)) tNil)))))))))) (tC (V.str "deed")))) tNext)
    (tSeq (tIfS (tTest (tOp rEq (tVar 6) (tC (V.int 4)))) (tRet (tOp rEq (tCallS (spD c (D_law_refused_k56 A.ca)) (fun _ => E') (tCons (tC (V.int 2)) (tCons (tVar 2) (tCons (tVar 3) (tCons (tVar 4) (tCons (tVar 5) (tCons (tVar 8) (tCons (tC (V.int 1)) (tCons (tC (V.int 0)) (tCons (tC (V.int 1)) tNil)))))))))) (tC (V.str "kind")))) tNext)
    (tSeq (tIfS (tTest (tOp rEq (tVar 6) (tC (V.int 5)))) (tSeq (tAsg (tLc (iRng1 (tCons (tCB (rLenS c.K) (tCons (tVar 4) tNil)) tNil)) (gName 11) (tTest (tOp rEq (tCB (rLenS c.K) (tCons (tOp (rIx c.K) (tOp (rIx c.K) (tVar 1) (tC (V.int 0))) (tVar 11)) tNil)) (tC (V.int 0)))) (tVar 11) [11]) (gName 10))
    (tRet (tOrV (tOp rEq (tCB (rLenS c.K) (tCons (tVar 10) tNil)) (tC (V.int 0))) (tOp rEq (tCallS (spD c (D_law_refused_k56 A.ca)) (fun _ => E') (tCons (tVar 7) (tCons (tVar 2) (tCons (tVar 3) (tCons (tVar 4) (tCons (tOp (rIx c.K) (tVar 10) (tC (V.int 0))) (tCons (tVar 8) (tCons (tC (V.int 1)) (tCons (tC (V.int 0)) (tCons (tC (V.bl false)) tNil)))))))))) (tC (V.str "web")))))) tNext)
    (tSeq (tAsg (tCallS (spD c (D_law_built_k09 A.ca)) (fun _ => E') (tCons (tLst (tCons (tLst (tCons (tLst tNil) (tCons (tLst tNil) (tCons (tLst (tCons (tC (V.int 0)) (tCons (tC (V.int 1)) tNil))) tNil)))) (tCons (tLst (tCons (tLst tNil) (tCons (tLst tNil) (tCons (tLst (tCons (tC (V.int 1)) tNil)) tNil)))) (tCons (tLst (tCons (tC (V.int 1)) (tCons (tC (V.int 1)) (tCons (tC (V.int 2)) tNil)))) (tCons (tLst (tCons (tTup (tCons (tC (V.str "chips")) (tCons (tC (V.int 0)) tNil))) (tCons (tC V.non) (tCons (tC V.non) tNil)))) tNil))))) tNil)) (gName 12))
    (tRet (tOp rEq (tCallS (spD c (D_law_refused_k56 A.ca)) (fun _ => E') (tCons (tVar 7) (tCons (tVar 12) (tCons (tVar 3) (tCons (tLst (tCons (tC (V.int 0)) tNil)) (tCons (tC (V.int 9)) (tCons (tVar 8) (tCons (tC (V.int 1)) (tCons (tC (V.int 0)) (tCons (tC (V.bl false)) tNil)))))))))) (tC (V.str "web")))))))))))))),
    (pss_cons (ps_asg (pe_callRS (ok_law_draw T) (hr.mono (by decide)) (by rfl) T.m_law_draw T.F_law_draw.kp (passE (takes_of rfl rfl rfl rfl)) (pa_cons (pv 0) (pa_cons pe_int pa_nil))) (pg_name (i := 6) sc_law_bad.nd rfl (by first | exact Or.inl rfl | exact Or.inr rfl)))
    (pss_cons (ps_asg (pe_callRS (ok_law_draw T) (hr.mono (by decide)) (by rfl) T.m_law_draw T.F_law_draw.kp (passE (takes_of rfl rfl rfl rfl)) (pa_cons (pv 0) (pa_cons pe_int pa_nil))) (pg_name (i := 7) sc_law_bad.nd rfl (by first | exact Or.inl rfl | exact Or.inr rfl)))
    (pss_cons (ps_asg (pe_callRS (ok_law_draw T) (hr.mono (by decide)) (by rfl) T.m_law_draw T.F_law_draw.kp (passE (takes_of rfl rfl rfl rfl)) (pa_cons (pv 0) (pa_cons (pe_op op_add (pe_op op_mul pe_int (pv 3)) pe_int) pa_nil))) (pg_name (i := 8) sc_law_bad.nd rfl (by first | exact Or.inl rfl | exact Or.inr rfl)))
    (pss_cons (ps_if (pt_cmpR op_eq (pv 6) pe_int (nomark _)) (pss_cons (ps_asg (pe_op op_cat (pe_slice sl_list (pv 4) po_none (po_some (pe_un un_neg pe_int))) (pe_lst (pa_cons (pe_op op_add (pe_op op_mul pe_int (pv 3)) pe_int) pa_nil))) (pg_name (i := 9) sc_law_bad.nd rfl (by first | exact Or.inl rfl | exact Or.inr rfl)))
    (pss_one (ps_ret (pe_cmpR op_eq (pe_callRS (ok_law_refused T) (hr.mono (by decide)) (by rfl) T.m_law_refused T.F_law_refused.kp (passE (takes_of rfl rfl rfl rfl)) (pa_cons (pv 7) (pa_cons (pv 2) (pa_cons (pv 3) (pa_cons (pv 9) (pa_cons (pv 5) (pa_cons (pv 8) (pa_cons pe_int (pa_cons pe_int (pa_cons pe_bl pa_nil)))))))))) pe_str (nomark _))))) pss_nil)
    (pss_cons (ps_if (pt_cmpR op_eq (pv 6) pe_int (nomark _)) (pss_one (ps_ret (pe_cmpR op_eq (pe_callRS (ok_law_refused T) (hr.mono (by decide)) (by rfl) T.m_law_refused T.F_law_refused.kp (passE (takes_of rfl rfl rfl rfl)) (pa_cons (pv 7) (pa_cons (pv 2) (pa_cons (pv 3) (pa_cons (pv 4) (pa_cons (pv 5) (pa_cons (pe_op op_add (pe_op op_mul pe_int (pv 3)) pe_int) (pa_cons pe_int (pa_cons pe_int (pa_cons pe_bl pa_nil)))))))))) pe_str (nomark _)))) pss_nil)
    (pss_cons (ps_if (pt_cmpR op_eq (pv 6) pe_int (nomark _)) (pss_cons (ps_if (pt_cmpR op_ne (pe_callRS (ok_law_refused T) (hr.mono (by decide)) (by rfl) T.m_law_refused T.F_law_refused.kp (passE (takes_of rfl rfl rfl rfl)) (pa_cons pe_int (pa_cons (pv 2) (pa_cons (pv 3) (pa_cons (pv 4) (pa_cons (pv 5) (pa_cons (pv 8) (pa_cons (pe_op op_mul pe_int (pe_callRS (ok_law_draw T) (hr.mono (by decide)) (by rfl) T.m_law_draw T.F_law_draw.kp (passE (takes_of rfl rfl rfl rfl)) (pa_cons (pv 0) (pa_cons pe_int pa_nil)))) (pa_cons pe_int (pa_cons pe_bl pa_nil)))))))))) pe_str (nomark _)) (pss_one (ps_ret pe_bl)) pss_nil)
    (pss_one (ps_ret (pe_cmpR op_eq (pe_callRS (ok_law_refused T) (hr.mono (by decide)) (by rfl) T.m_law_refused T.F_law_refused.kp (passE (takes_of rfl rfl rfl rfl)) (pa_cons pe_int (pa_cons (pv 2) (pa_cons (pv 3) (pa_cons (pv 4) (pa_cons (pv 5) (pa_cons (pv 8) (pa_cons pe_int (pa_cons (pe_op op_add (pe_op op_fdiv (pv 8) pe_int) pe_int) (pa_cons pe_bl pa_nil)))))))))) pe_str (nomark _))))) pss_nil)
    (pss_cons (ps_if (pt_cmpR op_eq (pv 6) pe_int (nomark _)) (pss_one (ps_ret (pe_cmpR op_eq (pe_callRS (ok_law_refused T) (hr.mono (by decide)) (by rfl) T.m_law_refused T.F_law_refused.kp (passE (takes_of rfl rfl rfl rfl)) (pa_cons pe_int (pa_cons (pv 2) (pa_cons (pv 3) (pa_cons (pv 4) (pa_cons (pv 5) (pa_cons (pv 8) (pa_cons (pe_op op_add pe_int (pe_op op_mod (pe_callTy call_int1 (by rfl) T.n_int (by decide +kernel) (pa_cons (pv 8) pa_nil)) pe_int)) (pa_cons pe_int (pa_cons pe_bl pa_nil)))))))))) pe_str (nomark _)))) pss_nil)
    (pss_cons (ps_if (pt_cmpR op_eq (pv 6) pe_int (nomark _)) (pss_one (ps_ret (pe_cmpR op_eq (pe_callRS (ok_law_refused T) (hr.mono (by decide)) (by rfl) T.m_law_refused T.F_law_refused.kp (passE (takes_of rfl rfl rfl rfl)) (pa_cons pe_int (pa_cons (pv 2) (pa_cons (pv 3) (pa_cons (pv 4) (pa_cons (pv 5) (pa_cons (pv 8) (pa_cons pe_int (pa_cons pe_int (pa_cons pe_int pa_nil)))))))))) pe_str (nomark _)))) pss_nil)
    (pss_cons (ps_if (pt_cmpR op_eq (pv 6) pe_int (nomark _)) (pss_cons (ps_setLc (i := 10) (own := [("_law_end", 11)]) (g := gName 11) (wi := (iRng1 (tCons (tCB (rLenS c.K) (tCons (tVar 4) tNil)) tNil))) (tt := (tTest (tOp rEq (tCB (rLenS c.K) (tCons (tOp (rIx c.K) (tOp (rIx c.K) (tVar 1) (tC (V.int 0))) (tVar 11)) tNil)) (tC (V.int 0))))) (te := (tVar 11)) rfl sc_law_bad.nd rfl rfl (sw_true rfl rfl rfl (by decide +kernel)) (pi_range1 (by rfl) T.n_range (pa_cons (pe_callB call_len_seq (by rfl) T.n_len (by decide +kernel) (pa_cons (pv 4) pa_nil)) pa_nil)) (blkOk_by (N := Nn_law_bad) (sc := defScope s_law_bad) (by decide +kernel)) (fun _ _ _ _ _ => pg_name (i := 11) sc_law_bad.nd rfl (by first | exact Or.inl rfl | exact Or.inr rfl)) (fun _ _ _ _ _ => (pts_one (pt_cmpR op_eq (pe_callB call_len_seq (by rfl) T.n_len (by decide +kernel) (pa_cons (pe_ix ix_seq (pe_ix ix_seq (pv 1) pe_int (fun _ _ => rfl)) (pv 11) (fun _ _ => rfl)) pa_nil)) pe_int (nomark _)))) (fun _ _ _ _ _ => (pv 11)))
    (pss_one (ps_ret (pe_or (pe_cmpR op_eq (pe_callB call_len_seq (by rfl) T.n_len (by decide +kernel) (pa_cons (pv 10) pa_nil)) pe_int (nomark _)) (pe_one (pe_cmpR op_eq (pe_callRS (ok_law_refused T) (hr.mono (by decide)) (by rfl) T.m_law_refused T.F_law_refused.kp (passE (takes_of rfl rfl rfl rfl)) (pa_cons (pv 7) (pa_cons (pv 2) (pa_cons (pv 3) (pa_cons (pv 4) (pa_cons (pe_ix ix_seq (pv 10) pe_int (fun _ _ => rfl)) (pa_cons (pv 8) (pa_cons pe_int (pa_cons pe_int (pa_cons pe_bl pa_nil)))))))))) pe_str (nomark _))))))) pss_nil)
    (pss_cons (ps_asg (pe_callRS (ok_law_made T) (hr.mono (by decide)) (by rfl) T.m_law_made T.F_law_made.kp (passE (takes_of rfl rfl rfl rfl)) (pa_cons (pe_lst (pa_cons (pe_lst (pa_cons (pe_lst pa_nil) (pa_cons (pe_lst pa_nil) (pa_cons (pe_lst (pa_cons pe_int (pa_cons pe_int pa_nil))) pa_nil)))) (pa_cons (pe_lst (pa_cons (pe_lst pa_nil) (pa_cons (pe_lst pa_nil) (pa_cons (pe_lst (pa_cons pe_int pa_nil)) pa_nil)))) (pa_cons (pe_lst (pa_cons pe_int (pa_cons pe_int (pa_cons pe_int pa_nil)))) (pa_cons (pe_lst (pa_cons (pe_tup (pa_cons pe_str (pa_cons pe_int pa_nil))) (pa_cons pe_non (pa_cons pe_non pa_nil)))) pa_nil))))) pa_nil)) (pg_name (i := 12) sc_law_bad.nd rfl (by first | exact Or.inl rfl | exact Or.inr rfl)))
    (pss_one (ps_ret (pe_cmpR op_eq (pe_callRS (ok_law_refused T) (hr.mono (by decide)) (by rfl) T.m_law_refused T.F_law_refused.kp (passE (takes_of rfl rfl rfl rfl)) (pa_cons (pv 7) (pa_cons (pv 12) (pa_cons (pv 3) (pa_cons (pe_lst (pa_cons pe_int pa_nil)) (pa_cons pe_int (pa_cons (pv 8) (pa_cons pe_int (pa_cons pe_int (pa_cons pe_bl pa_nil)))))))))) pe_str (nomark _)))))))))))))),
    (ss_seq (ss_asg (se_call (sa_cons se_var (sa_cons se_int sa_nil))) sg_name)
    (ss_seq (ss_asg (se_call (sa_cons se_var (sa_cons se_int sa_nil))) sg_name)
    (ss_seq (ss_asg (se_call (sa_cons se_var (sa_cons (se_op2 s2_add (se_op2 s2_mul se_int se_var) se_int) sa_nil))) sg_name)
    (ss_seq (ss_if (st_test (se_op2 s2_eq se_var se_int)) (ss_seq (ss_asg (se_op2 s2_cat (se_new (sen_cut se_var so_none (so_some (se_op1 s1_neg se_int)))) (se_new (sen_lst (sa_cons (se_op2 s2_add (se_op2 s2_mul se_int se_var) se_int) sa_nil)))) sg_name)
    (ss_ret (se_op2 s2_eq (se_call (sa_cons se_var (sa_cons se_var (sa_cons se_var (sa_cons se_var (sa_cons se_var (sa_cons se_var (sa_cons se_int (sa_cons se_int (sa_cons se_bl sa_nil)))))))))) se_str))) ss_next)
    (ss_seq (ss_if (st_test (se_op2 s2_eq se_var se_int)) (ss_ret (se_op2 s2_eq (se_call (sa_cons se_var (sa_cons se_var (sa_cons se_var (sa_cons se_var (sa_cons se_var (sa_cons (se_op2 s2_add (se_op2 s2_mul se_int se_var) se_int) (sa_cons se_int (sa_cons se_int (sa_cons se_bl sa_nil)))))))))) se_str)) ss_next)
    (ss_seq (ss_if (st_test (se_op2 s2_eq se_var se_int)) (ss_seq (ss_if (st_test (se_op2 s2_ne (se_call (sa_cons se_int (sa_cons se_var (sa_cons se_var (sa_cons se_var (sa_cons se_var (sa_cons se_var (sa_cons (se_op2 s2_mul se_int (se_call (sa_cons se_var (sa_cons se_int sa_nil)))) (sa_cons se_int (sa_cons se_bl sa_nil)))))))))) se_str)) (ss_ret se_bl) ss_next)
    (ss_ret (se_op2 s2_eq (se_call (sa_cons se_int (sa_cons se_var (sa_cons se_var (sa_cons se_var (sa_cons se_var (sa_cons se_var (sa_cons se_int (sa_cons (se_op2 s2_add (se_op2 s2_div se_var se_int) se_int) (sa_cons se_bl sa_nil)))))))))) se_str))) ss_next)
    (ss_seq (ss_if (st_test (se_op2 s2_eq se_var se_int)) (ss_ret (se_op2 s2_eq (se_call (sa_cons se_int (sa_cons se_var (sa_cons se_var (sa_cons se_var (sa_cons se_var (sa_cons se_var (sa_cons (se_op2 s2_add se_int (se_op2 s2_mod (se_cb sn_int (sa_cons se_var sa_nil)) se_int)) (sa_cons se_int (sa_cons se_bl sa_nil)))))))))) se_str)) ss_next)
    (ss_seq (ss_if (st_test (se_op2 s2_eq se_var se_int)) (ss_ret (se_op2 s2_eq (se_call (sa_cons se_int (sa_cons se_var (sa_cons se_var (sa_cons se_var (sa_cons se_var (sa_cons se_var (sa_cons se_int (sa_cons se_int (sa_cons se_int sa_nil)))))))))) se_str)) ss_next)
    (ss_seq (ss_if (st_test (se_op2 s2_eq se_var se_int)) (ss_seq (ss_asg (se_new (sen_comp (si_rng1 (sa_cons (se_cb sn_len (sa_cons se_var sa_nil)) sa_nil)) (st_test (se_op2 s2_eq (se_cb sn_len (sa_cons (se_op2 s2_ix (se_op2 s2_ix se_var se_int) se_var) sa_nil)) se_int)) se_var)) sg_name)
    (ss_ret (se_or (se_op2 s2_eq (se_cb sn_len (sa_cons se_var sa_nil)) se_int) (se_op2 s2_eq (se_call (sa_cons se_var (sa_cons se_var (sa_cons se_var (sa_cons se_var (sa_cons (se_op2 s2_ix se_var se_int) (sa_cons se_var (sa_cons se_int (sa_cons se_int (sa_cons se_bl sa_nil)))))))))) se_str)))) ss_next)
    (ss_seq (ss_asg (se_call (sa_cons (se_new (sen_lst (sa_cons (se_new (sen_lst (sa_cons (se_new (sen_lst sa_nil)) (sa_cons (se_new (sen_lst sa_nil)) (sa_cons (se_new (sen_lst (sa_cons se_int (sa_cons se_int sa_nil)))) sa_nil))))) (sa_cons (se_new (sen_lst (sa_cons (se_new (sen_lst sa_nil)) (sa_cons (se_new (sen_lst sa_nil)) (sa_cons (se_new (sen_lst (sa_cons se_int sa_nil))) sa_nil))))) (sa_cons (se_new (sen_lst (sa_cons se_int (sa_cons se_int (sa_cons se_int sa_nil))))) (sa_cons (se_new (sen_lst (sa_cons (se_tup (sa_cons se_str (sa_cons se_int sa_nil))) (sa_cons se_non (sa_cons se_non sa_nil))))) sa_nil)))))) sa_nil)) sg_name)
    (ss_ret (se_op2 s2_eq (se_call (sa_cons se_var (sa_cons se_var (sa_cons se_var (sa_cons (se_new (sen_lst (sa_cons se_int sa_nil))) (sa_cons se_int (sa_cons se_var (sa_cons se_int (sa_cons se_int (sa_cons se_bl sa_nil)))))))))) se_str))))))))))))⟩
theorem ok_law_rows (T : Txt c mg A) : FnR P w c.K mg base (L2.CX P w) 8 A.law_rows (spD c (D_law_rows_k56)) :=
  fn_ss (N := Nn_law_rows) (ps := ["_law_pot_here", "_law_web_here", "_law_k"]) (s := dn_law_rows_k56) T.F_law_rows sc_law_rows (T.F_law_rows.binds (ps := ["_law_pot_here", "_law_web_here", "_law_k"]) fun _ _ _ _ _ _ us hl => match us, hl with | [_, _, _], _ => rfl) fun cdv A_ outer sh H E' hr => ⟨(tSeq (tIfS (tTest (tOp rEq (tCallS (spD c D_law_draw) (fun _ => E') (tCons (tVar 0) (tCons (tC (V.int 3)) tNil))) (tC (V.int 2)))) (tRet (tLc (iList c.K (tOp (rIx c.K) (tVar 1) (tC (V.int 2)))) (gName 3) tYes (tCallS (spD c D_law_draw) (fun _ => L2.E0) (tCons (tVar 0) (tCons (tOp (rI0 fun i j => V.int (i + j)) (tOp (rI CMul fun i j => V.int (i * j)) (tC (V.int 2)) (tVar 2)) (tC (V.int 3))) tNil))) [3])) tNext)
    (tSeq (tAsg (tCallS (spD c D_law_token_row) (fun _ => E') (tCons (tVar 1) (tCons (tVar 2) tNil))) (gName 4))
    (tRet (tLc (iList c.K (tVar 4)) (gName 5) tYes (tCB rMin2F (tCons (tOp (rI0 fun i j => V.int (i + j)) (tOp (rI CMul fun i j => V.int (i * j)) (tC (V.int 2)) (tVar 2)) (tC (V.int 2))) (tCons (tCB rMax2F (tCons (tC (V.int 0)) (tCons (tOp (rI0 fun i j => V.int (i - j)) (tOp (rI0 fun i j => V.int (i + j)) (tVar 5) (tCallS (spD c D_law_draw) (fun _ => L2.E0) (tCons (tVar 0) (tCons (tC (V.int 3)) tNil)))) (tC (V.int 1))) tNil))) tNil))) [5])))),
    (pss_cons (ps_if (pt_cmpR op_eq (pe_callRS (ok_law_draw T) (hr.mono (by decide)) (by rfl) T.m_law_draw T.F_law_draw.kp (passE (takes_of rfl rfl rfl rfl)) (pa_cons (pv 0) (pa_cons pe_int pa_nil))) pe_int (nomark _)) (pss_one (ps_ret (pe_lc (own := [("_law_stand", 3)]) (g := gName 3) (wi := (iList c.K (tOp (rIx c.K) (tVar 1) (tC (V.int 2))))) (tt := tYes) (te := (tCallS (spD c D_law_draw) (fun _ => L2.E0) (tCons (tVar 0) (tCons (tOp (rI0 fun i j => V.int (i + j)) (tOp (rI CMul fun i j => V.int (i * j)) (tC (V.int 2)) (tVar 2)) (tC (V.int 3))) tNil)))) rfl sc_law_rows.nd (pi_list (pe_ix ix_seq (pv 1) pe_int (fun _ _ => rfl))) (blkOk_by (N := Nn_law_rows) (sc := defScope s_law_rows) (by decide +kernel)) (fun _ _ _ _ _ => pg_name (i := 3) sc_law_rows.nd rfl (by first | exact Or.inl rfl | exact Or.inr rfl)) (fun _ _ _ _ _ => pts_nil) (fun _ _ _ _ _ => (pe_callRS (ok_law_draw T) (hr.mono (by decide)) (by rfl) T.m_law_draw T.F_law_draw.kp passNo (pa_cons (pv 0) (pa_cons (pe_op op_add (pe_op op_mul pe_int (pv 2)) pe_int) pa_nil))))))) pss_nil)
    (pss_cons (ps_asg (pe_callRS (ok_law_token_row T) (hr.mono (by decide)) (by rfl) T.m_law_token_row T.F_law_token_row.kp (passE (takes_of rfl rfl rfl rfl)) (pa_cons (pv 1) (pa_cons (pv 2) pa_nil))) (pg_name (i := 4) sc_law_rows.nd rfl (by first | exact Or.inl rfl | exact Or.inr rfl)))
    (pss_one (ps_ret (pe_lc (own := [("_law_number", 5)]) (g := gName 5) (wi := (iList c.K (tVar 4))) (tt := tYes) (te := (tCB rMin2F (tCons (tOp (rI0 fun i j => V.int (i + j)) (tOp (rI CMul fun i j => V.int (i * j)) (tC (V.int 2)) (tVar 2)) (tC (V.int 2))) (tCons (tCB rMax2F (tCons (tC (V.int 0)) (tCons (tOp (rI0 fun i j => V.int (i - j)) (tOp (rI0 fun i j => V.int (i + j)) (tVar 5) (tCallS (spD c D_law_draw) (fun _ => L2.E0) (tCons (tVar 0) (tCons (tC (V.int 3)) tNil)))) (tC (V.int 1))) tNil))) tNil)))) rfl sc_law_rows.nd (pi_list (pv 4)) (blkOk_by (N := Nn_law_rows) (sc := defScope s_law_rows) (by decide +kernel)) (fun _ _ _ _ _ => pg_name (i := 5) sc_law_rows.nd rfl (by first | exact Or.inl rfl | exact Or.inr rfl)) (fun _ _ _ _ _ => pts_nil) (fun _ _ _ _ _ => (pe_callB (call_min2 rfl) (by rfl) T.n_min (by decide +kernel) (pa_cons (pe_op op_add (pe_op op_mul pe_int (pv 2)) pe_int) (pa_cons (pe_callB (call_max2 rfl) (by rfl) T.n_max (by decide +kernel) (pa_cons pe_int (pa_cons (pe_op op_sub (pe_op op_add (pv 5) (pe_callRS (ok_law_draw T) (hr.mono (by decide)) (by rfl) T.m_law_draw T.F_law_draw.kp passNo (pa_cons (pv 0) (pa_cons pe_int pa_nil)))) pe_int) pa_nil))) pa_nil))))))))),
    (ss_seq (ss_if (st_test (se_op2 s2_eq (se_call (sa_cons se_var (sa_cons se_int sa_nil))) se_int)) (ss_ret (se_new (sen_comp (si_list (se_op2 s2_ix se_var se_int)) st_true (se_call (sa_cons se_var (sa_cons (se_op2 s2_add (se_op2 s2_mul se_int se_var) se_int) sa_nil)))))) ss_next)
    (ss_seq (ss_asg (se_call (sa_cons se_var (sa_cons se_var sa_nil))) sg_name)
    (ss_ret (se_new (sen_comp (si_list se_var) st_true (se_cb sn_min2 (sa_cons (se_op2 s2_add (se_op2 s2_mul se_int se_var) se_int) (sa_cons (se_cb sn_max2 (sa_cons se_int (sa_cons (se_op2 s2_sub (se_op2 s2_add se_var (se_call (sa_cons se_var (sa_cons se_int sa_nil)))) se_int) sa_nil))) sa_nil))))))))⟩
theorem rest_law (T : Txt c mg A) (f : Addr) (cdv : Value) (A_ : Around) (outer : List Env) (sh : Shared) (H : Hp) (E' : XK) (hr : Room 9 (A_.deeper (PyProof.Rows.envOfC "law" (defScope s_law) sh.heap.objs.size f cdv))) :
    ∃ t, PSs (cxOf (L2.CX P w) P w c.K mg base Nn_law "law" (defScope s_law) f cdv A_ outer sh H E') ((defBody s_law).drop 1) t ∧ SS c (fun _ => E') t (dn_law_k56 A.ca) :=
  ⟨(tSeq (tAsg (tCallS (spD c D_law_web) (fun _ => E') (tCons (tVar 1) (tCons (tC (V.int 6)) (tCons (tC (V.bl true)) tNil)))) (gName 2))
    (tSeq (tAsg (tCallS (spD c (D_law_built_k09 A.ca)) (fun _ => E') (tCons (tVar 2) tNil)) (gName 3))
    (tSeq (tAsg (tCallS (spD c D_law_draw) (fun _ => E') (tCons (tVar 1) (tCons (tC (V.int 5)) tNil))) (gName 4))
    (tSeq (tAsg (tCallS (spD c D_law_rows_k56) (fun _ => E') (tCons (tVar 1) (tCons (tVar 2) (tCons (tVar 4) tNil)))) (gName 5))
    (tSeq (tAsg (tOp (rI0 fun i j => V.int (i - j)) (tCallS (spD c D_law_draw) (fun _ => E') (tCons (tVar 1) (tCons (tC (V.int 30)) tNil))) (tC (V.int 15))) (gName 6))
    (tSeq (tAsg (tOp (rI0 fun i j => V.int (i - j)) (tCallS (spD c D_law_draw) (fun _ => E') (tCons (tVar 1) (tCons (tC (V.int 30)) tNil))) (tC (V.int 15))) (gName 7))
    (tSeq (tIfS (tOr (tNot (fun σ H Q => (tCallS (spD c D_is_integer) (fun _ => E') (tCons (tCallS (spD c D_token_half) (fun _ => E') (tCons (tVar 6) (tCons (tVar 7) tNil))) tNil)) σ H fun x H' => ∃ k, TruV c.K x H' k ∧ Q k H')) (tTest (tOp rNe (tCallS (spD c D_token_half) (fun _ => E') (tCons (tVar 6) (tCons (tVar 7) tNil))) (tCallS (spD c D_law_half_chips) (fun _ => E') (tCons (tVar 6) (tCons (tVar 7) tNil)))))) (tRet (tC (V.bl false))) tNext)
    (tSeq (tAsg (tCallS (spD c D_law_draw) (fun _ => E') (tCons (tVar 1) (tCons (tCB (rLenS c.K) (tCons (tVar 5) tNil)) tNil))) (gName 8))
    (tSeq (tIfS (tTest (tOp rNe (tCallS (spD c D_token_due) (fun _ => E') (tCons (tOp (rIx c.K) (tOp (rIx c.K) (tVar 2) (tC (V.int 3))) (tVar 8)) (tCons (tVar 4) tNil))) (tOp (rI CMul fun i j => V.int (i * j)) (tC (V.int 2)) (tCallS (spD c D_due_at) (fun _ => E') (tCons (tOp (rIx c.K) (tOp (rIx c.K) (tVar 2) (tC (V.int 3))) (tVar 8)) (tCons (tVar 4) tNil)))))) (tRet (tC (V.bl false))) tNext)
    (tSeq (tAsg (tLc (iRng1 (tCons (tCB (rLenS c.K) (tCons (tVar 5) tNil)) tNil)) (gName 10) (tTest (tOp (rI0 fun i j => V.bl (decide (j < i))) (tCB (rLenS c.K) (tCons (tOp (rIx c.K) (tOp (rIx c.K) (tVar 2) (tC (V.int 0))) (tVar 10)) tNil)) (tC (V.int 0)))) (tVar 10) [10]) (gName 9))
    (tSeq (tIfS (tTest (tOp rEq (tCB (rLenS c.K) (tCons (tVar 9) tNil)) (tC (V.int 0)))) (tRet (tOp rEq (tCallS (spD c (D_token_price A.ca)) (fun _ => E') (tCons (tVar 3) (tCons (tVar 4) (tCons (tVar 5) (tCons (tVar 8) tNil))))) (tOp (rI0 fun i j => V.int (i + j)) (tOp (rI CMul fun i j => V.int (i * j)) (tC (V.int 2)) (tVar 4)) (tC (V.int 2))))) tNext)
    (tSeq (tAsg (tOp (rIx c.K) (tVar 9) (tCallS (spD c D_law_draw) (fun _ => E') (tCons (tVar 1) (tCons (tCB (rLenS c.K) (tCons (tVar 9) tNil)) tNil)))) (gName 10))
    (tSeq (tAsg (tCallS (spD c D_law_half_chips) (fun _ => E') (tCons (tCallS (spD c D_law_low) (fun _ => E') (tCons (tVar 2) (tCons (tVar 5) (tCons (tVar 10) tNil)))) (tCons (tCallS (spD c D_law_high) (fun _ => E') (tCons (tVar 2) (tCons (tVar 5) (tCons (tVar 10) tNil)))) tNil))) (gName 11))
    (tSeq (tAsg (tCallS (spD c (D_token_price A.ca)) (fun _ => E') (tCons (tVar 3) (tCons (tVar 4) (tCons (tVar 5) (tCons (tVar 10) tNil))))) (gName 12))
    (tSeq (tAsg (tLc (iList c.K (tVar 5)) (gName 14) tYes (tOp (rI0 fun i j => V.int (i - j)) (tVar 14) (tC (V.int 40))) [14]) (gName 13))
    (tSeq (tIfS (tOr (tNot (fun σ H Q => (tCallS (spD c D_is_integer) (fun _ => E') (tCons (tVar 12) tNil)) σ H fun x H' => ∃ k, TruV c.K x H' k ∧ Q k H')) (tOr (tTest (tOp rNe (tVar 12) (tVar 11))) (tTest (tOp rNe (tCallS (spD c (D_token_price A.ca)) (fun _ => E') (tCons (tVar 3) (tCons (tVar 4) (tCons (tVar 13) (tCons (tVar 10) tNil))))) (tOp (rI0 fun i j => V.int (i - j)) (tVar 11) (tC (V.int 40))))))) (tRet (tC (V.bl false))) tNext)
    (tSeq (tFor (iRng1 (tCons (tOp (rI0 fun i j => V.int (i + j)) (tOp (rI CMul fun i j => V.int (i * j)) (tC (V.int 2)) (tVar 4)) (tC (V.int 2))) tNil)) (gName 15) (tSeq (tIfS (tNot (fun σ H Q => (tCallS (spD c (D_law_one_side A.ca)) (fun _ => E') (tCons (tVar 3) (tCons (tVar 2) (tCons (tVar 4) (tCons (tVar 5) (tCons (tVar 10) (tCons (tVar 15) (tCons (tC (V.int 1)) (tCons (tOp (rI0 fun i j => V.bl (decide (j ≤ i))) (tVar 15) (tVar 11)) tNil))))))))) σ H fun x H' => ∃ k, TruV c.K x H' k ∧ Q k H')) (tRet (tC (V.bl false))) tNext)
    (tIfS (tNot (fun σ H Q => (tCallS (spD c (D_law_one_side A.ca)) (fun _ => E') (tCons (tVar 3) (tCons (tVar 2) (tCons (tVar 4) (tCons (tVar 5) (tCons (tVar 10) (tCons (tVar 15) (tCons (tC (V.int 2)) (tCons (tOp (rI0 fun i j => V.bl (decide (i < j))) (tVar 15) (tVar 11)) tNil))))))))) σ H fun x H' => ∃ k, TruV c.K x H' k ∧ Q k H')) (tRet (tC (V.bl false))) tNext)))
    (tRet (tCallS (spD c (D_law_bad_k56 A.ca)) (fun _ => E') (tCons (tVar 1) (tCons (tVar 2) (tCons (tVar 3) (tCons (tVar 4) (tCons (tVar 5) (tCons (tVar 10) tNil))))))))))))))))))))))))),
    (pss_cons (ps_asg (pe_callRS (ok_law_web T) (hr.mono (by decide)) (by rfl) T.m_law_web T.F_law_web.kp (passE (takes_of rfl rfl rfl rfl)) (pa_cons (pv 1) (pa_cons pe_int (pa_cons pe_bl pa_nil)))) (pg_name (i := 2) sc_law.nd rfl (by first | exact Or.inl rfl | exact Or.inr rfl)))
    (pss_cons (ps_asg (pe_callRS (ok_law_made T) (hr.mono (by decide)) (by rfl) T.m_law_made T.F_law_made.kp (passE (takes_of rfl rfl rfl rfl)) (pa_cons (pv 2) pa_nil)) (pg_name (i := 3) sc_law.nd rfl (by first | exact Or.inl rfl | exact Or.inr rfl)))
    (pss_cons (ps_asg (pe_callRS (ok_law_draw T) (hr.mono (by decide)) (by rfl) T.m_law_draw T.F_law_draw.kp (passE (takes_of rfl rfl rfl rfl)) (pa_cons (pv 1) (pa_cons pe_int pa_nil))) (pg_name (i := 4) sc_law.nd rfl (by first | exact Or.inl rfl | exact Or.inr rfl)))
    (pss_cons (ps_asg (pe_callRS (ok_law_rows T) (hr.mono (by decide)) (by rfl) T.m_law_rows T.F_law_rows.kp (passE (takes_of rfl rfl rfl rfl)) (pa_cons (pv 1) (pa_cons (pv 2) (pa_cons (pv 4) pa_nil)))) (pg_name (i := 5) sc_law.nd rfl (by first | exact Or.inl rfl | exact Or.inr rfl)))
    (pss_cons (ps_asg (pe_op op_sub (pe_callRS (ok_law_draw T) (hr.mono (by decide)) (by rfl) T.m_law_draw T.F_law_draw.kp (passE (takes_of rfl rfl rfl rfl)) (pa_cons (pv 1) (pa_cons pe_int pa_nil))) pe_int) (pg_name (i := 6) sc_law.nd rfl (by first | exact Or.inl rfl | exact Or.inr rfl)))
    (pss_cons (ps_asg (pe_op op_sub (pe_callRS (ok_law_draw T) (hr.mono (by decide)) (by rfl) T.m_law_draw T.F_law_draw.kp (passE (takes_of rfl rfl rfl rfl)) (pa_cons (pv 1) (pa_cons pe_int pa_nil))) pe_int) (pg_name (i := 7) sc_law.nd rfl (by first | exact Or.inl rfl | exact Or.inr rfl)))
    (pss_cons (ps_if (PW.pt (pw_or (pt_not (pt_truth (pe_callRS (ok_law_whole T) (hr.mono (by decide)) (by rfl) T.m_law_whole T.F_law_whole.kp (passE (takes_of rfl rfl rfl rfl)) (pa_cons (pe_callRS (ok_token_half T) (hr.mono (by decide)) (by rfl) T.m_token_half T.F_token_half.kp (passE (takes_of rfl rfl rfl rfl)) (pa_cons (pv 6) (pa_cons (pv 7) pa_nil))) pa_nil)) (by intro _; rfl))) (pw_or1 (pt_cmpR op_ne (pe_callRS (ok_token_half T) (hr.mono (by decide)) (by rfl) T.m_token_half T.F_token_half.kp (passE (takes_of rfl rfl rfl rfl)) (pa_cons (pv 6) (pa_cons (pv 7) pa_nil))) (pe_callRS (ok_law_half_chips T) (hr.mono (by decide)) (by rfl) T.m_law_half_chips T.F_law_half_chips.kp (passE (takes_of rfl rfl rfl rfl)) (pa_cons (pv 6) (pa_cons (pv 7) pa_nil))) (nomark _))))) (pss_one (ps_ret pe_bl)) pss_nil)
    (pss_cons (ps_asg (pe_callRS (ok_law_draw T) (hr.mono (by decide)) (by rfl) T.m_law_draw T.F_law_draw.kp (passE (takes_of rfl rfl rfl rfl)) (pa_cons (pv 1) (pa_cons (pe_callB call_len_seq (by rfl) T.n_len (by decide +kernel) (pa_cons (pv 5) pa_nil)) pa_nil))) (pg_name (i := 8) sc_law.nd rfl (by first | exact Or.inl rfl | exact Or.inr rfl)))
    (pss_cons (ps_if (pt_cmpR op_ne (pe_callRS (ok_token_due T) (hr.mono (by decide)) (by rfl) T.m_token_due T.F_token_due.kp (passE (takes_of rfl rfl rfl rfl)) (pa_cons (pe_ix ix_seq (pe_ix ix_seq (pv 2) pe_int (fun _ _ => rfl)) (pv 8) (fun _ _ => rfl)) (pa_cons (pv 4) pa_nil))) (pe_op op_mul pe_int (pe_callRS (ok_law_due_at T) (hr.mono (by decide)) (by rfl) T.m_law_due_at T.F_law_due_at.kp (passE (takes_of rfl rfl rfl rfl)) (pa_cons (pe_ix ix_seq (pe_ix ix_seq (pv 2) pe_int (fun _ _ => rfl)) (pv 8) (fun _ _ => rfl)) (pa_cons (pv 4) pa_nil)))) (nomark _)) (pss_one (ps_ret pe_bl)) pss_nil)
    (pss_cons (ps_setLc (i := 9) (own := [("_law_stand", 10)]) (g := gName 10) (wi := (iRng1 (tCons (tCB (rLenS c.K) (tCons (tVar 5) tNil)) tNil))) (tt := (tTest (tOp (rI0 fun i j => V.bl (decide (j < i))) (tCB (rLenS c.K) (tCons (tOp (rIx c.K) (tOp (rIx c.K) (tVar 2) (tC (V.int 0))) (tVar 10)) tNil)) (tC (V.int 0))))) (te := (tVar 10)) rfl sc_law.nd rfl rfl (sw_true rfl rfl rfl (by decide +kernel)) (pi_range1 (by rfl) T.n_range (pa_cons (pe_callB call_len_seq (by rfl) T.n_len (by decide +kernel) (pa_cons (pv 5) pa_nil)) pa_nil)) (blkOk_by (N := Nn_law) (sc := defScope s_law) (by decide +kernel)) (fun _ _ _ _ _ => pg_name (i := 10) sc_law.nd rfl (by first | exact Or.inl rfl | exact Or.inr rfl)) (fun _ _ _ _ _ => (pts_one (pt_cmpR op_gt (pe_callB call_len_seq (by rfl) T.n_len (by decide +kernel) (pa_cons (pe_ix ix_seq (pe_ix ix_seq (pv 2) pe_int (fun _ _ => rfl)) (pv 10) (fun _ _ => rfl)) pa_nil)) pe_int (nomark _)))) (fun _ _ _ _ _ => (pv 10)))
    (pss_cons (ps_if (pt_cmpR op_eq (pe_callB call_len_seq (by rfl) T.n_len (by decide +kernel) (pa_cons (pv 9) pa_nil)) pe_int (nomark _)) (pss_one (ps_ret (pe_cmpR op_eq (pe_callRS (ok_token_price T) (hr.mono (by decide)) (by rfl) T.m_token_price T.F_token_price.kp (passE (takes_of rfl rfl rfl rfl)) (pa_cons (pv 3) (pa_cons (pv 4) (pa_cons (pv 5) (pa_cons (pv 8) pa_nil))))) (pe_op op_add (pe_op op_mul pe_int (pv 4)) pe_int) (nomark _)))) pss_nil)
    (pss_cons (ps_asg (pe_ix ix_seq (pv 9) (pe_callRS (ok_law_draw T) (hr.mono (by decide)) (by rfl) T.m_law_draw T.F_law_draw.kp (passE (takes_of rfl rfl rfl rfl)) (pa_cons (pv 1) (pa_cons (pe_callB call_len_seq (by rfl) T.n_len (by decide +kernel) (pa_cons (pv 9) pa_nil)) pa_nil))) (fun _ _ => rfl)) (pg_name (i := 10) sc_law.nd rfl (by first | exact Or.inl rfl | exact Or.inr rfl)))
    (pss_cons (ps_asg (pe_callRS (ok_law_half_chips T) (hr.mono (by decide)) (by rfl) T.m_law_half_chips T.F_law_half_chips.kp (passE (takes_of rfl rfl rfl rfl)) (pa_cons (pe_callRS (ok_law_low T) (hr.mono (by decide)) (by rfl) T.m_law_low T.F_law_low.kp (passE (takes_of rfl rfl rfl rfl)) (pa_cons (pv 2) (pa_cons (pv 5) (pa_cons (pv 10) pa_nil)))) (pa_cons (pe_callRS (ok_law_high T) (hr.mono (by decide)) (by rfl) T.m_law_high T.F_law_high.kp (passE (takes_of rfl rfl rfl rfl)) (pa_cons (pv 2) (pa_cons (pv 5) (pa_cons (pv 10) pa_nil)))) pa_nil))) (pg_name (i := 11) sc_law.nd rfl (by first | exact Or.inl rfl | exact Or.inr rfl)))
    (pss_cons (ps_asg (pe_callRS (ok_token_price T) (hr.mono (by decide)) (by rfl) T.m_token_price T.F_token_price.kp (passE (takes_of rfl rfl rfl rfl)) (pa_cons (pv 3) (pa_cons (pv 4) (pa_cons (pv 5) (pa_cons (pv 10) pa_nil))))) (pg_name (i := 12) sc_law.nd rfl (by first | exact Or.inl rfl | exact Or.inr rfl)))
    (pss_cons (ps_setLc (i := 13) (own := [("_law_part", 14)]) (g := gName 14) (wi := (iList c.K (tVar 5))) (tt := tYes) (te := (tOp (rI0 fun i j => V.int (i - j)) (tVar 14) (tC (V.int 40)))) rfl sc_law.nd rfl rfl (sw_true rfl rfl rfl (by decide +kernel)) (pi_list (pv 5)) (blkOk_by (N := Nn_law) (sc := defScope s_law) (by decide +kernel)) (fun _ _ _ _ _ => pg_name (i := 14) sc_law.nd rfl (by first | exact Or.inl rfl | exact Or.inr rfl)) (fun _ _ _ _ _ => pts_nil) (fun _ _ _ _ _ => (pe_op op_sub (pv 14) pe_int)))
    (pss_cons (ps_if (PW.pt (pw_or (pt_not (pt_truth (pe_callRS (ok_law_whole T) (hr.mono (by decide)) (by rfl) T.m_law_whole T.F_law_whole.kp (passE (takes_of rfl rfl rfl rfl)) (pa_cons (pv 12) pa_nil)) (by intro _; rfl))) (pw_or (pt_cmpR op_ne (pv 12) (pv 11) (nomark _)) (pw_or1 (pt_cmpR op_ne (pe_callRS (ok_token_price T) (hr.mono (by decide)) (by rfl) T.m_token_price T.F_token_price.kp (passE (takes_of rfl rfl rfl rfl)) (pa_cons (pv 3) (pa_cons (pv 4) (pa_cons (pv 13) (pa_cons (pv 10) pa_nil))))) (pe_op op_sub (pv 11) pe_int) (nomark _)))))) (pss_one (ps_ret pe_bl)) pss_nil)
    (pss_cons (ps_for (passes_of rfl) rfl (pi_range1 (by rfl) T.n_range (pa_cons (pe_op op_add (pe_op op_mul pe_int (pv 4)) pe_int) pa_nil)) (pg_name (i := 15) sc_law.nd rfl (by first | exact Or.inl rfl | exact Or.inr rfl)) (pss_cons (ps_if (pt_not (pt_truth (pe_callRS (ok_law_one_side T) (hr.mono (by decide)) (by rfl) T.m_law_one_side T.F_law_one_side.kp (passE (takes_of rfl rfl rfl rfl)) (pa_cons (pv 3) (pa_cons (pv 2) (pa_cons (pv 4) (pa_cons (pv 5) (pa_cons (pv 10) (pa_cons (pv 15) (pa_cons pe_int (pa_cons (pe_cmpR op_ge (pv 15) (pv 11) (nomark _)) pa_nil))))))))) (by intro _; rfl))) (pss_one (ps_ret pe_bl)) pss_nil)
    (pss_one (ps_if (pt_not (pt_truth (pe_callRS (ok_law_one_side T) (hr.mono (by decide)) (by rfl) T.m_law_one_side T.F_law_one_side.kp (passE (takes_of rfl rfl rfl rfl)) (pa_cons (pv 3) (pa_cons (pv 2) (pa_cons (pv 4) (pa_cons (pv 5) (pa_cons (pv 10) (pa_cons (pv 15) (pa_cons pe_int (pa_cons (pe_cmpR op_lt (pv 15) (pv 11) (nomark _)) pa_nil))))))))) (by intro _; rfl))) (pss_one (ps_ret pe_bl)) pss_nil))))
    (pss_one (ps_ret (pe_callRS (ok_law_bad T) (hr.mono (by decide)) (by rfl) T.m_law_bad T.F_law_bad.kp (passE (takes_of rfl rfl rfl rfl)) (pa_cons (pv 1) (pa_cons (pv 2) (pa_cons (pv 3) (pa_cons (pv 4) (pa_cons (pv 5) (pa_cons (pv 10) pa_nil)))))))))))))))))))))))))),
    (ss_seq (ss_asg (se_call (sa_cons se_var (sa_cons se_int (sa_cons se_bl sa_nil)))) sg_name)
    (ss_seq (ss_asg (se_call (sa_cons se_var sa_nil)) sg_name)
    (ss_seq (ss_asg (se_call (sa_cons se_var (sa_cons se_int sa_nil))) sg_name)
    (ss_seq (ss_asg (se_call (sa_cons se_var (sa_cons se_var (sa_cons se_var sa_nil)))) sg_name)
    (ss_seq (ss_asg (se_op2 s2_sub (se_call (sa_cons se_var (sa_cons se_int sa_nil))) se_int) sg_name)
    (ss_seq (ss_asg (se_op2 s2_sub (se_call (sa_cons se_var (sa_cons se_int sa_nil))) se_int) sg_name)
    (ss_seq (ss_if (st_or (st_not (st_tru (se_call (sa_cons (se_call (sa_cons se_var (sa_cons se_var sa_nil))) sa_nil)))) (st_test (se_op2 s2_ne (se_call (sa_cons se_var (sa_cons se_var sa_nil))) (se_call (sa_cons se_var (sa_cons se_var sa_nil)))))) (ss_ret se_bl) ss_next)
    (ss_seq (ss_asg (se_call (sa_cons se_var (sa_cons (se_cb sn_len (sa_cons se_var sa_nil)) sa_nil))) sg_name)
    (ss_seq (ss_if (st_test (se_op2 s2_ne (se_call (sa_cons (se_op2 s2_ix (se_op2 s2_ix se_var se_int) se_var) (sa_cons se_var sa_nil))) (se_op2 s2_mul se_int (se_call (sa_cons (se_op2 s2_ix (se_op2 s2_ix se_var se_int) se_var) (sa_cons se_var sa_nil)))))) (ss_ret se_bl) ss_next)
    (ss_seq (ss_asg (se_new (sen_comp (si_rng1 (sa_cons (se_cb sn_len (sa_cons se_var sa_nil)) sa_nil)) (st_test (se_op2 s2_gt (se_cb sn_len (sa_cons (se_op2 s2_ix (se_op2 s2_ix se_var se_int) se_var) sa_nil)) se_int)) se_var)) sg_name)
    (ss_seq (ss_if (st_test (se_op2 s2_eq (se_cb sn_len (sa_cons se_var sa_nil)) se_int)) (ss_ret (se_op2 s2_eq (se_call (sa_cons se_var (sa_cons se_var (sa_cons se_var (sa_cons se_var sa_nil))))) (se_op2 s2_add (se_op2 s2_mul se_int se_var) se_int))) ss_next)
    (ss_seq (ss_asg (se_op2 s2_ix se_var (se_call (sa_cons se_var (sa_cons (se_cb sn_len (sa_cons se_var sa_nil)) sa_nil)))) sg_name)
    (ss_seq (ss_asg (se_call (sa_cons (se_call (sa_cons se_var (sa_cons se_var (sa_cons se_var sa_nil)))) (sa_cons (se_call (sa_cons se_var (sa_cons se_var (sa_cons se_var sa_nil)))) sa_nil))) sg_name)
    (ss_seq (ss_asg (se_call (sa_cons se_var (sa_cons se_var (sa_cons se_var (sa_cons se_var sa_nil))))) sg_name)
    (ss_seq (ss_asg (se_new (sen_comp (si_list se_var) st_true (se_op2 s2_sub se_var se_int))) sg_name)
    (ss_seq (ss_if (st_or (st_not (st_tru (se_call (sa_cons se_var sa_nil)))) (st_or (st_test (se_op2 s2_ne se_var se_var)) (st_test (se_op2 s2_ne (se_call (sa_cons se_var (sa_cons se_var (sa_cons se_var (sa_cons se_var sa_nil))))) (se_op2 s2_sub se_var se_int))))) (ss_ret se_bl) ss_next)
    (ss_seq (ss_for (si_rng1 (sa_cons (se_op2 s2_add (se_op2 s2_mul se_int se_var) se_int) sa_nil)) sg_name (ss_seq (ss_if (st_not (st_tru (se_call (sa_cons se_var (sa_cons se_var (sa_cons se_var (sa_cons se_var (sa_cons se_var (sa_cons se_var (sa_cons se_int (sa_cons (se_op2 s2_ge se_var se_var) sa_nil))))))))))) (ss_ret se_bl) ss_next)
    (ss_if (st_not (st_tru (se_call (sa_cons se_var (sa_cons se_var (sa_cons se_var (sa_cons se_var (sa_cons se_var (sa_cons se_var (sa_cons se_int (sa_cons (se_op2 s2_lt se_var se_var) sa_nil))))))))))) (ss_ret se_bl) ss_next)))
    (ss_ret (se_call (sa_cons se_var (sa_cons se_var (sa_cons se_var (sa_cons se_var (sa_cons se_var (sa_cons se_var sa_nil)))))))))))))))))))))))))⟩
end
end K56
namespace PL
open PySem L2 Den
noncomputable section
variable {c : Cfg} {P : Program} {w : World} {mg : Str → Option Value} {base : Heap}
abbrev qA (c : Cfg) : TS := (tIfS (tTest (tOp (rI0 fun i j => V.bl (decide (j < i))) (tVar 3) (tC (V.int 0)))) (tSeq (tDrop (tBM c.K "list" rAppend (tVar 1) (tCons (tOp (rI (fun _ j => 0 < j) fun i j => V.int (i % j)) (tCB rIntF (tCons (tVar 3) tNil)) (tC (V.int 30))) tNil)))
    (tAsg (tOp (rI CDiv fun i j => V.int (i / j)) (tVar 3) (tC (V.int 30))) (gName 3))) tNext)
abbrev qB (c : Cfg) : TS := (tSeq (tAsg (tOp (rI (fun _ j => 0 < j) fun i j => V.int (i % j)) (tCB rIntF (tCons (tOp (rI0 fun i j => V.int (i + j)) (tOp (rI0 fun i j => V.int (i + j)) (tOp (rI0 fun i j => V.int (i + j)) (tOp (rI CMul fun i j => V.int (i * j)) (tVar 6) (tVar 6)) (tOp (rI CMul fun i j => V.int (i * j)) (tVar 5) (tC (V.int 31337)))) (tOp (rI CMul fun i j => V.int (i * j)) (tVar 2) (tC (V.int 5)))) (tC (V.int 3))) tNil)) (tC (V.int 998244353))) (gName 6))
    (tDrop (tBM c.K "list" rAppend (tVar 1) (tCons (tVar 6) tNil))))
abbrev qTail (c : Cfg) : TS := (tIfS (tTest (tOp (rI0 fun i j => V.bl (decide (j ≤ i))) (tVar 3) (tOp (rI CPow fun i j => V.int (i ^ j.toNat)) (tC (V.int 10)) (tC (V.int 18))))) (tFor (iRng1 (tCons (tC (V.int 48)) tNil)) (gName 5) (qA c)) (tSeq (tAsg (tOp (rI (fun _ j => 0 < j) fun i j => V.int (i % j)) (tCB rIntF (tCons (tOp (rI0 fun i j => V.int (i + j)) (tOp (rI0 fun i j => V.int (i + j)) (tOp (rI CMul fun i j => V.int (i * j)) (tVar 3) (tC (V.int 7919))) (tOp (rI CMul fun i j => V.int (i * j)) (tVar 2) (tC (V.int 104729)))) (tVar 4)) tNil)) (tC (V.int 998244353))) (gName 6))
    (tFor (iRng1 (tCons (tC (V.int 5)) tNil)) (gName 5) (qB c))))
abbrev qPot (c : Cfg) : TS := (tSeq (tAsg (tLst tNil) (gName 1))
    (tSeq (tFor (iRng1 (tCons (tCB rMin2F (tCons (tCB (rLenS c.K) (tCons (tVar 0) tNil)) (tCons (tC (V.int 63)) tNil))) tNil)) (gName 2) (tSeq (tAsg (tCB rIntF (tCons (tOp (rIx c.K) (tVar 0) (tVar 2)) tNil)) (gName 3))
    (tSeq (tAsg (tC (V.int 11)) (gName 4))
    (tSeq (tIfS (tTest (tOp (rI0 fun i j => V.bl (decide (i < j))) (tVar 3) (tC (V.int 0)))) (tSeq (tAsg (tOp (rI0 fun i j => V.int (i - j)) (tC (V.int 0)) (tVar 3)) (gName 3))
    (tAsg (tC (V.int 503)) (gName 4))) tNext)
    (qTail c)))))
    (tSeq (tDrop (tBM0 c.K "list" rReverse (tVar 1)))
    (tRet (tVar 1)))))
/-- one turn of the pot's list at p -/
abbrev SP (a p : Addr) (i m sh : Int) (o5 o6 : Option V) : L2.St := [some (.ref a), some (.ref p), some (.int i), some (.int m), some (.int sh), o5, o6]
theorem tyList {K : PySem.W.Frag} {H : Hp} {p : Addr} {xs : List V} (h : H p = some (.lst xs)) : tyV K "list" (.ref p) H := .inl ⟨rfl, _, SqL.of h⟩
theorem small (n : Nat) (h : n < 16000000) : n < sizeLine := by
  show n < 2 ^ 24
  omega
theorem tail_ok (c : Cfg) (a p : Addr) (i m sh : Int) (hi0 : 0 ≤ i) (hi : i < 63) (o5 o6 : Option V) (H : Hp) (pot : List Int) (hl : pot.length < 10000) (hp : H p = some (.lst (pot.map V.int))) (De : Ends)
    (k : ∀ (pot' : List Int) (m' : Int) (o5' o6' : Option V) (H' : Hp), (∀ b, b ≠ p → H' b = H b) → H' p = some (.lst (pot'.map V.int)) → pot'.length ≤ pot.length + 48 → De.nx (SP a p i m' sh o5' o6') H') :
    qTail c De (SP a p i m sh o5 o6) H := by
  refine ⟨_, rfl, _, _, rfl, rfl, ⟨by decide, by decide, by decide⟩, _, _, rfl, rfl, _, rfl, ?_⟩
  refine ite2 (fun _ => ?_) (fun _ => ?_)
  · refine ⟨_, rfl, by decide, by decide, ?_⟩
    refine for_range (fun j σ H' => ∃ (pot' : List Int) (m' : Int) (o5' : Option V), σ = SP a p i m' sh o5' o6 ∧ (∀ b, b ≠ p → H' b = H b) ∧ H' p = some (.lst (pot'.map V.int)) ∧ pot'.length ≤ pot.length + j) ⟨pot, m, o5, rfl, fun _ _ => rfl, hp, Nat.le_refl _⟩ ?_ ?_
    · rintro j σ H' hj ⟨pot', m', o5', rfl, h1, h2, h3⟩
      refine ⟨_, rfl, _, _, rfl, rfl, _, rfl, ?_⟩
      refine ite2 (fun _ => ?_) (fun _ => ?_)
      · refine ⟨_, rfl, tyList h2, _, rfl, .inl ⟨_, rfl, _, _, rfl, rfl, (show (0 : Int) < 30 by decide), p, _, _, rfl, rfl, h2, small _ (by rw [List.length_map]; have : j < 48 := hj; omega), ?_⟩⟩
        refine ⟨_, rfl, _, _, rfl, rfl, ⟨by decide, by decide⟩, ?_⟩
        exact ⟨pot' ++ [m' % 30], m' / 30, _, rfl, fun b hb => (upd_ne hb).trans (h1 b hb), by rw [upd_same, List.map_append]; rfl, by rw [List.length_append]; show pot'.length + 1 ≤ _; omega⟩
      · exact ⟨pot', m', _, rfl, h1, h2, by omega⟩
    · rintro σ H' ⟨pot', m', o5', rfl, h1, h2, h3⟩
      exact k pot' m' o5' o6 H' h1 h2 h3
  · refine ⟨_, rfl, _, _, rfl, rfl, .inr ⟨by decide, by decide⟩, _, rfl, _, _, rfl, rfl, .inr ⟨by decide, by decide⟩, _, _, rfl, rfl, _, rfl, _, _, rfl, rfl, .inl ⟨_, rfl, _, _, rfl, rfl, (show (0 : Int) < 998244353 by decide), ?_⟩⟩
    refine ⟨_, rfl, by decide, by decide, ?_⟩
    refine for_range (fun j σ H' => ∃ (pot' : List Int) (x : Int) (o5' : Option V), σ = SP a p i m sh o5' (some (.int x)) ∧ 0 ≤ x ∧ x < 998244353 ∧ (∀ b, b ≠ p → H' b = H b) ∧ H' p = some (.lst (pot'.map V.int)) ∧ pot'.length ≤ pot.length + j) ⟨pot, _, o5, rfl, Int.emod_nonneg _ (by decide), Int.emod_lt_of_pos _ (by decide), fun _ _ => rfl, hp, Nat.le_refl _⟩ ?_ ?_
    · rintro j σ H' hj ⟨pot', x, o5', rfl, x0, x1, h1, h2, h3⟩
      refine ⟨_, rfl, _, rfl, _, _, rfl, rfl, .inl ⟨by omega, by omega⟩, _, rfl, _, _, rfl, rfl, .inr ⟨by decide, by decide⟩, _, _, rfl, rfl, _, rfl, _, _, rfl, rfl, .inr ⟨by decide, by decide⟩, _, _, rfl, rfl, _, _, rfl, rfl, .inl ⟨_, rfl, _, _, rfl, rfl, (show (0 : Int) < 998244353 by decide), ?_⟩⟩
      refine ⟨_, rfl, tyList h2, _, rfl, p, _, _, rfl, rfl, h2, small _ (by rw [List.length_map]; have : j < 5 := hj; omega), ?_⟩
      exact ⟨pot' ++ [_], _, _, rfl, Int.emod_nonneg _ (by decide), Int.emod_lt_of_pos _ (by decide), fun b hb => (upd_ne hb).trans (h1 b hb), by rw [upd_same, List.map_append]; rfl, by rw [List.length_append]; show pot'.length + 1 ≤ _; omega⟩
    · rintro σ H' ⟨pot', x, o5', rfl, x0, x1, h1, h2, h3⟩
      exact k pot' m o5' _ H' h1 h2 (by have : (5 : Int).toNat = 5 := rfl; omega)

/-- what the pot's maker promises: a fresh list of ints -/
def spPot (K : PySem.W.Frag) : Sp := fun vs H Q _ => ∃ (a : Addr) (ns : List Int), vs = [.ref a] ∧ SqL K H a (ns.map V.int) ∧ ns.length ≤ 63 ∧ ∀ (p : Addr) (pot : List Int) (H' : Hp), H' p = some (.lst (pot.map V.int)) → Q (.ref p) H'
theorem pot_run {a : Addr} {ns : List Int} {H : Hp} {Q : VK} (hS : SqL c.K H a (ns.map V.int)) (hl : ns.length ≤ 63) (k : ∀ (p : Addr) (pot : List Int) (H' : Hp), H' p = some (.lst (pot.map V.int)) → Q (.ref p) H') :
    qPot c { nx := fun _ H' => Q .non H', rt := Q } [some (.ref a), none, none, none, none, none, none] H := by
  refine ⟨Nat.zero_le _, fun p hp => ?_⟩
  have s0 : Same H (upd H p (.lst [])) := fun b o e => by
    rw [upd_ne (ne_of_none e hp)]
    exact e
  have hlen : (ns.map V.int).length = ns.length := List.length_map _
  refine ⟨_, rfl, a, ns.map V.int, rfl, .inl (s0.seq hS), _, _, rfl, _, rfl, ?_, ?_, ?_⟩
  · split <;> omega
  · split <;> omega
  refine for_range (fun j σ H' => ∃ (pot : List Int) (o2 o3 o4 o5 o6 : Option V), σ = [some (.ref a), some (.ref p), o2, o3, o4, o5, o6] ∧ Same H H' ∧ H' p = some (.lst (pot.map V.int)) ∧ pot.length ≤ 48 * j) ⟨[], _, _, _, _, _, rfl, s0, upd_same, Nat.le_refl _⟩ ?_ ?_
  · rintro j σ H' hj ⟨pot, o2, o3, o4, o5, o6, rfl, s1, h1, h2⟩
    have hj1 : j < ns.length := by
      rw [hlen] at hj
      split at hj <;> omega
    have hx : atI (ns.map V.int) (0 + (j : Int)) = some (V.int (ns[j]'hj1)) := by
      rw [Int.zero_add]
      refine atI_nat ?_
      rw [List.getElem?_map, List.getElem?_eq_getElem hj1]
      rfl
    have key : ∀ (m sh : Int) (De : Ends), De.nx = (fun σ H' => ∃ (pot : List Int) (o2 o3 o4 o5 o6 : Option V), σ = [some (.ref a), some (.ref p), o2, o3, o4, o5, o6] ∧ Same H H' ∧ H' p = some (.lst (pot.map V.int)) ∧ pot.length ≤ 48 * (j + 1)) → qTail c De (SP a p (0 + (j : Int)) m sh o5 o6) H' := fun m sh De eD => by
      refine tail_ok c a p (0 + (j : Int)) m sh (by omega) (by omega) o5 o6 H' pot (by omega) h1 _ fun pot' m' o5' o6' H2 g1 g2 g3 => ?_
      rw [eD]
      exact ⟨pot', _, _, _, _, _, rfl, fun b o e => by
        rw [g1 b (ne_of_none e hp)]
        exact s1 b o e, g2, by omega⟩
    refine ⟨_, rfl, _, rfl, .inl ⟨a, _, _, _, rfl, rfl, s1.seq hS, hx, .inl ⟨_, rfl, ?_⟩⟩⟩
    refine ⟨_, rfl, _, _, rfl, rfl, _, rfl, ?_⟩
    refine ite2 (fun _ => ?_) (fun _ => ?_)
    · refine ⟨_, rfl, _, _, rfl, rfl, ?_⟩
      exact key _ _ _ rfl
    · exact key _ _ _ rfl
  · rintro σ H' ⟨pot, o2, o3, o4, o5, o6, rfl, s1, h1, h2⟩
    refine ⟨_, rfl, tyList h1, p, _, rfl, rfl, h1, _, rfl, ?_⟩
    exact k p pot.reverse _ (by rw [upd_same, List.map_reverse])

end
end PL
namespace FX
open PySem L2 Den
variable {K : PySem.W.Frag}
end FX
namespace PL
open PySem L2 Den
def Lot (n : Int) (ss : List Int) : Prop := ss ≠ [] ∧ ss.length < 60 ∧ ∀ x ∈ ss, 0 ≤ x ∧ x < n
theorem scL_ints (ss : List Int) : scL (ss.map D.int) = some (ss.map V.int) := by
  induction ss with
  | nil => rfl
  | cons s ss ih => simp [scL, sc, ih]
theorem lot_ev (n : Int) (hn : 0 < n) (p : List Int) : ∃ ss q, D_law_lot [.pot, .int n] p = .ok (dI ss) q ∧ Lot n ss := by
  obtain ⟨v, q1, e1, hv0, hv1⟩ := draw_ev n hn p
  obtain ⟨t, q2, e2, ht0, ht1⟩ := draw_ev 3 (by decide) q1
  have key := loop_run (tg := gset 3) (body := sseq (sasg (mcall D_law_draw (acons (mvar 0) (acons (mvar 1) anil))) (gset 4)) (sif (mtest (minc true (mvar 4) 2)) (sappend 2 (mvar 4)) sskip))
    (fun (k : Nat) (l : Den.Loc) (q : List Int) => ∃ ss o3 o4, l = [some (.dat .pot), some (.dat (.int n)), some (.cell (ss.map .int)), o3, o4] ∧ ss ≠ [] ∧ ss.length ≤ 1 + k ∧ ∀ x ∈ ss, 0 ≤ x ∧ x < n)
    (ds := rngD 0 t.toNat) (k := 0) (l := [some (.dat .pot), some (.dat (.int n)), some (.cell [.int v]), none, none]) (p := q2) ⟨[v], none, none, rfl, by simp, by simp, by simp [hv0, hv1]⟩ (fun i d l q hd hI => by
      obtain ⟨ss, o3, o4, rfl, h1, h2, h3⟩ := hI
      have hi := (rngD_get hd).1
      obtain ⟨x, q', e, hx0, hx1⟩ := draw_ev n hn q
      refine ⟨_, lset_lt 3 _ _ (by simp), ?_⟩
      have hlen : ss.length < 1000 := by omega
      by_cases hin : inV (V.int x) (ss.map V.int) = true
      · refine ⟨[some (.dat .pot), some (.dat (.int n)), some (.cell (ss.map .int)), some (.dat d), some (.dat (.int x))], q', .inl ?_, ss, _, _, rfl, h1, by omega, h3⟩
        simp [mvar, e, minc, sc, scL_ints, hin]
      · refine ⟨[some (.dat .pot), some (.dat (.int n)), some (.cell ((ss ++ [x]).map .int)), some (.dat d), some (.dat (.int x))], q', .inl ?_, ss ++ [x], _, _, rfl, by simp, by rw [List.length_append]; simp; omega, fun y hy => ?_⟩
        · have hin' : inV (V.int x) (ss.map V.int) = false := by simpa using hin
          simp [mvar, e, minc, sc, scL_ints, hin', sappend, hlen, sbind]
        · rcases List.mem_append.mp hy with h | h
          · exact h3 y h
          · have : y = x := by simpa using h
            rw [this]; exact ⟨hx0, hx1⟩)
  obtain ⟨l', q3, e3, ss, o3, o4, rfl, h1, h2, h3⟩ := key
  rw [rngD_len] at h2
  refine ⟨ss, q3, ?_, h1, by omega, h3⟩
  have hr : rng1 [D.int t] = some (rngD 0 t.toNat) := rng1_int (by omega)
  simp [D_law_lot, denF, dn_law_lot, locOf, mvar, e1, e2, hr, e3, sgive, dI]
def DueOk (d : Due) : Prop := ∀ b x, d = some (b, x) → 0 ≤ x ∧ x ≤ 4
theorem due_ev (p : List Int) : ∃ d q, D_law_due [.pot] p = .ok (dDue d) q ∧ DueOk d := by
  obtain ⟨v, q1, e1, hv0, hv1⟩ := draw_ev 6 (by decide) p
  by_cases h2 : v ≤ 2
  · exact ⟨some (true, 0), q1, by simp [D_law_due, denF, dn_law_due, locOf, mvar, e1, h2, dDue], fun b x h => by cases h; decide⟩
  · by_cases h3 : v = 3
    · obtain ⟨x, q2, e2, hx0, hx1⟩ := draw_ev 4 (by decide) q1
      exact ⟨some (true, 1 + x), q2, by simp [D_law_due, denF, dn_law_due, locOf, mvar, e1, h3, e2, dDue], fun b y h => by cases h; omega⟩
    · by_cases h4 : v = 4
      · obtain ⟨x, q2, e2, hx0, hx1⟩ := draw_ev 3 (by decide) q1
        exact ⟨some (false, 1 + x), q2, by simp [D_law_due, denF, dn_law_due, locOf, mvar, e1, h4, e2, dDue], fun b y h => by cases h; omega⟩
      · exact ⟨none, q1, by simp [D_law_due, denF, dn_law_due, locOf, mvar, e1, h2, h3, h4, dDue], fun b y h => by cases h⟩
theorem marks_ev (n : Int) (h0 : 0 ≤ n) (h1 : n ≤ 60) (p : List Int) : ∃ ms q, D_law_marks [.pot, .int n] p = .ok (dI ms) q ∧ (ms.length : Int) = n ∧ ∀ m ∈ ms, m = 1 ∨ m = 2 := by
  obtain ⟨v, q1, e1, hv0, hv1⟩ := draw_ev 4 (by decide) p
  have hr : rng1 [D.int n] = some (rngD 0 n.toNat) := rng1_int (by omega)
  by_cases h2 : v ≤ 1
  · have hc : mcomp (mbind (acons (mvar 1) anil) fun x => mlift (rng1 x)) 3 mtrue (op2 fAdd (mret (D.int 1)) (mvar 2)) [some (.dat .pot), some (.dat (.int n)), some (.dat (.int v)), none] q1 = .ok ((List.replicate n.toNat (1 + v)).map .int) q1 := by
      refine (mcomp_ev (ds := rngD 0 n.toNat) (p' := q1) ?_ (by rw [rngD_len]; omega)).trans ?_
      · simp only [mbind_ev, acons_ev, mvar, List.getElem?_cons_succ, List.getElem?_cons_zero, bind_ok, anil_ev, hr, mlift_some]
      · refine (comp_map (by simp) (fun _ => .int (1 + v)) fun d hd => by simp [mvar]).trans ?_
        congr 1
        rw [List.map_replicate]
        refine List.eq_replicate_iff.mpr ⟨by rw [List.length_map, rngD_len], fun b hb => ?_⟩
        obtain ⟨_, _, rfl⟩ := List.mem_map.mp hb
        rfl
    refine ⟨List.replicate n.toNat (1 + v), q1, ?_, by rw [List.length_replicate]; omega, fun m hm => by have := (List.mem_replicate.mp hm).2; omega⟩
    simp [D_law_marks, denF, dn_law_marks, locOf, mvar, e1, h2, hc, dI]
  · have hc : ∃ ys q2, mcomp (mbind (acons (mvar 1) anil) fun x => mlift (rng1 x)) 3 mtrue (op2 fAdd (mret (D.int 1)) (mcall D_law_draw (acons (mvar 0) (acons (mret (D.int 2)) anil)))) [some (.dat .pot), some (.dat (.int n)), some (.dat (.int v)), none] q1 = .ok ys q2 ∧ ys.length = n.toNat ∧ ∀ y ∈ ys, ∃ m : Int, y = .int m ∧ (m = 1 ∨ m = 2) := by
      obtain ⟨ys, q2, e, hl, hy⟩ := comp_ex (i := 3) (e := op2 fAdd (mret (D.int 1)) (mcall D_law_draw (acons (mvar 0) (acons (mret (D.int 2)) anil)))) (l := [some (.dat .pot), some (.dat (.int n)), some (.dat (.int v)), none]) (by simp) (fun _ y => ∃ m : Int, y = .int m ∧ (m = 1 ∨ m = 2)) (ds := rngD 0 n.toNat) (p := q1) fun d hd p => by
        obtain ⟨x, q', e, hx0, hx1⟩ := draw_ev 2 (by decide) p
        exact ⟨.int (1 + x), q', by simp [mvar, e], 1 + x, rfl, by omega⟩
      refine ⟨ys, q2, (mcomp_ev (ds := rngD 0 n.toNat) (p' := q1) ?_ (by rw [rngD_len]; omega)).trans e, by rw [hl, rngD_len], fun y h => ?_⟩
      · simp only [mbind_ev, acons_ev, mvar, List.getElem?_cons_succ, List.getElem?_cons_zero, bind_ok, anil_ev, hr, mlift_some]
      · obtain ⟨_, _, q⟩ := hy y h
        exact q
    obtain ⟨ys, q2, e, hl, hy⟩ := hc
    have hms : ∃ ms : List Int, ys = ms.map .int ∧ ∀ m ∈ ms, m = 1 ∨ m = 2 := by
      clear e hl
      induction ys with
      | nil => exact ⟨[], rfl, fun _ h => nomatch h⟩
      | cons y ys ih =>
        obtain ⟨m, rfl, hm⟩ := hy y List.mem_cons_self
        obtain ⟨ms, rfl, h⟩ := ih fun y h => hy y (List.mem_cons_of_mem _ h)
        exact ⟨m :: ms, rfl, fun k hk => by
          rcases List.mem_cons.mp hk with rfl | hk
          · exact hm
          · exact h k hk⟩
    obtain ⟨ms, rfl, hm⟩ := hms
    rw [List.length_map] at hl
    refine ⟨ms, q2, ?_, by omega, hm⟩
    simp [D_law_marks, denF, dn_law_marks, locOf, mvar, e1, h2, e, dI]
end PL
namespace PL
open PySem L2 Den
def LotOk (n : Int) (ss : List Int) : Prop := ss.length < 60 ∧ ∀ x ∈ ss, 0 ≤ x ∧ x < n
def pathB : MS := sseq (sasg (op2 fSub (mvar 2) (mret (D.int 1))) (gset 3))
    (sseq (sif (mtest (op2 fEq (mvar 2) (mret (D.int 2)))) (sasg (mret (D.int 0)) (gset 3)) sskip)
    (sseq (sasg (op2 fAdd (mvar 2) (mret (D.int 1))) (gset 4))
    (sseq (sif (mtest (op2 fEq (mvar 2) (op2 fSub (mvar 0) (mret (D.int 1))))) (sasg (mret (D.int 1)) (gset 4)) sskip)
    (sappend 1 (mfreeze (mshort (acons (mvar 3) (acons (mvar 4) anil))))))))
theorem path_ev (n : Int) (h0 : 2 ≤ n) (h1 : n ≤ 60) (p : List Int) : ∃ lls : List (List Int), D_law_path [.int n] p = .ok (.lst (lls.map dI)) p ∧ (lls.length : Int) = n ∧ ∀ ss ∈ lls, LotOk n ss := by
  have key := loop_run (tg := gset 2) (body := pathB)
    (fun (k : Nat) (l : Den.Loc) (q : List Int) => q = p ∧ ∃ (lls : List (List Int)) (o2 o3 o4 : Option L), l = [some (.dat (.int n)), some (.cell (lls.map dI)), o2, o3, o4] ∧ lls.length = 2 + k ∧ ∀ ss ∈ lls, LotOk n ss)
    (ds := rngD 2 (n - 2).toNat) (k := 0) (l := [some (.dat (.int n)), some (.cell [.lst [], .lst []]), none, none, none]) (p := p) ⟨rfl, [[], []], none, none, none, rfl, rfl, by simp [LotOk]⟩ (fun i d l q hd hI => by
      obtain ⟨rfl, lls, o2, o3, o4, rfl, h2, h3⟩ := hI
      obtain ⟨hi, rfl⟩ := rngD_get hd
      have hin : i < (n - 2).toNat := hi
      have hlen : lls.length < 1000 := by omega
      have gen : ∀ a b : Int, 0 ≤ a → a < n → 0 ≤ b → b < n → ∀ ss ∈ lls ++ [[a, b]], LotOk n ss := fun a b a0 a1 b0 b1 ss hs => by
        rcases List.mem_append.mp hs with h | h
        · exact h3 ss h
        · have : ss = [a, b] := by simpa using h
          subst this
          exact ⟨by simp, by simp; omega⟩
      refine ⟨_, lset_lt 2 _ _ (by simp), ?_⟩
      have hv : ∃ v : Int, v = 2 + (i : Int) ∧ 2 ≤ v ∧ v < n := ⟨2 + (i : Int), rfl, by omega, by omega⟩
      obtain ⟨v, ev, v0, v1⟩ := hv
      rw [← ev]
      have fin : ∀ a b : Int, (if v = 2 then (0 : Int) else v - 1) = a → (if v = n - 1 then (1 : Int) else v + 1) = b → pathB (List.set [some (L.dat (D.int n)), some (L.cell (List.map dI lls)), o2, o3, o4] 2 (some (.dat (.int v)))) q = .nx [some (.dat (.int n)), some (.cell ((lls ++ [[a, b]]).map dI)), some (.dat (.int v)), some (.dat (.int a)), some (.dat (.int b))] q := fun a b ea eb => by
        unfold pathB
        by_cases c1 : v = 2
        · by_cases c2 : v = n - 1
          · rw [if_pos c1] at ea; rw [if_pos c2] at eb
            simp [mvar, sappend, hlen, sbind, dI, eq_true c1, eq_true c2, ← ea, ← eb]
          · rw [if_pos c1] at ea; rw [if_neg c2] at eb
            simp [mvar, sappend, hlen, sbind, dI, eq_true c1, eq_false c2, ← ea, ← eb]
        · by_cases c2 : v = n - 1
          · rw [if_neg c1] at ea; rw [if_pos c2] at eb
            simp [mvar, sappend, hlen, sbind, dI, eq_false c1, eq_true c2, ← ea, ← eb]
          · rw [if_neg c1] at ea; rw [if_neg c2] at eb
            simp [mvar, sappend, hlen, sbind, dI, eq_false c1, eq_false c2, ← ea, ← eb]
      refine ⟨_, q, .inl (fin _ _ rfl rfl), rfl, _, _, _, _, rfl, by rw [List.length_append]; simp; omega, gen _ _ ?_ ?_ ?_ ?_⟩
      all_goals (split <;> omega))
  obtain ⟨l', q, e, rfl, lls, o2, o3, o4, rfl, h2, h3⟩ := key
  rw [rngD_len] at h2
  refine ⟨lls, ?_, by omega, h3⟩
  have hr : rng2 [D.int 2, D.int n] = some (rngD 2 (n - 2).toNat) := rng2_int (by decide) (by omega)
  unfold pathB at e
  simp [D_law_path, denF, dn_law_path, locOf, mvar, hr, e, sgive]
end PL
namespace PL
open PySem L2 Den
def pE1 : MS := (sasg (vand (op2 fEq (mvar 7) (mret (D.int 0))) (op2 fNe (mvar 4) (mret (D.int 4)))) (gset 10))
def pE2 : MS := (sif (mand (mtest (op2 fEq (mvar 7) (mret (D.int 1)))) (mtest (op2 fNe (mvar 4) (mret (D.int 3))))) (sasg (mret (D.bl true)) (gset 10)) sskip)
def pE3 : MS := (sif (mand (mtest (op2 fGe (mvar 7) (mret (D.int 2)))) (mtest (op2 fEq (mcall D_law_draw (acons (mvar 0) (acons (mret (D.int 8)) anil))) (mret (D.int 7))))) (sasg (mret (D.bl true)) (gset 10)) sskip)
def pLots : MS := (sif (mtru (mvar 10)) (sseq (sappend 5 (mfreeze (mshort anil)))
    (sappend 8 (mfreeze (mshort anil)))) (sseq (sasg (mcall D_law_lot (acons (mvar 0) (acons (mvar 3) anil))) (gset 9))
    (sseq (sappend 5 (mvar 9))
    (sif (mor (mtru (mvar 2)) (mtest (op2 fEq (mcall D_law_draw (acons (mvar 0) (acons (mret (D.int 2)) anil))) (mret (D.int 0))))) (sappend 8 (mfreeze (mlistN (acons (mvar 9) anil)))) (sappend 8 (mcall D_law_lot (acons (mvar 0) (acons (mvar 3) anil))))))))
def pD0 : MS := (sasg (mret D.non) (gset 11))
def pD1 : MS := (sif (mor (mtest (op2 fEq (mvar 7) (mret (D.int 0)))) (mand (mtru (mvar 10)) (mtest (op2 fGe (mvar 7) (mret (D.int 2)))))) (sasg (mcall D_law_due (acons (mvar 0) anil)) (gset 11)) (sif (mand (mnot (mtru (mvar 10))) (mtest (op2 fEq (mcall D_law_draw (acons (mvar 0) (acons (mret (D.int 8)) anil))) (mret (D.int 7))))) (sasg (mcall D_law_due (acons (mvar 0) anil)) (gset 11)) sskip))
def pD2 : MS := (sappend 6 (mvar 11))
def pTurn : MS := sseq pE1 (sseq pE2 (sseq pE3 (sseq pLots (sseq pD0 (sseq pD1 pD2)))))
def pWeb : MS := (sseq (sasg (opn fMin2 (acons (mvar 1) (acons (op2 fIx (mfreeze (mshort (acons (mret (D.int 4)) (acons (mret (D.int 3)) (acons (mret (D.int 5)) (acons (mret (D.int 4)) (acons (mret (D.int 6)) (acons (mret (D.int 2)) (acons (mret (D.int 5)) (acons (mret (D.int 3)) (acons (mret (D.int 7)) (acons (mret (D.int 1)) anil)))))))))))) (mcall D_law_draw (acons (mvar 0) (acons (mret (D.int 10)) anil)))) anil))) (gset 3))
    (sseq (sasg (mcall D_law_draw (acons (mvar 0) (acons (mret (D.int 5)) anil))) (gset 4))
    (sseq (sown (mshort anil) 5)
    (sseq (sown (mshort anil) 6)
    (sseq (sif (mand (mtest (op2 fEq (mvar 4) (mret (D.int 0)))) (mtest (op2 fGe (mvar 3) (mret (D.int 2))))) (sseq (sasg (mcall D_law_path (acons (mvar 3) anil)) (gset 5))
    (sseq (sasg (op2 fCat (mfreeze (mshort (acons (mtupd (acons (mret (D.str "chips")) (acons (mret (D.int 0)) anil))) anil))) (mfreeze (mcomp (mbind (acons (op2 fSub (mvar 3) (mret (D.int 1))) anil) fun x => mlift (rng1 x)) 7 mtrue (mret D.non)))) (gset 6))
    (sgive 5 (sown (mcomp (mbind (mvar 5) fun x => mlift (lstOf x)) 9 mtrue (mfreeze (mlistN (acons (mvar 9) anil)))) 8)))) (sseq (sown (mshort anil) 8)
    (sfor (mbind (acons (mvar 3) anil) fun x => mlift (rng1 x)) (gset 7) pTurn)))
    (sgive 8 (sgive 5 (sgive 6 (sret (mfreeze (mshort (acons (mvar 5) (acons (mvar 8) (acons (mcall D_law_marks (acons (mvar 0) (acons (mvar 3) anil))) (acons (mvar 6) anil)))))))))))))))
theorem pWeb_is : dn_law_web = pWeb := rfl
abbrev Stt (m n s : Int) (e : Bool) (fs ss : List (List Int)) (ds : List Due) (o7 o9 o10 o11 : Option L) : Den.Loc := [some (.dat .pot), some (.dat (.int m)), some (.dat (.bl e)), some (.dat (.int n)), some (.dat (.int s)), some (.cell (fs.map dI)), some (.cell (ds.map dDue)), o7, some (.cell (ss.map dI)), o9, o10, o11]
theorem end_ev (m n s i : Int) (hi : 0 ≤ i) (e : Bool) (fs ss : List (List Int)) (ds : List Due) (o9 o10 o11 : Option L) (q : List Int) (R : MS) : ∃ b q', sseq pE1 (sseq pE2 (sseq pE3 R)) (Stt m n s e fs ss ds (some (.dat (.int i))) o9 o10 o11) q = R (Stt m n s e fs ss ds (some (.dat (.int i))) o9 (some (.dat (.bl b))) o11) q' := by
  by_cases h0 : i = 0
  · subst h0
    refine ⟨!decide (s = 4), q, ?_⟩
    simp [pE1, pE2, pE3, mvar]
  · by_cases h1 : i = 1
    · subst h1
      by_cases h3 : s = 3
      · exact ⟨false, q, by simp [pE1, pE2, pE3, mvar, h3]⟩
      · exact ⟨true, q, by simp [pE1, pE2, pE3, mvar, h3]⟩
    · have h2 : 2 ≤ i := by omega
      obtain ⟨v, q1, e1, hv0, hv1⟩ := draw_ev 8 (by decide) q
      by_cases h7 : v = 7
      · exact ⟨true, q1, by simp [pE1, pE2, pE3, mvar, h0, h1, h2, e1, h7]⟩
      · exact ⟨false, q1, by simp [pE1, pE2, pE3, mvar, h0, h1, h2, e1, h7]⟩
theorem Lot.ok {n : Int} {ss : List Int} (h : Lot n ss) : LotOk n ss := h.2
theorem dues_ev (m n s i : Int) (e b : Bool) (fs ss : List (List Int)) (ds : List Due) (o9 o11 : Option L) (hd : ds.length < 1000) (q : List Int) : ∃ d o11' q', sseq pD0 (sseq pD1 pD2) (Stt m n s e fs ss ds (some (.dat (.int i))) o9 (some (.dat (.bl b))) o11) q = .nx (Stt m n s e fs ss (ds ++ [d]) (some (.dat (.int i))) o9 (some (.dat (.bl b))) o11') q' ∧ DueOk d := by
  have hN : DueOk none := fun b x h => nomatch h
  have dN : dDue none = .non := rfl
  by_cases h0 : i = 0
  · obtain ⟨d, q1, e1, D1⟩ := due_ev q
    exact ⟨d, some (.dat (dDue d)), q1, by simp [pD0, pD1, pD2, mvar, sappend, hd, sbind, e1, h0], D1⟩
  · cases b with
    | true =>
      by_cases h2 : 2 ≤ i
      · obtain ⟨d, q1, e1, D1⟩ := due_ev q
        exact ⟨d, some (.dat (dDue d)), q1, by simp [pD0, pD1, pD2, mvar, sappend, hd, sbind, e1, h0, h2], D1⟩
      · exact ⟨none, some (.dat .non), q, by simp [pD0, pD1, pD2, mvar, sappend, hd, sbind, h0, h2, dN], hN⟩
    | false =>
      obtain ⟨v, q1, e1, hv0, hv1⟩ := draw_ev 8 (by decide) q
      by_cases h7 : v = 7
      · obtain ⟨d, q2, e2, D1⟩ := due_ev q1
        exact ⟨d, some (.dat (dDue d)), q2, by simp [pD0, pD1, pD2, mvar, sappend, hd, sbind, e1, h0, h7, e2], D1⟩
      · exact ⟨none, some (.dat .non), q1, by simp [pD0, pD1, pD2, mvar, sappend, hd, sbind, e1, h0, h7, dN], hN⟩
end PL
namespace PL
open PySem L2 Den
structure Grown (n : Int) (k : Nat) (fs ss : List (List Int)) (ds : List Due) : Prop where
  lf : fs.length = k
  ls : ss.length = k
  ld : ds.length = k
  of : ∀ x ∈ fs, LotOk n x
  os : ∀ x ∈ ss, LotOk n x
  od : ∀ d ∈ ds, DueOk d
  bo : fs.map List.isEmpty = ss.map List.isEmpty
theorem Grown.more {n : Int} {k : Nat} {fs ss : List (List Int)} {ds : List Due} (G : Grown n k fs ss ds) {fl sl : List Int} {d : Due} (h1 : LotOk n fl) (h2 : LotOk n sl) (h3 : fl.isEmpty = sl.isEmpty) (h4 : DueOk d) : Grown n (k + 1) (fs ++ [fl]) (ss ++ [sl]) (ds ++ [d]) := by
  have ap : ∀ {α : Type} {P : α → Prop} {xs : List α} {a : α}, (∀ x ∈ xs, P x) → P a → ∀ x ∈ xs ++ [a], P x := fun h ha x hx => by
    rcases List.mem_append.mp hx with h' | h'
    · exact h x h'
    · rcases List.mem_singleton.mp h' with rfl
      exact ha
  exact ⟨by simp [G.lf], by simp [G.ls], by simp [G.ld], ap G.of h1, ap G.os h2, ap G.od h4, by simp [G.bo, h3]⟩
theorem Grown.valid {n : Int} {fs ss : List (List Int)} {ds : List Due} {ms : List Int} (h1 : 1 ≤ n) (h2 : n ≤ 60) (hm : (ms.length : Int) = n) (hms : ∀ m ∈ ms, m = 1 ∨ m = 2) (G : Grown n n.toNat fs ss ds) : Valid ⟨fs, ss, ms, ds⟩ := by
  have hn : n.toNat = ms.length := by omega
  refine ⟨by show 1 ≤ ms.length; omega, by show ms.length ≤ 60; omega, G.lf.trans hn, G.ls.trans hn, G.ld.trans hn, fun s hs => ?_, fun s hs => ?_, fun i a b ha hb => ?_, hms, fun d hd b x e => by have := G.od d hd b x e; omega⟩
  · show s.length < 60 ∧ ∀ x ∈ s, 0 ≤ x ∧ x < (ms.length : Int)
    rw [hm]; exact G.of s hs
  · show s.length < 60 ∧ ∀ x ∈ s, 0 ≤ x ∧ x < (ms.length : Int)
    rw [hm]; exact G.os s hs
  · have e := congrArg (fun x => x[i]?) G.bo
    simp only [List.getElem?_map] at e
    have ha' : fs[i]? = some a := ha
    have hb' : ss[i]? = some b := hb
    rw [ha', hb'] at e
    simpa using e
theorem menu_ev (m : Int) (h1 : 1 ≤ m) (p : List Int) : ∃ n q, (∀ l : Den.Loc, l[0]? = some (some (.dat .pot)) → l[1]? = some (some (.dat (.int m))) → opn fMin2 (acons (mvar 1) (acons (op2 fIx (mfreeze (mshort (acons (mret (D.int 4)) (acons (mret (D.int 3)) (acons (mret (D.int 5)) (acons (mret (D.int 4)) (acons (mret (D.int 6)) (acons (mret (D.int 2)) (acons (mret (D.int 5)) (acons (mret (D.int 3)) (acons (mret (D.int 7)) (acons (mret (D.int 1)) anil)))))))))))) (mcall D_law_draw (acons (mvar 0) (acons (mret (D.int 10)) anil)))) anil)) l p = .ok (.int n) q) ∧ 1 ≤ n ∧ n ≤ m ∧ n ≤ 7 := by
  obtain ⟨v, q, e, h0, h9⟩ := draw_ev 10 (by decide) p
  have key : ∃ x : Int, 1 ≤ x ∧ x ≤ 7 ∧ atI [D.int 4, .int 3, .int 5, .int 4, .int 6, .int 2, .int 5, .int 3, .int 7, .int 1] v = some (.int x) := by
    have : ∀ j : Nat, j < 10 → ∃ x : Int, 1 ≤ x ∧ x ≤ 7 ∧ [D.int 4, .int 3, .int 5, .int 4, .int 6, .int 2, .int 5, .int 3, .int 7, .int 1][j]? = some (.int x) := fun j hj => by
      match j, hj with
      | 0, _ => exact ⟨4, by decide, by decide, rfl⟩
      | 1, _ => exact ⟨3, by decide, by decide, rfl⟩
      | 2, _ => exact ⟨5, by decide, by decide, rfl⟩
      | 3, _ => exact ⟨4, by decide, by decide, rfl⟩
      | 4, _ => exact ⟨6, by decide, by decide, rfl⟩
      | 5, _ => exact ⟨2, by decide, by decide, rfl⟩
      | 6, _ => exact ⟨5, by decide, by decide, rfl⟩
      | 7, _ => exact ⟨3, by decide, by decide, rfl⟩
      | 8, _ => exact ⟨7, by decide, by decide, rfl⟩
      | 9, _ => exact ⟨1, by decide, by decide, rfl⟩
      | j + 10, h => omega
    obtain ⟨x, hx1, hx2, hx3⟩ := this v.toNat (by omega)
    exact ⟨x, hx1, hx2, atI_nat' h0 hx3⟩
  obtain ⟨x, hx1, hx2, hx3⟩ := key
  refine ⟨if x < m then x else m, q, fun l hl0 hl1 => ?_, by split <;> omega, by split <;> omega, by split <;> omega⟩
  simp [mvar_ev hl0, mvar_ev hl1, e, hx3]
end PL
namespace PL
open PySem L2 Den
def pPath : MS := (sseq (sasg (mcall D_law_path (acons (mvar 3) anil)) (gset 5))
    (sseq (sasg (op2 fCat (mfreeze (mshort (acons (mtupd (acons (mret (D.str "chips")) (acons (mret (D.int 0)) anil))) anil))) (mfreeze (mcomp (mbind (acons (op2 fSub (mvar 3) (mret (D.int 1))) anil) fun x => mlift (rng1 x)) 7 mtrue (mret D.non)))) (gset 6))
    (sgive 5 (sown (mcomp (mbind (mvar 5) fun x => mlift (lstOf x)) 9 mtrue (mfreeze (mlistN (acons (mvar 9) anil)))) 8))))
def pLast : MS := (sgive 8 (sgive 5 (sgive 6 (sret (mfreeze (mshort (acons (mvar 5) (acons (mvar 8) (acons (mcall D_law_marks (acons (mvar 0) (acons (mvar 3) anil))) (acons (mvar 6) anil))))))))))
theorem last_cell (m n s : Int) (e : Bool) (fs ss : List (List Int)) (ds : List Due) (o7 o9 o10 o11 : Option L) (ms : List Int) (q q' : List Int) (hm : D_law_marks [.pot, .int n] q = .ok (dI ms) q') : pLast (Stt m n s e fs ss ds o7 o9 o10 o11) q = .rt (.lst (encW ⟨fs, ss, ms, ds⟩)) q' := by
  simp [pLast, sgive, mvar, hm, encW]
theorem path_run (m n s : Int) (h2 : 2 ≤ n) (h60 : n ≤ 60) (e : Bool) (o8 o9 o10 o11 : Option L) (o7 : Option L) (q : List Int) : ∃ fs o7' o9', pPath [some (.dat .pot), some (.dat (.int m)), some (.dat (.bl e)), some (.dat (.int n)), some (.dat (.int s)), some (.cell []), some (.cell []), o7, o8, o9, o10, o11] q
    = .nx [some (.dat .pot), some (.dat (.int m)), some (.dat (.bl e)), some (.dat (.int n)), some (.dat (.int s)), some (.dat (.lst (fs.map dI))), some (.dat (.lst ((some (true, 0) :: List.replicate (n - 1).toNat none : List Due).map dDue))), o7', some (.cell (fs.map dI)), o9', o10, o11] q ∧ Grown n n.toNat fs fs (some (true, 0) :: List.replicate (n - 1).toNat none : List Due) := by
  obtain ⟨fs, e1, hl, hok⟩ := path_ev n h2 h60 q
  have hr : rng1 [D.int (n - 1)] = some (rngD 0 (n - 1).toNat) := rng1_int (by omega)
  have c1 : ∀ o5 : Option L, mcomp (mbind (acons (op2 fSub (mvar 3) (mret (D.int 1))) anil) fun x => mlift (rng1 x)) 7 mtrue (mret D.non) [some (.dat .pot), some (.dat (.int m)), some (.dat (.bl e)), some (.dat (.int n)), some (.dat (.int s)), o5, some (.cell []), o7, o8, o9, o10, o11] q = .ok (List.replicate (n - 1).toNat D.non) q := fun o5 => by
    refine (mcomp_ev (ds := rngD 0 (n - 1).toNat) (p' := q) ?_ (by rw [rngD_len]; omega)).trans ?_
    · simp [mvar, hr]
    · refine (comp_map (by simp) (fun _ => D.non) fun d hd => by simp).trans ?_
      congr 1
      refine List.eq_replicate_iff.mpr ⟨by rw [List.length_map, rngD_len], fun b hb => ?_⟩
      obtain ⟨_, _, rfl⟩ := List.mem_map.mp hb
      rfl
  have c2 : ∀ o6 o7 : Option L, mcomp (mbind (mvar 5) fun x => mlift (lstOf x)) 9 mtrue (mfreeze (mlistN (acons (mvar 9) anil))) [some (.dat .pot), some (.dat (.int m)), some (.dat (.bl e)), some (.dat (.int n)), some (.dat (.int s)), some (.dat (.lst (fs.map dI))), o6, o7, o8, o9, o10, o11] q = .ok (fs.map dI) q := fun o6 o7 => by
    refine (mcomp_ev (ds := fs.map dI) (p' := q) ?_ (by rw [List.length_map]; omega)).trans ?_
    · simp [mvar]
    · refine (comp_mapL (by simp) dI dI fun x hx => by simp [mvar, dI])
  have hlen : 1 + (n.toNat - 1) ≤ 1000 := by omega
  refine ⟨fs, o7, o9, ?_, ?_⟩
  · simp [pPath, mvar, e1, c1, sgive, c2, fCat, hlen, dDue]
  · refine ⟨by omega, by omega, ?_, hok, hok, ?_, rfl⟩
    · simp; omega
    · intro d hd b x hx
      rcases List.mem_cons.mp hd with rfl | h
      · cases hx; decide
      · rw [(List.mem_replicate.mp h).2] at hx; cases hx
theorem denF_ev {n m : Nat} {s : MS} {ds : List D} {pot : List Int} (h : ds.length = n) : denF n m s ds pot = outR (s (locOf m ds) pot) := if_pos h
theorem sif_t {t : M Bool} {a b : MS} {l : Den.Loc} {p p' : List Int} (h : t l p = .ok true p') : sif t a b l p = a l p' := by rw [sif_ev, h]; rfl
theorem sif_f {t : M Bool} {a b : MS} {l : Den.Loc} {p p' : List Int} (h : t l p = .ok false p') : sif t a b l p = b l p' := by rw [sif_ev, h]; rfl
abbrev S0 (m : Int) (e : Bool) (o3 o4 o5 o6 o8 : Option L) : Den.Loc := [some (.dat .pot), some (.dat (.int m)), some (.dat (.bl e)), o3, o4, o5, o6, none, o8, none, none, none]
end PL
namespace PL
open PySem L2 Den
/-- the built web -/
def insW (A : CA) (wb : Wb) : D := .ins A.Web wnames (wfields wb)
theorem fld_ins {C : Addr} {f : Str} {ns : List Str} {ds : List D} : fFld C f (.ins C ns ds) = (ns.zip ds).lookup f := if_pos rfl
theorem lk_ne {f g : Str} {d : D} {l : List (Str × D)} (h : (f == g) = false) : ((g, d) :: l).lookup f = l.lookup f := by
  simp [List.lookup, h]
theorem lk_eq {f : Str} {d : D} {l : List (Str × D)} : ((f, d) :: l).lookup f = some d := by
  simp [List.lookup]
@[simp] theorem f_size (A : CA) (wb : Wb) : fFld A.Web "_size" (insW A wb) = some (.int wb.marks.length) := by
  unfold insW
  rw [fld_ins]
  exact lk_eq
@[simp] theorem f_first (A : CA) (wb : Wb) : fFld A.Web "_first" (insW A wb) = some (.tup (wb.first.map dS)) := by
  unfold insW
  rw [fld_ins]
  refine (lk_ne (by decide +kernel)).trans ?_
  exact lk_eq
@[simp] theorem f_second (A : CA) (wb : Wb) : fFld A.Web "_second" (insW A wb) = some (.tup (wb.second.map dS)) := by
  unfold insW
  rw [fld_ins]
  refine (lk_ne (by decide +kernel)).trans ?_
  refine (lk_ne (by decide +kernel)).trans ?_
  exact lk_eq
@[simp] theorem f_marks (A : CA) (wb : Wb) : fFld A.Web "_marks" (insW A wb) = some (.tup (wb.marks.map .int)) := by
  unfold insW
  rw [fld_ins]
  refine (lk_ne (by decide +kernel)).trans ?_
  refine (lk_ne (by decide +kernel)).trans ?_
  refine (lk_ne (by decide +kernel)).trans ?_
  exact lk_eq
@[simp] theorem isC_ins (A : CA) (wb : Wb) : fIsC A.Web [insW A wb, .cls A.Web] = some (.bl true) := by simp [fIsC, insW]
@[simp] theorem isC_lst (A : CA) (ds : List D) : fIsC A.Web [.lst ds, .cls A.Web] = some (.bl false) := by simp [fIsC, tyN]
theorem check_web_ok (A : CA) (wb : Wb) (p : List Int) : D_check_web A [insW A wb] p = .ok .non p := by
  simp [D_check_web, denF, dn_check_web, locOf, mvar]
def IsRow (rd : D) (r : List Int) : Prop := rd = dI r ∨ rd = .tup (r.map .int)
theorem IsRow.ix {rd : D} {r : List Int} (h : IsRow rd r) (i : Int) : fIx rd (.int i) = atI (r.map .int) i := by
  rcases h with rfl | rfl <;> rfl
theorem IsRow.sq {rd : D} {r : List Int} (h : IsRow rd r) : seqOf rd = some (r.map .int) := by
  rcases h with rfl | rfl <;> rfl
def rowAt (r : List Int) (x : Int) : Int := r[x.toNat]?.getD 0
theorem row_at {r : List Int} {x : Int} (h0 : 0 ≤ x) (h1 : x < (r.length : Int)) : atI (r.map D.int) x = some (.int (rowAt r x)) := by
  have hx : x.toNat < r.length := by omega
  refine atI_nat' h0 ?_
  rw [List.getElem?_map, List.getElem?_eq_getElem hx]
  simp [rowAt, List.getElem?_eq_getElem hx]
/-- stand i of the web -/
structure Here (wb : Wb) (i : Int) (f s : List Int) (mk : Int) : Prop where
  h0 : 0 ≤ i
  h1 : i < (wb.marks.length : Int)
  hf : wb.first[i.toNat]? = some f
  hs : wb.second[i.toNat]? = some s
  hm : wb.marks[i.toNat]? = some mk
theorem here_ex {wb : Wb} (V : Valid wb) {i : Int} (h0 : 0 ≤ i) (h1 : i < (wb.marks.length : Int)) : ∃ f s mk, Here wb i f s mk := by
  have l1 := V.l1
  have l2 := V.l2
  exact ⟨wb.first[i.toNat]'(by omega), wb.second[i.toNat]'(by omega), wb.marks[i.toNat]'(by omega), h0, h1, List.getElem?_eq_getElem _, List.getElem?_eq_getElem _, List.getElem?_eq_getElem _⟩
section
variable {wb : Wb} {i : Int} {f s : List Int} {mk : Int}
theorem Here.f1 (h : Here wb i f s mk) : atI (wb.first.map dS) i = some (dS f) := atI_nat' h.h0 (by rw [List.getElem?_map, h.hf]; rfl)
theorem Here.s1 (h : Here wb i f s mk) : atI (wb.second.map dS) i = some (dS s) := atI_nat' h.h0 (by rw [List.getElem?_map, h.hs]; rfl)
theorem Here.m1 (h : Here wb i f s mk) : atI (wb.marks.map D.int) i = some (.int mk) := atI_nat' h.h0 (by rw [List.getElem?_map, h.hm]; rfl)
theorem Here.f2 (h : Here wb i f s mk) : atI (wb.first.map dI) i = some (dI f) := atI_nat' h.h0 (by rw [List.getElem?_map, h.hf]; rfl)
theorem Here.s2 (h : Here wb i f s mk) : atI (wb.second.map dI) i = some (dI s) := atI_nat' h.h0 (by rw [List.getElem?_map, h.hs]; rfl)
theorem Here.fin (h : Here wb i f s mk) (V : Valid wb) : ∀ x ∈ f, 0 ≤ x ∧ x < (wb.marks.length : Int) := (V.s1 f (List.mem_of_getElem? h.hf)).2
theorem Here.sin (h : Here wb i f s mk) (V : Valid wb) : ∀ x ∈ s, 0 ≤ x ∧ x < (wb.marks.length : Int) := (V.s2 s (List.mem_of_getElem? h.hs)).2
theorem Here.em (h : Here wb i f s mk) (V : Valid wb) : f.isEmpty = s.isEmpty := V.both _ _ _ h.hf h.hs
end
def IsLow (r ss : List Int) (v : Int) : Prop := (∃ x ∈ ss, rowAt r x = v) ∧ ∀ x ∈ ss, v ≤ rowAt r x
def IsHigh (r ss : List Int) (v : Int) : Prop := (∃ x ∈ ss, rowAt r x = v) ∧ ∀ x ∈ ss, rowAt r x ≤ v
theorem IsLow.uniq {r ss : List Int} {v w : Int} (h : IsLow r ss v) (g : IsLow r ss w) : v = w := by
  obtain ⟨⟨x, hx, ex⟩, h2⟩ := h
  obtain ⟨⟨y, hy, ey⟩, g2⟩ := g
  have := h2 y hy
  have := g2 x hx
  omega
theorem IsHigh.uniq {r ss : List Int} {v w : Int} (h : IsHigh r ss v) (g : IsHigh r ss w) : v = w := by
  obtain ⟨⟨x, hx, ex⟩, h2⟩ := h
  obtain ⟨⟨y, hy, ey⟩, g2⟩ := g
  have := h2 y hy
  have := g2 x hx
  omega
theorem minL_low {r ss : List Int} (h : ss ≠ []) : ∃ v, fMinL [.lst (ss.map fun x => .int (rowAt r x))] = some (.int v) ∧ IsLow r ss v := by
  cases ss with
  | nil => exact absurd rfl h
  | cons a t =>
    have e : intsOf ((a :: t).map fun x => D.int (rowAt r x)) = some ((a :: t).map (rowAt r)) := by
      rw [← intsOf_map ((a :: t).map (rowAt r)), List.map_map]; rfl
    refine ⟨minL (rowAt r a) (t.map (rowAt r)), ?_, ?_, ?_⟩
    · show (intsOf ((a :: t).map fun x => D.int (rowAt r x))).bind leastOf = _
      rw [e]; rfl
    · have := minL_mem (t.map (rowAt r)) (rowAt r a)
      rw [← List.map_cons] at this
      exact List.mem_map.mp this
    · intro x hx
      have := minL_le (t.map (rowAt r)) (rowAt r a)
      rcases List.mem_cons.mp hx with rfl | hx
      · exact this.1
      · exact this.2 _ (List.mem_map_of_mem hx)
theorem maxL_high {r ss : List Int} (h : ss ≠ []) : ∃ v, fMaxL [.lst (ss.map fun x => .int (rowAt r x))] = some (.int v) ∧ IsHigh r ss v := by
  cases ss with
  | nil => exact absurd rfl h
  | cons a t =>
    have e : intsOf ((a :: t).map fun x => D.int (rowAt r x)) = some ((a :: t).map (rowAt r)) := by
      rw [← intsOf_map ((a :: t).map (rowAt r)), List.map_map]; rfl
    refine ⟨maxL (rowAt r a) (t.map (rowAt r)), ?_, ?_, ?_⟩
    · show (intsOf ((a :: t).map fun x => D.int (rowAt r x))).bind mostOf = _
      rw [e]; rfl
    · have := maxL_mem (t.map (rowAt r)) (rowAt r a)
      rw [← List.map_cons] at this
      exact List.mem_map.mp this
    · intro x hx
      have := le_maxL (t.map (rowAt r)) (rowAt r a)
      rcases List.mem_cons.mp hx with rfl | hx
      · exact this.1
      · exact this.2 _ (List.mem_map_of_mem hx)
theorem IsLow.sort {r ss : List Int} {v : Int} (h : IsLow r (sortSet ss) v) : IsLow r ss v := ⟨h.1.imp fun x hx => ⟨mem_sortSet.mp hx.1, hx.2⟩, fun x hx => h.2 x (mem_sortSet.mpr hx)⟩
theorem IsHigh.sort {r ss : List Int} {v : Int} (h : IsHigh r (sortSet ss) v) : IsHigh r ss v := ⟨h.1.imp fun x hx => ⟨mem_sortSet.mp hx.1, hx.2⟩, fun x hx => h.2 x (mem_sortSet.mpr hx)⟩
theorem sortSet_ne {ss : List Int} (h : ss ≠ []) : sortSet ss ≠ [] := fun e => by
  cases ss with
  | nil => exact h rfl
  | cons a t =>
    have : a ∈ sortSet (a :: t) := mem_sortSet.mpr List.mem_cons_self
    rw [e] at this
    cases this
end PL
namespace PL
open PySem L2 Den
theorem len_insS (k : Int) : ∀ ns : List Int, (insS k ns).length ≤ ns.length + 1
  | [] => Nat.le_refl _
  | n :: ns => by
    have := len_insS k ns
    unfold insS
    split
    · simp
    · split
      · simp
      · simp; omega
theorem len_sortSet : ∀ ns : List Int, (sortSet ns).length ≤ ns.length
  | [] => Nat.le_refl _
  | n :: ns => by
    have := len_sortSet ns
    have := len_insS n (sortSet ns)
    simp only [sortSet, List.length_cons]
    omega
section
variable {wb : Wb} {i : Int} {f s : List Int} {mk : Int}
@[simp] theorem tupOf_dS' (ss : List Int) : tupOf (dS ss) = some ((sortSet ss).map .int) := rfl
theorem low_of_ev (V : Valid wb) (A : CA) (h : Here wb i f s mk) (hne : f ≠ []) {rd : D} {r : List Int} (hr : IsRow rd r) (hl : r.length = wb.marks.length) (p : List Int) : ∃ v, D_low_of A [insW A wb, rd, .int i] p = .ok (.int v) p ∧ IsLow r f v := by
  obtain ⟨v, e, hv⟩ := minL_low (r := r) (sortSet_ne hne)
  have hf60 := (V.s1 f (List.mem_of_getElem? h.hf)).1
  have hs60 := len_sortSet f
  refine ⟨v, ?_, hv.sort⟩
  have c1 : mcomp (mbind (op2 fIx (mfld A.Web "_first" (mvar 0)) (mvar 2)) fun x => mlift (tupOf x)) 3 mtrue (op2 fIx (mvar 1) (mvar 3)) [some (.dat (insW A wb)), some (.dat rd), some (.dat (.int i)), none] p = .ok ((sortSet f).map fun x => .int (rowAt r x)) p := by
    rw [mcomp_ev (ds := (sortSet f).map D.int) (p' := p) (by simp [mvar, h.f1]) (by rw [List.length_map]; omega)]
    exact comp_mapL (by simp) D.int (fun x => .int (rowAt r x)) fun x hx => by
      have := h.fin V x (mem_sortSet.mp hx)
      simp [mvar, hr.ix, row_at this.1 (by rw [hl]; exact this.2)]
  simp [D_low_of, denF, dn_low_of, locOf, c1, e]
theorem high_of_ev (V : Valid wb) (A : CA) (h : Here wb i f s mk) (hne : s ≠ []) {rd : D} {r : List Int} (hr : IsRow rd r) (hl : r.length = wb.marks.length) (p : List Int) : ∃ v, D_high_of A [insW A wb, rd, .int i] p = .ok (.int v) p ∧ IsHigh r s v := by
  obtain ⟨v, e, hv⟩ := maxL_high (r := r) (sortSet_ne hne)
  have hf60 := (V.s2 s (List.mem_of_getElem? h.hs)).1
  have hs60 := len_sortSet s
  refine ⟨v, ?_, hv.sort⟩
  have c1 : mcomp (mbind (op2 fIx (mfld A.Web "_second" (mvar 0)) (mvar 2)) fun x => mlift (tupOf x)) 3 mtrue (op2 fIx (mvar 1) (mvar 3)) [some (.dat (insW A wb)), some (.dat rd), some (.dat (.int i)), none] p = .ok ((sortSet s).map fun x => .int (rowAt r x)) p := by
    rw [mcomp_ev (ds := (sortSet s).map D.int) (p' := p) (by simp [mvar, h.s1]) (by rw [List.length_map]; omega)]
    exact comp_mapL (by simp) D.int (fun x => .int (rowAt r x)) fun x hx => by
      have := h.sin V x (mem_sortSet.mp hx)
      simp [mvar, hr.ix, row_at this.1 (by rw [hl]; exact this.2)]
  simp [D_high_of, denF, dn_high_of, locOf, c1, e]
def halfI (mk x y : Int) : Int := if mk = 1 then (x + (if y > x then y else x)) / 2 else ((if y < x then y else x) + y + 1) / 2
end
theorem check_stand_ev (A : CA) (wb : Wb) (i : Int) (p : List Int) : D_check_stand A [insW A wb, .int i] p = if 0 ≤ i ∧ i ≤ (wb.marks.length : Int) - 1 then .ok .non p else .err 1 p := by
  have e := check_range_ev i 0 ((wb.marks.length : Int) - 1) p
  by_cases h : 0 ≤ i ∧ i ≤ (wb.marks.length : Int) - 1
  · rw [if_pos h] at e ⊢
    simp [D_check_stand, denF, dn_check_stand, locOf, mvar, e]
  · rw [if_neg h] at e ⊢
    simp [D_check_stand, denF, dn_check_stand, locOf, mvar, e]
theorem check_moving_ok (A : CA) {wb : Wb} {i : Int} {f s : List Int} {mk : Int} (h : Here wb i f s mk) (hne : f ≠ []) (p : List Int) : D_check_moving A [insW A wb, .int i] p = .ok .non p := by
  have hb : (sortSet f).isEmpty = false := by
    cases e : sortSet f with
    | nil => exact absurd e (sortSet_ne hne)
    | cons => rfl
  simp [D_check_moving, denF, dn_check_moving, locOf, mvar, h.f1, hb]
theorem check_moving_no (A : CA) {wb : Wb} {i : Int} {s : List Int} {mk : Int} (h : Here wb i [] s mk) (p : List Int) : D_check_moving A [insW A wb, .int i] p = .err 2 p := by
  simp [D_check_moving, denF, dn_check_moving, locOf, mvar, h.f1, sortSet]
end PL
namespace PL
open PySem L2 Den
theorem all_ints (r : List Int) : ∀ d ∈ r.map D.int, ∃ i, d = .int i := fun d h => by
  obtain ⟨i, _, rfl⟩ := List.mem_map.mp h
  exact ⟨i, rfl⟩
theorem whole1 (i : Int) (p : List Int) : D_check_whole [.int i] p = .ok .non p := check_whole_ok _ (all_ints [i]) (by simp) p
theorem whole2 (i j : Int) (p : List Int) : D_check_whole [.int i, .int j] p = .ok .non p := check_whole_ok _ (all_ints [i, j]) (by simp) p
section
variable (A : CA) (wb : Wb)
end
end PL
namespace PL
open PySem L2 Den
section
variable (A : CA) (wb : Wb)
variable {wb}
theorem loop_cons {tg : D → Den.Loc → Option Den.Loc} {body : MS} {d : D} {ds : List D} {l l1 l2 : Den.Loc} {p p2 : List Int} (h1 : tg d l = some l1) (h2 : body l1 p = .nx l2 p2) : loop tg body (d :: ds) l p = loop tg body ds l2 p2 := by
  conv => lhs; unfold loop
  rw [h1]
  simp only [h2]
end
end PL
namespace PL
open PySem L2 Den
section
variable (A : CA) {wb : Wb}
end
end PL
namespace PL
open PySem L2 Den
/-- what serves, told by the least and the greatest part -/
def Gd (mk x y P a q : Int) : Prop := if q < a ∨ (a = q ∧ mk = 1) then x ≤ P - a else y ≤ P + q
instance (mk x y P a q : Int) : Decidable (Gd mk x y P a q) := by unfold Gd; exact inferInstance
section
variable {wb : Wb} {i : Int} {f s : List Int} {mk : Int}
end
end PL
namespace PL
open PySem L2 Den
section
variable {wb : Wb} {i : Int} {f s : List Int} {mk : Int}
end
end PL
namespace PL
open PySem L2 Den
theorem pdL_ints (ns : List Int) : pdL (ns.map D.int) = some (ns.map .int) := by
  induction ns with
  | nil => rfl
  | cons n ns ih => simp [pdL, pd, ih]
section
variable (A : CA) {wb : Wb} {i : Int} {f s : List Int} {mk : Int}
/-- the shifted row -/
def moved (c : Int) (r : List Int) : List Int := r.map (· + c)
theorem moved_at (c : Int) (r : List Int) {z : Int} (h0 : 0 ≤ z) (h1 : z < (r.length : Int)) : rowAt (moved c r) z = rowAt r z + c := by
  have hz : z.toNat < r.length := by omega
  unfold rowAt moved
  rw [List.getElem?_map, List.getElem?_eq_getElem hz]
  rfl
theorem low_moved (V : Valid wb) (h : Here wb i f s mk) {r : List Int} (hl : r.length = wb.marks.length) (c : Int) {x y : Int} (h1 : IsLow r f x) (h2 : IsLow (moved c r) f y) : y = x + c := by
  have at' : ∀ z ∈ f, rowAt (moved c r) z = rowAt r z + c := fun z hz => by
    have := h.fin V z hz
    exact moved_at c r this.1 (by omega)
  obtain ⟨z, hz, ez⟩ := h1.1
  obtain ⟨u, hu, eu⟩ := h2.1
  have a1 := at' z hz
  have a2 := at' u hu
  have := h1.2 u hu
  have := h2.2 z hz
  omega
theorem high_moved (V : Valid wb) (h : Here wb i f s mk) {r : List Int} (hl : r.length = wb.marks.length) (c : Int) {x y : Int} (h1 : IsHigh r s x) (h2 : IsHigh (moved c r) s y) : y = x + c := by
  have at' : ∀ z ∈ s, rowAt (moved c r) z = rowAt r z + c := fun z hz => by
    have := h.sin V z hz
    exact moved_at c r this.1 (by omega)
  obtain ⟨z, hz, ez⟩ := h1.1
  obtain ⟨u, hu, eu⟩ := h2.1
  have a1 := at' z hz
  have a2 := at' u hu
  have := h1.2 u hu
  have := h2.2 z hz
  omega
end
theorem drawn_ints {k : Int} : ∀ ys : List D, (∀ y ∈ ys, ∃ m : Int, y = .int m ∧ 0 ≤ m ∧ m ≤ k) → ∃ r : List Int, ys = r.map .int ∧ ∀ v ∈ r, 0 ≤ v ∧ v ≤ k
  | [], _ => ⟨[], rfl, fun _ h => nomatch h⟩
  | y :: ys, h => by
    obtain ⟨m, rfl, hm⟩ := h y List.mem_cons_self
    obtain ⟨r, rfl, hr⟩ := drawn_ints ys fun z hz => h z (List.mem_cons_of_mem _ hz)
    exact ⟨m :: r, rfl, fun v hv => by
      rcases List.mem_cons.mp hv with rfl | hv
      · exact hm
      · exact hr v hv⟩
end PL
namespace PL
open PySem L2 Den
abbrev dd (d : D) : Option L := some (.dat d)
def lowI (r ss : List Int) : Int := match ss.map (rowAt r) with
  | [] => 0
  | n :: ns => minL n ns
def highI (r ss : List Int) : Int := match ss.map (rowAt r) with
  | [] => 0
  | n :: ns => maxL n ns
theorem lowI_is {r ss : List Int} (h : ss ≠ []) : IsLow r ss (lowI r ss) := by
  unfold lowI
  cases ss with
  | nil => exact absurd rfl h
  | cons n ns =>
    obtain ⟨h1, h2⟩ := minL_le (ns.map (rowAt r)) (rowAt r n)
    have hm := minL_mem (ns.map (rowAt r)) (rowAt r n)
    refine ⟨?_, fun x hx => ?_⟩
    · rcases List.mem_cons.mp hm with e | e
      · exact ⟨n, List.mem_cons_self, e.symm⟩
      · obtain ⟨x, hx, e⟩ := List.mem_map.mp e
        exact ⟨x, List.mem_cons_of_mem _ hx, e⟩
    · rcases List.mem_cons.mp hx with rfl | hx
      · exact h1
      · exact h2 _ (List.mem_map_of_mem hx)
theorem highI_is {r ss : List Int} (h : ss ≠ []) : IsHigh r ss (highI r ss) := by
  unfold highI
  cases ss with
  | nil => exact absurd rfl h
  | cons n ns =>
    obtain ⟨h1, h2⟩ := le_maxL (ns.map (rowAt r)) (rowAt r n)
    have hm := maxL_mem (ns.map (rowAt r)) (rowAt r n)
    refine ⟨?_, fun x hx => ?_⟩
    · rcases List.mem_cons.mp hm with e | e
      · exact ⟨n, List.mem_cons_self, e.symm⟩
      · obtain ⟨x, hx, e⟩ := List.mem_map.mp e
        exact ⟨x, List.mem_cons_of_mem _ hx, e⟩
    · rcases List.mem_cons.mp hx with rfl | hx
      · exact h1
      · exact h2 _ (List.mem_map_of_mem hx)
/-- the least of a list -/
def IsLeast (S : List Int) (v : Int) : Prop := v ∈ S ∧ ∀ z ∈ S, v ≤ z
theorem IsLeast.uniq {S T : List Int} {v w : Int} (h : IsLeast S v) (g : IsLeast T w) (e : ∀ z, z ∈ S ↔ z ∈ T) : v = w := by
  have := h.2 w ((e w).mpr g.1)
  have := g.2 v ((e v).mp h.1)
  omega
def leastI : List Int → Int
  | [] => 0
  | n :: ns => minL n ns
theorem leastI_is {S : List Int} (h : S ≠ []) : IsLeast S (leastI S) := by
  cases S with
  | nil => exact absurd rfl h
  | cons n ns =>
    obtain ⟨h1, h2⟩ := minL_le ns n
    refine ⟨minL_mem ns n, fun z hz => ?_⟩
    rcases List.mem_cons.mp hz with rfl | hz
    · exact h1
    · exact h2 z hz
theorem fMinL_ints {S : List Int} (h : S ≠ []) : fMinL [.lst (S.map D.int)] = some (.int (leastI S)) := by
  show (intsOf (S.map D.int)).bind leastOf = _
  rw [intsOf_map]
  cases S with
  | nil => exact absurd rfl h
  | cons n ns => rfl
/-- the told step: the least step with the part v -/
def stepI (r ss : List Int) (v : Int) : Int := leastI (ss.filter fun z => decide (rowAt r z = v))
theorem stepI_is {r ss : List Int} {v : Int} (h : ∃ x ∈ ss, rowAt r x = v) : IsLeast (ss.filter fun z => decide (rowAt r z = v)) (stepI r ss v) := by
  refine leastI_is fun e => ?_
  obtain ⟨x, hx, ex⟩ := h
  have : x ∈ ss.filter fun z => decide (rowAt r z = v) := List.mem_filter.mpr ⟨hx, decide_eq_true ex⟩
  rw [e] at this
  cases this
theorem stepI_congr {r r' ss tt : List Int} {v v' : Int} (h : ∃ x ∈ ss, rowAt r x = v) (e : ∀ z, (z ∈ ss ∧ rowAt r z = v) ↔ (z ∈ tt ∧ rowAt r' z = v')) : stepI r ss v = stepI r' tt v' := by
  have h' : ∃ x ∈ tt, rowAt r' x = v' := by
    obtain ⟨x, h1, h2⟩ := h
    exact ⟨x, (e x).mp ⟨h1, h2⟩⟩
  refine (stepI_is h).uniq (stepI_is h') fun z => ?_
  simp only [List.mem_filter, decide_eq_true_eq]
  exact e z

section
variable {wb : Wb} {i : Int} {f s : List Int} {mk : Int} (A : CA)
theorem low_eq (V : Valid wb) (h : Here wb i f s mk) (hne : f ≠ []) {rd : D} {r : List Int} (hr : IsRow rd r) (hl : r.length = wb.marks.length) (p : List Int) : D_low_of A [insW A wb, rd, .int i] p = .ok (.int (lowI r f)) p := by
  obtain ⟨v, e, hv⟩ := low_of_ev V A h hne hr hl p
  rw [e, hv.uniq (lowI_is hne)]
theorem high_eq (V : Valid wb) (h : Here wb i f s mk) (hne : s ≠ []) {rd : D} {r : List Int} (hr : IsRow rd r) (hl : r.length = wb.marks.length) (p : List Int) : D_high_of A [insW A wb, rd, .int i] p = .ok (.int (highI r s)) p := by
  obtain ⟨v, e, hv⟩ := high_of_ev V A h hne hr hl p
  rw [e, hv.uniq (highI_is hne)]
theorem Here.ne (V : Valid wb) (h : Here wb i f s mk) (hne : f ≠ []) : s ≠ [] := fun e => by
  have := h.em V
  rw [e] at this
  cases f with
  | nil => exact hne rfl
  | cons => cases this
end
theorem loop_check {α : Type} {i : Nat} {body : MS} (F : Option L → Den.Loc) {p : List Int} (hF : ∀ o d, gset i d (F o) = some (F (some (.dat d)))) (g : α → D) (b : α → Prop) [DecidablePred b] {n : Nat} : ∀ {xs : List α}, (∀ x ∈ xs, body (F (some (.dat (g x)))) p = if b x then .nx (F (some (.dat (g x)))) p else .err n (F (some (.dat (g x)))) p) → ∀ o,
    ((∀ x ∈ xs, b x) ∧ ∃ o', loop (gset i) body (xs.map g) (F o) p = .nx (F o') p) ∨ ((¬ ∀ x ∈ xs, b x) ∧ ∃ l', loop (gset i) body (xs.map g) (F o) p = .err n l' p)
  | [], _, o => .inl ⟨fun _ h => (nomatch h), o, rfl⟩
  | x :: xs, h, o => by
    have hx := h x List.mem_cons_self
    by_cases hb : b x
    · rw [if_pos hb] at hx
      rcases loop_check F hF g b (xs := xs) (fun y hy => h y (List.mem_cons_of_mem _ hy)) (some (.dat (g x))) with ⟨h1, o', e⟩ | ⟨h1, l', e⟩
      · refine .inl ⟨fun y hy => ?_, o', ?_⟩
        · rcases List.mem_cons.mp hy with rfl | hy
          · exact hb
          · exact h1 y hy
        · show loop (gset i) body (g x :: xs.map g) (F o) p = _
          unfold loop
          rw [hF]
          simp only [hx]
          exact e
      · refine .inr ⟨fun h' => h1 fun y hy => h' y (List.mem_cons_of_mem _ hy), l', ?_⟩
        show loop (gset i) body (g x :: xs.map g) (F o) p = _
        unfold loop
        rw [hF]
        simp only [hx]
        exact e
    · rw [if_neg hb] at hx
      refine .inr ⟨fun h' => hb (h' x List.mem_cons_self), F (some (.dat (g x))), ?_⟩
      show loop (gset i) body (g x :: xs.map g) (F o) p = _
      unfold loop
      rw [hF]
      simp only [hx]
end PL
namespace PL
open PySem L2 Den
/-- all parts of the row are in 0 .. m -/
def Parts (r : List Int) (m : Int) : Prop := ∀ v ∈ r, 0 ≤ v ∧ v ≤ m
instance (r : List Int) (m : Int) : Decidable (Parts r m) := by unfold Parts; exact inferInstance
theorem part_range_ev {rd : D} {r : List Int} (hr : IsRow rd r) (n m : Int) (p : List Int) : D_check_part_range [rd, .int n, .int m] p = if (r.length : Int) = n ∧ Parts r m then .ok .non p else .err 1 p := by
  have e2 := check_size_ev (r.map .int) rd hr.sq n p
  rw [List.length_map] at e2
  unfold D_check_part_range
  rw [denF_ev (by rfl)]
  by_cases c1 : (r.length : Int) = n
  · rw [if_pos c1] at e2
    rcases loop_check (i := 3) (body := L_check_part_range_2) (fun o => [dd rd, dd (.int n), dd (.int m), o]) (p := p) (fun _ _ => rfl) D.int (fun v => 0 ≤ v ∧ v ≤ m) (n := 1) (xs := r) (fun v _ => by
      have e3 := check_range_ev v 0 m p
      by_cases c : 0 ≤ v ∧ v ≤ m
      · rw [if_pos c] at e3 ⊢; simp [L_check_part_range_2, mvar, e3]
      · rw [if_neg c] at e3 ⊢; simp [L_check_part_range_2, mvar, e3]) none with ⟨h, o', e⟩ | ⟨h, l', e⟩
    · rw [if_pos ⟨c1, h⟩]
      simp [dn_check_part_range, b_check_part_range_1, b_check_part_range_2, locOf, mvar, e2, hr.sq, e]
    · rw [if_neg fun z => h z.2]
      simp [dn_check_part_range, b_check_part_range_1, b_check_part_range_2, locOf, mvar, e2, hr.sq, e]
  · rw [if_neg c1] at e2
    rw [if_neg fun z => c1 z.1]
    simp [dn_check_part_range, b_check_part_range_1, b_check_part_range_2, locOf, mvar, e2]
section
variable (A : CA) (wb : Wb)
theorem whole_row {rd : D} {r : List Int} (hr : IsRow rd r) (hl : r.length ≤ 1000) (p : List Int) : D_whole_list [rd] p = .ok (.tup (r.map .int)) p :=
  whole_list_ok hr.sq (all_ints r) (by rw [List.length_map]; exact hl) p
/-- a right row and a right state -/
def RowState (wb : Wb) (k : Int) (r : List Int) (i P : Int) : Prop := 0 ≤ k ∧ (r.length : Int) = wb.marks.length ∧ Parts r (k + 1) ∧ (0 ≤ i ∧ i ≤ (wb.marks.length : Int) - 1) ∧ 0 ≤ P ∧ P ≤ k
instance (k : Int) (r : List Int) (i P : Int) : Decidable (RowState wb k r i P) := by unfold RowState; exact inferInstance
end
end PL
namespace PL
open PySem L2 Den
theorem rowAt_lt {wb : Wb} {i : Int} {f s : List Int} {mk : Int} (V : Valid wb) (h : Here wb i f s mk) {r : List Int} (hl : r.length = wb.marks.length) {z : Int} (hz : z ∈ f) : atI (r.map D.int) z = some (.int (rowAt r z)) := by
  have := h.fin V z hz
  exact row_at this.1 (by omega)
theorem rowAt_lt2 {wb : Wb} {i : Int} {f s : List Int} {mk : Int} (V : Valid wb) (h : Here wb i f s mk) {r : List Int} (hl : r.length = wb.marks.length) {z : Int} (hz : z ∈ s) : atI (r.map D.int) z = some (.int (rowAt r z)) := by
  have := h.sin V z hz
  exact row_at this.1 (by omega)
/-- least_with over a sorted set of steps -/
theorem least_with_ev {rd : D} {r : List Int} (hr : IsRow rd r) (ss : List Int) (v : Int) (hin : ∀ z ∈ ss, 0 ≤ z ∧ z < (r.length : Int)) (hl : ss.length ≤ 1000) (hv : ∃ x ∈ ss, rowAt r x = v) (p : List Int) : D_least_with [dS ss, rd, .int v] p = .ok (.int (stepI r ss v)) p := by
  have c1 : c_least_with_1 [dd (dS ss), dd rd, dd (.int v), none] p = .ok (((sortSet ss).filter fun z => decide (rowAt r z = v)).map D.int) p := by
    unfold c_least_with_1
    rw [mcomp_ev (ds := (sortSet ss).map D.int) (p' := p) (by simp [mvar]) (by rw [List.length_map]; have := len_sortSet ss; omega)]
    refine comp_filterL (by simp) D.int _ (fun z hz => ?_) fun z hz => by simp [mvar]
    have := hin z (mem_sortSet.mp hz)
    simp [mvar, hr.ix, row_at this.1 this.2]
  have e1 : stepI r (sortSet ss) v = stepI r ss v := stepI_congr (by obtain ⟨x, h1, h2⟩ := hv; exact ⟨x, mem_sortSet.mpr h1, h2⟩) fun z => by rw [mem_sortSet]
  have e2 : fMinL [.lst (((sortSet ss).filter fun z => decide (rowAt r z = v)).map D.int)] = some (.int (stepI r ss v)) := by
    rw [fMinL_ints, ← e1]
    · rfl
    · intro e
      obtain ⟨x, h1, h2⟩ := hv
      have : x ∈ (sortSet ss).filter fun z => decide (rowAt r z = v) := List.mem_filter.mpr ⟨mem_sortSet.mpr h1, decide_eq_true h2⟩
      rw [e] at this
      cases this
  unfold D_least_with
  rw [denF_ev (by rfl)]
  simp [dn_least_with, locOf, c1, e2]
section
variable {wb : Wb} {i : Int} {f s : List Int} {mk : Int} (A : CA)
end
section
variable (A : CA)
end
section
variable {wb : Wb} {i : Int} {f s : List Int} {mk : Int}
theorem enc0 (wb : Wb) : atI (encW wb) 0 = some (.lst (wb.first.map dI)) := by simp [encW]
theorem enc1 (wb : Wb) : atI (encW wb) 1 = some (.lst (wb.second.map dI)) := by simp [encW]
theorem enc2 (wb : Wb) : atI (encW wb) 2 = some (dI wb.marks) := by simp [encW]
theorem enc3 (wb : Wb) : atI (encW wb) 3 = some (.lst (wb.dues.map dDue)) := by simp [encW]
theorem law_low_ev (V : Valid wb) (h : Here wb i f s mk) (hne : f ≠ []) {r : List Int} (hl : r.length = wb.marks.length) (p : List Int) : D_law_low [.lst (encW wb), dI r, .int i] p = .ok (.int (lowI r f)) p := by
  have hf60 := (V.s1 f (List.mem_of_getElem? h.hf)).1
  obtain ⟨v, e, hv⟩ := minL_low (r := r) hne
  have c1 : c_law_low_1 [dd (.lst (encW wb)), dd (dI r), dd (.int i), none] p = .ok (f.map fun z => .int (rowAt r z)) p := by
    unfold c_law_low_1
    rw [mcomp_ev (ds := f.map D.int) (p' := p) (by simp [mvar, enc0, h.f2]) (by rw [List.length_map]; omega)]
    exact comp_mapL (by simp) D.int (fun z => .int (rowAt r z)) fun z hz => by simp [mvar, rowAt_lt V h hl hz]
  unfold D_law_low
  rw [denF_ev (by rfl)]
  simp [dn_law_low, locOf, c1, e, hv.uniq (lowI_is hne)]
theorem law_high_ev (V : Valid wb) (h : Here wb i f s mk) (hne : s ≠ []) {r : List Int} (hl : r.length = wb.marks.length) (p : List Int) : D_law_high [.lst (encW wb), dI r, .int i] p = .ok (.int (highI r s)) p := by
  have hf60 := (V.s2 s (List.mem_of_getElem? h.hs)).1
  obtain ⟨v, e, hv⟩ := maxL_high (r := r) hne
  have c1 : c_law_high_1 [dd (.lst (encW wb)), dd (dI r), dd (.int i), none] p = .ok (s.map fun z => .int (rowAt r z)) p := by
    unfold c_law_high_1
    rw [mcomp_ev (ds := s.map D.int) (p' := p) (by simp [mvar, enc1, h.s2]) (by rw [List.length_map]; omega)]
    exact comp_mapL (by simp) D.int (fun z => .int (rowAt r z)) fun z hz => by simp [mvar, rowAt_lt2 V h hl hz]
  unfold D_law_high
  rw [denF_ev (by rfl)]
  simp [dn_law_high, locOf, c1, e, hv.uniq (highI_is hne)]
end
end PL
namespace PL
open PySem L2 Den
section
variable (A : CA) {wb : Wb}
end
end PL
namespace PL
open PySem L2 Den
section
variable (A : CA) {wb : Wb} {i : Int} {f s : List Int} {mk : Int}
theorem low_mv (V : Valid wb) (h : Here wb i f s mk) (hne : f ≠ []) {r : List Int} (hl : r.length = wb.marks.length) (c : Int) : lowI (moved c r) f = lowI r f + c := low_moved V h hl c (lowI_is hne) (lowI_is hne)
theorem high_mv (V : Valid wb) (h : Here wb i f s mk) (hne : s ≠ []) {r : List Int} (hl : r.length = wb.marks.length) (c : Int) : highI (moved c r) s = highI r s + c := high_moved V h hl c (highI_is hne) (highI_is hne)
theorem row_bounds (V : Valid wb) (h : Here wb i f s mk) (hne : f ≠ []) {r : List Int} (hl : r.length = wb.marks.length) {m : Int} (hrow : ∀ v ∈ r, 0 ≤ v ∧ v ≤ m) : (0 ≤ lowI r f ∧ lowI r f ≤ m) ∧ 0 ≤ highI r s ∧ highI r s ≤ m := by
  have rat : ∀ z : Int, 0 ≤ z → z < (r.length : Int) → 0 ≤ rowAt r z ∧ rowAt r z ≤ m := fun z z0 z1 => by
    have hz : z.toNat < r.length := by omega
    refine hrow _ ?_
    unfold rowAt
    rw [List.getElem?_eq_getElem hz]
    exact List.getElem_mem hz
  constructor
  · obtain ⟨z, hz, ez⟩ := (lowI_is (r := r) hne).1
    have := h.fin V z hz
    rw [← ez]; exact rat z this.1 (by omega)
  · obtain ⟨z, hz, ez⟩ := (highI_is (r := r) (h.ne V hne)).1
    have := h.sin V z hz
    rw [← ez]; exact rat z this.1 (by omega)
abbrev ST (A : CA) (wb : Wb) (k i c : Int) (r : List Int) (o6 o7 o8 o9 o10 o11 o12 : Option L) : Den.Loc := [dd (.lst (encW wb)), dd (insW A wb), dd (.int k), dd (dI r), dd (.int i), dd (.int c), o6, o7, o8, o9, o10, o11, o12]
end
end PL
namespace PL
open PySem L2 Den
section
variable {wb : Wb} {i : Int} {f s : List Int} {mk : Int} (A : CA)
theorem whole4 (a b c d : Int) (p : List Int) : D_check_whole [.int a, .int b, .int c, .int d] p = .ok .non p := check_whole_ok _ (all_ints [a, b, c, d]) (by simp) p
/-- what outcome asks of its numbers -/
def OutOk (wb : Wb) (i P a b : Int) : Prop := (0 ≤ i ∧ i ≤ (wb.marks.length : Int) - 1) ∧ 0 ≤ P ∧ (0 ≤ a ∧ a ≤ P) ∧ 0 ≤ b
instance (i P a b : Int) : Decidable (OutOk wb i P a b) := by unfold OutOk; exact inferInstance
end
end PL
namespace PL
open PySem L2 Den
def dueI (d : Due) (k : Int) : Int := match d with
  | none => k + 1
  | some (true, x) => min x (k + 1)
  | some (false, x) => max 0 (k + 1 - x)
theorem fMax2_mx (a b : Int) : fMax2 [.int a, .int b] = some (.int (max a b)) := by
  show some (D.int (if b > a then b else a)) = _
  congr 2; omega
theorem fMin2_mn (a b : Int) : fMin2 [.int a, .int b] = some (.int (min a b)) := by
  show some (D.int (if b < a then b else a)) = _
  congr 2; omega
theorem strEq_less : fEq (.str "less") (.str "chips") = some (.bl false) := by rw [fEq_str]; rfl
theorem strEq_chips : fEq (.str "chips") (.str "chips") = some (.bl true) := by rw [fEq_str]; rfl
theorem due_at_ev (d : Due) (k : Int) (p : List Int) : D_due_at [dDue d, .int k] p = .ok (.int (dueI d k)) p := by
  rcases d with _ | ⟨_ | _, x⟩
  · simp [D_due_at, denF, dn_due_at, b_due_at_1, locOf, mvar, dDue, dueI]
  · simp [D_due_at, denF, dn_due_at, b_due_at_1, b_due_at_2, b_due_at_3, locOf, mvar, dDue, dueI, strEq_less, fMax2_mx, -fMax2_int]
  · simp [D_due_at, denF, dn_due_at, b_due_at_1, b_due_at_2, locOf, mvar, dDue, dueI, strEq_chips, fMin2_mn, -fMin2_int]
theorem one_or_two_ok {m : Int} (h : m = 1 ∨ m = 2) (p : List Int) : D_check_one_or_two [.int m] p = .ok .non p := by
  simp [D_check_one_or_two, denF, dn_check_one_or_two, locOf, mvar, mark_in m h]
theorem inV_no {m : Int} (h : ¬ (m = 1 ∨ m = 2)) : fInB true (.int m) (.tup [.int 1, .int 2]) = some (.bl true) := by
  show some (D.bl (!inV (V.int m) [V.int 1, V.int 2])) = _
  have e1 : ¬ m = 1 := fun z => h (.inl z)
  have e2 : ¬ m = 2 := fun z => h (.inr z)
  have e3 : ¬ 1 = m := fun z => e1 z.symm
  have e4 : ¬ 2 = m := fun z => e2 z.symm
  simp [inV, eqV, e3, e4]
theorem one_or_two_no {m : Int} (h : ¬ (m = 1 ∨ m = 2)) (p : List Int) : D_check_one_or_two [.int m] p = .err 1 p := by
  simp [D_check_one_or_two, denF, dn_check_one_or_two, locOf, mvar, inV_no h]
section
variable (A : CA) {wb : Wb}
@[simp] theorem f_dues : fFld A.Web "_dues" (insW A wb) = some (.tup (wb.dues.map dDue)) := by
  unfold insW
  rw [fld_ins]
  refine (lk_ne (by decide +kernel)).trans ?_
  refine (lk_ne (by decide +kernel)).trans ?_
  refine (lk_ne (by decide +kernel)).trans ?_
  refine (lk_ne (by decide +kernel)).trans ?_
  exact lk_eq
/-- the price of a stand -/
def prI (wb : Wb) (k : Int) (r : List Int) (i : Nat) : Int := if (wb.first[i]?.getD []).isEmpty then k + 1 else halfI (wb.marks[i]?.getD 0) (lowI r (wb.first[i]?.getD [])) (highI r (wb.second[i]?.getD []))
/-- the next row -/
def nxI (wb : Wb) (k : Int) (r : List Int) : List Int := (List.range wb.marks.length).map fun i => min (dueI (wb.dues[i]?.getD none) k) (prI wb k r i)
/-- the law's web, built by the later text -/
theorem built9_ev (V : Valid wb) (p : List Int) : D_law_built_k09 A [.lst (encW wb)] p = .ok (insW A wb) p := by
  have n2 := V.n2
  have l1 := V.l1
  have l2 := V.l2
  have c1 : c_law_built_k09_2 [dd (.lst (encW wb)), none] p = .ok (wb.first.map dI) p := by
    unfold c_law_built_k09_2
    rw [mcomp_ev (ds := wb.first.map dI) (p' := p) (by simp [mvar, enc0]) (by rw [List.length_map]; omega)]
    exact comp_mapL (by simp) dI dI fun ss hs => by simp [mvar, dI]
  have c2 : c_law_built_k09_1 [dd (.lst (encW wb)), none] p = .ok (wb.second.map dI) p := by
    unfold c_law_built_k09_1
    rw [mcomp_ev (ds := wb.second.map dI) (p' := p) (by simp [mvar, enc1]) (by rw [List.length_map]; omega)]
    exact comp_mapL (by simp) dI dI fun ss hs => by simp [mvar, dI]
  have hz : encG ⟨(false, wb.first.map fun s => (false, s)), (false, wb.second.map fun s => (false, s)), (false, wb.marks), (false, wb.dues.map fun d => (true, d))⟩ = encW wb := by
    have hd : (wb.dues.map fun d => (true, d)).map sqDue = wb.dues.map dDue := by
      rw [List.map_map]
      refine List.map_congr_left fun d _ => ?_
      rcases d with _ | ⟨_ | _, x⟩ <;> rfl
    have hs : ∀ l : List (List Int), (l.map fun s => (false, s)).map sqI = l.map dI := fun l => by
      rw [List.map_map]
      rfl
    simp only [encG, hd, hs]
    rfl
  have hw : Wg.wb ⟨(false, wb.first.map fun s => (false, s)), (false, wb.second.map fun s => (false, s)), (false, wb.marks), (false, wb.dues.map fun d => (true, d))⟩ = wb := by
    simp [Wg.wb, List.map_map, Function.comp_def]
  have hI := Web_init_ev (g := ⟨(false, wb.first.map fun s => (false, s)), (false, wb.second.map fun s => (false, s)), (false, wb.marks), (false, wb.dues.map fun d => (true, d))⟩) (by rw [hw]; exact V.g) A p
  rw [hz, hw] at hI
  have e4 : [D.lst (wb.first.map dI), .lst (wb.second.map dI), .lst (wb.marks.map .int), .lst (wb.dues.map dDue)] = encW wb := rfl
  simp [D_law_built_k09, denF, dn_law_built_k09, locOf, mmake, c1, c2, mvar, enc2, enc3, e4, hI]
  rfl
end
end PL
namespace PL
open PySem L2 Den
section
variable (A : CA) {wb : Wb} {i : Int} {f s : List Int} {mk : Int}
end
end PL
namespace PL
open PySem L2 Den
section
variable (A : CA) {wb : Wb} {i : Int} {f s : List Int} {mk : Int}
end
end PL
namespace PL
open PySem L2 Den
section
variable {wb : Wb} {i : Int} {f s : List Int} {mk : Int} (A : CA)
end
end PL
namespace PL
open PySem L2 Den
section
variable {wb : Wb} {i : Int} {f s : List Int} {mk : Int} (A : CA)
end
end PL
namespace PL
open PySem L2 Den
section
variable (A : CA) {wb : Wb}
end
end PL
namespace PL
open PySem L2 Den
def RowLe (r r' : List Int) : Prop := ∀ i : Nat, r[i]?.getD 0 ≤ r'[i]?.getD 0
theorem RowLe.at {r r' : List Int} (h : RowLe r r') (x : Int) : rowAt r x ≤ rowAt r' x := h x.toNat
end PL
namespace PL
open PySem L2 Den
theorem rngN {n : Nat} (h : n ≤ 1000) : rng1 [D.int (n : Int)] = some (rngD 0 n) := by
  have := rng1_int (n := (n : Int)) (by omega)
  rwa [Int.toNat_natCast] at this
section
variable (A : CA) {wb : Wb}
end
end PL
namespace PL
open PySem L2 Den
abbrev lI (r : List Int) : D := .lst (r.map .int)
abbrev tI (r : List Int) : D := .tup (r.map .int)
theorem eqvAll_dec : ∀ r s : List Int, PyData.eqvAll (r.map .int) (s.map .int) = decide (r = s)
  | [], [] => by simp [PyData.eqvAll]
  | [], _ :: _ => by simp [PyData.eqvAll]
  | _ :: _, [] => by simp [PyData.eqvAll]
  | n :: r, m :: s => by
    have h := eqvAll_dec r s
    simp only [List.map_cons, PyData.eqvAll, PyData.eqv, h]
    by_cases e : n = m <;> by_cases e2 : r = s <;> simp [e, e2]
theorem eqv_lI (r s : List Int) (neg : Bool) : fEqD neg (lI r) (lI s) = some (.bl (if neg then !decide (r = s) else decide (r = s))) := by
  have e : ∀ r : List Int, pd (lI r) = some (.list (r.map .int)) := fun r => by simp [pd, pdL_ints]
  unfold fEqD
  rw [e, e]
  dsimp only
  rw [if_pos (by simp only [PyData.depth, depth_ints]; omega)]
  simp [PyData.eqv, eqvAll_dec]
theorem eqv_tI (r s : List Int) (neg : Bool) : fEqD neg (tI r) (tI s) = some (.bl (if neg then !decide (r = s) else decide (r = s))) := by
  have e : ∀ r : List Int, pd (tI r) = some (.tuple (r.map .int)) := fun r => by simp [pd, pdL_ints]
  unfold fEqD
  rw [e, e]
  dsimp only
  rw [if_pos (by simp only [PyData.depth, depth_ints]; omega)]
  simp [PyData.eqv, eqvAll_dec]
@[simp] theorem eq_lI (r s : List Int) : fEqD false (lI r) (lI s) = some (.bl (decide (r = s))) := by rw [eqv_lI]; rfl
@[simp] theorem ne_lI (r s : List Int) : fEqD true (lI r) (lI s) = some (.bl (!decide (r = s))) := by rw [eqv_lI]; rfl
@[simp] theorem eq_tI (r s : List Int) : fEqD false (tI r) (tI s) = some (.bl (decide (r = s))) := by rw [eqv_tI]; rfl
@[simp] theorem ne_tI (r s : List Int) : fEqD true (tI r) (tI s) = some (.bl (!decide (r = s))) := by rw [eqv_tI]; rfl
theorem atI_row {r : List Int} {i : Nat} (h : i < r.length) : atI (r.map D.int) (i : Int) = some (.int (r[i]?.getD 0)) := atI_nat (by rw [List.getElem?_map, List.getElem?_eq_getElem h]; rfl)
theorem sappend_ev {i : Nat} {a : M D} {l : Den.Loc} {p : List Int} {ds : List D} (h : l[i]? = some (some (.cell ds))) (hl : ds.length < 1000) : sappend i a l p = (a l p).toO l fun x p' => .nx (l.set i (some (.cell (ds ++ [x])))) p' := by
  unfold sappend
  rw [h]
  dsimp only
  rw [if_pos hl, sbind_ev]
end PL
namespace PL
open PySem L2 Den
def insV (A : CA) (ns : List Int) : D := .ins A.Verdict ["_faults"] [tI ns]
section
variable (A : CA)
@[simp] theorem f_faults (ns : List Int) : fFld A.Verdict "_faults" (insV A ns) = some (tI ns) := by
  unfold insV
  rw [fld_ins]
  exact lk_eq
@[simp] theorem it_faults (ns : List Int) : itOwn A.Verdict "_faults" (insV A ns) = some (ns.map .int) := by
  have e : ([(("_faults" : Str), tI ns)] : List (Str × D)).lookup ("_faults" : Str) = some (tI ns) := lk_eq
  show (if A.Verdict = A.Verdict then (([(("_faults" : Str), tI ns)] : List (Str × D)).lookup ("_faults" : Str)).bind tupOf else none) = _
  rw [if_pos rfl, e]
  rfl
@[simp] theorem isV (ns : List Int) : fIsC A.Verdict [insV A ns, .cls A.Verdict] = some (.bl true) := by
  show (if A.Verdict = A.Verdict then (if A.Verdict = A.Verdict then some (D.bl true) else none) else none) = _
  rw [if_pos rfl, if_pos rfl]
end
end PL
namespace PL
open PySem L2 Den
def duesI (wb : Wb) (k : Int) : List Int := wb.dues.map fun d => dueI d k
def Lower (wb : Wb) (k : Int) (r : List Int) : Prop := r.length = wb.marks.length ∧ RowLe r (nxI wb k r)
theorem RowLe.refl (r : List Int) : RowLe r r := fun _ => Int.le_refl _
theorem RowLe.trans {r s t : List Int} (a : RowLe r s) (b : RowLe s t) : RowLe r t := fun i => Int.le_trans (a i) (b i)
/-- the stands at which a row is above its next row -/
def overI (wb : Wb) (k : Int) (r : List Int) : List Int := ((List.range r.length).filter fun i => decide ((nxI wb k r)[i]?.getD 0 < r[i]?.getD 0)).map fun i : Nat => (i : Int)
end PL
namespace PL
open PySem L2 Den
section
variable (A : CA) {wb : Wb}
def GoodRow (wb : Wb) (k : Int) (r : List Int) : Prop := ((r.length : Int) = wb.marks.length ∧ Parts r (k + 1)) ∧ overI wb k r = []
instance (wb : Wb) (k : Int) (r : List Int) : Decidable (GoodRow wb k r) := by unfold GoodRow; exact inferInstance
end
end PL
namespace PL
open PySem L2 Den
structure Falls (wb : Wb) (k : Int) (r : List Int) : Prop where
  len : r.length = wb.marks.length
  parts : Parts r (k + 1)
  le : RowLe (nxI wb k r) r
def upI (r : List Int) (b : Nat → Bool) : List Int := (List.range r.length).map fun i => r[i]?.getD 0 + if b i then 1 else 0
section
variable (wb : Wb) (k : Int) (r : List Int)
def outB (lf : Nat → Bool) (i : Nat) : Bool := lf i && decide (prI wb k (upI r lf) i ≤ r[i]?.getD 0)
def lfB : Nat → Nat → Bool
  | 0 => fun i => decide (r[i]?.getD 0 < dueI (wb.dues[i]?.getD none) k)
  | j + 1 => fun i => lfB j i && !outB wb k r (lfB j) i
def rkB : Nat → Nat → Int
  | 0 => fun _ => 0
  | j + 1 => fun i => if outB wb k r (lfB wb k r j) i then (j : Int) + 1 else rkB j i
end
section
variable {wb : Wb} {k : Int} {r : List Int}
def ranksI (wb : Wb) (k : Int) (r : List Int) : List Int := (List.range r.length).map fun i => rkB wb k r r.length i
end
end PL
namespace PL
open PySem L2 Den
section
variable (A : CA) {wb : Wb}
end
end PL
namespace PL
open PySem L2 Den
section
variable (A : CA) {wb : Wb}
end
end PL
namespace PL
open PySem L2 Den
end PL
namespace PL
open PySem L2 Den
section
variable (A : CA) {wb : Wb}
end
end PL
namespace PL
open PySem L2 Den
/-- the stands below n for which b holds -/
def setI (n : Nat) (b : Nat → Bool) : List Int := ((List.range n).filter b).map fun i : Nat => (i : Int)
theorem setI_congr {n : Nat} {b c : Nat → Bool} (h : ∀ i < n, b i = c i) : setI n b = setI n c := by
  unfold setI
  congr 1
  exact List.filter_congr fun i hi => h i (List.mem_range.mp hi)
section
variable {wb : Wb}
end
end PL
namespace PL
open PySem L2 Den
abbrev OI := Option Int
def dO : OI → D
  | none => .non
  | some i => .int i
@[simp] theorem isNon_dO (x : OI) : isNon (dO x) = x.isNone := by cases x <;> rfl
end PL
namespace PL
open PySem L2 Den
section
variable {wb : Wb} {i : Int} {f s : List Int} {mk : Int}
structure HsOk (wb : Wb) (hs : List (List OI)) (b : Nat) : Prop where
  len : hs.length = wb.marks.length
  each : ∀ h ∈ hs, h ≠ [] ∧ h.length ≤ b
end
end PL
namespace PL
open PySem L2 Den
theorem cut_last (ds : List D) : cutD ds none (some (-1)) = ds.take (ds.length - 1) := by
  have h0 : HT.sIx ds.length 0 none = 0 := rfl
  have h1 : HT.sIx ds.length ds.length (some (-1)) = ds.length - 1 := by
    unfold HT.sIx
    simp
    try omega
  unfold cutD
  rw [h0, h1]
  simp
section
variable (A : CA) {wb : Wb}
end
end PL
namespace PL
open PySem L2 Den
section
variable (wb : Wb)
/-- whether the stand may stay in z -/
def keepB (z : Nat → Bool) (i : Nat) : Bool := ((wb.first[i]?.getD []).all fun x => z x.toNat) && ((wb.first[i]?.getD []).isEmpty || decide (wb.marks[i]?.getD 0 = 1) || (wb.second[i]?.getD []).any fun x => z x.toNat)
def noDue (i : Nat) : Bool := (wb.dues[i]?.getD none).isNone
structure Stays (z : Nat → Bool) : Prop where
  sub : ∀ i < wb.marks.length, z i = true → noDue wb i = true
  keep : ∀ i < wb.marks.length, z i = true → keepB wb z i = true
end
section
variable {wb : Wb}
/-- one set is the greatest -/
structure Greatest (wb : Wb) (z : Nat → Bool) : Prop where
  stays : Stays wb z
  most : ∀ y, Stays wb y → ∀ i < wb.marks.length, y i = true → z i = true
theorem Greatest.uniq {z y : Nat → Bool} (a : Greatest wb z) (b : Greatest wb y) : setI wb.marks.length z = setI wb.marks.length y := setI_congr fun i hi => by
  cases e : z i with
  | true => exact (b.most z a.stays i hi e).symm
  | false =>
    cases e2 : y i with
    | false => rfl
    | true => have := a.most y b.stays i hi e2; rw [e] at this; cases this
end
section
variable (A : CA) {wb : Wb}
end
end PL
namespace PL
open PySem L2 Den
section
variable {wb : Wb}
end
end PL
namespace PL
open PySem L2 Den
section
variable {wb : Wb}
end
end PL
namespace PL
open PySem L2 Den
section
variable {wb : Wb}
end
section
variable (A : CA) {wb : Wb}
end
end PL
namespace PL
open PySem L2 Den
@[simp] theorem f_gd (A : CA) (wb : Wb) : fFld A.Web "_greatest_due" (insW A wb) = some (gdD wb) := by
  unfold insW
  rw [fld_ins]
  refine (lk_ne (by decide +kernel)).trans ?_
  refine (lk_ne (by decide +kernel)).trans ?_
  refine (lk_ne (by decide +kernel)).trans ?_
  refine (lk_ne (by decide +kernel)).trans ?_
  refine (lk_ne (by decide +kernel)).trans ?_
  refine (lk_ne (by decide +kernel)).trans ?_
  refine (lk_ne (by decide +kernel)).trans ?_
  exact lk_eq
end PL
namespace PL
open PySem L2 Den
section
variable {wb : Wb}
end
end PL
namespace PL
open PySem L2 Den
end PL
namespace PL
open PySem L2 Den
theorem rng_nat (n : Nat) : rngD 0 n = (List.range n).map fun j : Nat => D.int (j : Int) := by simp [rngD]
section
variable {mk k P x y : Int} {n : Nat} {w : Str}
end
end PL
namespace PL
open PySem L2 Den
section
variable (A : CA) {wb : Wb}
end
end PL
namespace PL
open PySem L2 Den
section
variable {wb : Wb}
end
end PL
namespace PL
open PySem L2 Den
section
variable {row sl f s : List Int}
end
section
variable {wb : Wb} {k m : Int} {row sl rk : List Int}
end
end PL
namespace PL
open PySem L2 Den
section
variable (A : CA) {wb : Wb}
end
end PL
namespace PL
open PySem L2 Den
section
variable (A : CA) {wb : Wb}
end
end PL
namespace PL
open PySem L2 Den
section
variable {wb : Wb}
end
end PL
namespace PL
open PySem L2 Den
section
variable {wb : Wb}
structure Case where
  k : Int
  row : List Int
  rk : List Int
  m : Int
  sl : List Int
  sp : Option Int
structure GoodC (wb : Wb) (c : Case) : Prop where
  k0 : 0 ≤ c.k
  k1 : c.k ≤ 100
  m0 : 1 ≤ c.m
  m1 : c.m ≤ 20
  l1 : c.row.length = wb.marks.length
  l2 : c.rk.length = wb.marks.length
  l3 : c.sl.length = wb.marks.length
  p1 : ∀ x ∈ c.row, 0 ≤ x
  p2 : ∀ x ∈ c.rk, 0 ≤ x
  p3 : ∀ x ∈ c.sl, 0 ≤ x
  own : ∀ s, c.sp = some s → s = 0 ∨ s > 3 → Lower wb c.k c.row ∧ c.rk = ranksI wb c.k c.row ∧ ∀ i < c.row.length, lfB wb c.k c.row c.row.length i = false
end
end PL
namespace PL
open PySem L2 Den
section
variable {wb : Wb}
end
end PL
namespace PL
open PySem L2 Den
section
variable (A : CA) {wb : Wb}
end
def rowT (wb : Wb) (k : Int) : Nat → List Int
  | 0 => duesI wb k
  | t + 1 => nxI wb k (rowT wb k t)
structure Rest (wb : Wb) (k : Int) (T : Nat) : Prop where
  eq : rowT wb k (T + 1) = rowT wb k T
  ne : ∀ t < T, rowT wb k (t + 1) ≠ rowT wb k t
  lt : T < wb.marks.length * (k.toNat + 2) + 2
section
variable {wb : Wb} {k : Int}
theorem Rest.after {T : Nat} (R : Rest wb k T) : ∀ d, rowT wb k (T + d) = rowT wb k T
  | 0 => rfl
  | d + 1 => by
    show nxI wb k (rowT wb k (T + d)) = _
    rw [R.after d]
    exact R.eq
end
end PL
namespace PL
open PySem L2 Den
def goes : Option Int → Nat → Bool
  | none, _ => true
  | some m, t => decide ((t : Int) < m)
section
variable (A : CA) {wb : Wb}
end
end PL
namespace PL
open PySem L2 Den
section
variable (A : CA) {wb : Wb}
end
end PL
namespace PL
open PySem L2 Den
section
variable (A : CA) {wb : Wb}
end
end PL
namespace PL
open PySem L2 Den
section
variable (A : CA) {wb : Wb}
end
end PL
namespace PL
open PySem L2 Den
section
variable (A : CA)
end
end PL
namespace PL
open PySem L2 Den
def thI (x y : Int) : Int := (x + y + x % 2) / 2
def sz1 (y h : Int) : Int := if h % 2 = 0 then max 0 (y - h - 1) + max 0 (y - h - 1) % 2 else if y ≤ h then 0 else y - h - 1 + (y - h) % 2
def sz2 (x h : Int) : Int := if h % 2 = 1 then max 0 (h - x) + max 0 (h - x) % 2 else if h < x then 0 else h - x + 1 - (h - x) % 2
def GdT (x y h p : Int) (pt : Bool) (q : Int) (qt : Bool) : Prop := if q < p then x ≤ h - 2 * p else if p < q then y ≤ h + 2 * q else if h % 2 = 1 then (if pt = true then x ≤ h - 2 * p - 1 else y ≤ h + 2 * q) else (if qt = true then y ≤ h + 2 * q + 1 else x ≤ h - 2 * p)
instance (x y h p : Int) (pt : Bool) (q : Int) (qt : Bool) : Decidable (GdT x y h p pt q qt) := by unfold GdT; exact inferInstance
/-- the bids of a hand: 1 holds the token at an odd h -/
def BidT (k h side : Int) (b : Int) (t : Bool) : Prop := 0 ≤ b ∧ b ≤ (if side = 1 then h / 2 else k - h / 2) ∧ (t = true → h % 2 = 2 - side)
def ownT (b : Int) (t : Bool) : Int := 2 * b + if t = true then 1 else 0
section
variable {x y k h b : Int} {t : Bool}
theorem serve1 (x0 : 0 ≤ x) (xy : x ≤ y) (yk : y ≤ 2 * k + 2) (h0 : 0 ≤ h) (hk : h ≤ 2 * k + 1) (B : BidT k h 1 b t) :
    ((∀ q qt, BidT k h 2 q qt → GdT x y h b t q qt) → thI x y ≤ h ∧ sz1 y h ≤ ownT b t) ∧ (thI x y ≤ h → ownT b t = sz1 y h → ∀ q qt, BidT k h 2 q qt → GdT x y h b t q qt) := by
  obtain ⟨b0, b1, bt⟩ := B
  rw [if_pos rfl] at b1
  unfold thI
  refine ⟨fun H => ?_, fun hp ho q qt Bq => ?_⟩
  · have a0 := H 0 false ⟨by omega, by rw [if_neg (by decide)]; omega, fun z => nomatch z⟩
    have a1 : b ≤ k - h / 2 → GdT x y h b t b false := fun z => H b false ⟨b0, by rw [if_neg (by decide)]; exact z, fun z => nomatch z⟩
    have a2 : b ≤ k - h / 2 → h % 2 = 0 → GdT x y h b t b true := fun z e => H b true ⟨b0, by rw [if_neg (by decide)]; exact z, fun _ => by omega⟩
    have a3 : b + 1 ≤ k - h / 2 → GdT x y h b t (b + 1) false := fun z => H (b + 1) false ⟨by omega, by rw [if_neg (by decide)]; exact z, fun z => nomatch z⟩
    unfold GdT at a0 a1 a2 a3
    have n1 : ¬ b < b := by omega
    have n2 : ¬ b + 1 < b := by omega
    have n3 : b < b + 1 := by omega
    simp only [n1, n2, n3, if_false, if_true] at a1 a2 a3
    unfold sz1 ownT
    cases t with
    | true =>
      have ho := bt rfl
      have e : h % 2 = 1 := by omega
      clear a2
      simp only [e, if_true, show ¬ (1 : Int) = 0 by decide, if_false] at a0 a1 a3 ⊢
      split at a0 <;> split <;> omega
    | false =>
      rcases Int.emod_two_eq h with e | e
      · replace a2 := fun z => a2 z e
        simp only [e, if_true, show ¬ (0 : Int) = 1 by decide, if_false, Bool.false_eq_true] at a0 a1 a2 a3 ⊢
        split at a0
        · omega
        · split at a0 <;> omega
      · clear a2
        simp only [e, if_true, show ¬ (1 : Int) = 0 by decide, if_false, Bool.false_eq_true] at a0 a1 a3 ⊢
        split at a0
        · split <;> omega
        · split at a0 <;> split <;> omega
  · obtain ⟨q0, q1, qq⟩ := Bq
    rw [if_neg (by decide)] at q1
    unfold sz1 ownT at ho
    unfold GdT
    cases t with
    | true =>
      have e := bt rfl
      have e : h % 2 = 1 := by omega
      simp only [e, if_true, show ¬ (1 : Int) = 0 by decide, if_false] at ho ⊢
      split at ho <;> split <;> (try split) <;> omega
    | false =>
      rcases Int.emod_two_eq h with e | e
      · simp only [e, if_true, show ¬ (0 : Int) = 1 by decide, if_false, Bool.false_eq_true] at ho ⊢
        split
        · omega
        · split
          · omega
          · split <;> omega
      · have : qt = false := by
          cases qt with
          | false => rfl
          | true => have := qq rfl; omega
        subst this
        simp only [e, if_true, show ¬ (1 : Int) = 0 by decide, if_false, Bool.false_eq_true] at ho ⊢
        split at ho <;> split <;> (try split) <;> omega
theorem serve2 (x0 : 0 ≤ x) (xy : x ≤ y) (yk : y ≤ 2 * k + 2) (h0 : 0 ≤ h) (hk : h ≤ 2 * k + 1) (B : BidT k h 2 b t) :
    ((∀ p pt, BidT k h 1 p pt → ¬ GdT x y h p pt b t) → h < thI x y ∧ sz2 x h ≤ ownT b t) ∧ (h < thI x y → ownT b t = sz2 x h → ∀ p pt, BidT k h 1 p pt → ¬ GdT x y h p pt b t) := by
  obtain ⟨b0, b1, bt⟩ := B
  rw [if_neg (by decide)] at b1
  unfold thI
  refine ⟨fun H => ?_, fun hp ho p pt Bp => ?_⟩
  · have a0 := H 0 false ⟨by omega, by rw [if_pos rfl]; omega, fun z => nomatch z⟩
    have a1 : b ≤ h / 2 → ¬ GdT x y h b false b t := fun z => H b false ⟨b0, by rw [if_pos rfl]; exact z, fun z => nomatch z⟩
    have a2 : b ≤ h / 2 → h % 2 = 1 → ¬ GdT x y h b true b t := fun z e => H b true ⟨b0, by rw [if_pos rfl]; exact z, fun _ => by omega⟩
    have a3 : b + 1 ≤ h / 2 → ¬ GdT x y h (b + 1) false b t := fun z => H (b + 1) false ⟨by omega, by rw [if_pos rfl]; exact z, fun z => nomatch z⟩
    unfold GdT at a0 a1 a2 a3
    have n1 : ¬ b < b := by omega
    have n3 : b < b + 1 := by omega
    simp only [n1, n3, if_false, if_true] at a1 a2 a3
    unfold sz2 ownT
    cases t with
    | true =>
      have ho := bt rfl
      have e : h % 2 = 0 := by omega
      clear a2
      simp only [e, if_true, show ¬ (0 : Int) = 1 by decide, if_false] at a0 a1 a3 ⊢
      split at a0
      · split <;> omega
      · split at a0 <;> split <;> omega
    | false =>
      rcases Int.emod_two_eq h with e | e
      · clear a2
        simp only [e, if_true, show ¬ (0 : Int) = 1 by decide, if_false, Bool.false_eq_true] at a0 a1 a3 ⊢
        split at a0
        · split <;> omega
        · split at a0 <;> split <;> omega
      · replace a2 := fun z => a2 z e
        simp only [e, if_true, show ¬ (1 : Int) = 0 by decide, if_false, Bool.false_eq_true] at a0 a1 a2 a3 ⊢
        split at a0
        · omega
        · split at a0 <;> omega
  · obtain ⟨p0, p1, pp⟩ := Bp
    rw [if_pos rfl] at p1
    unfold sz2 ownT at ho
    unfold GdT
    cases t with
    | true =>
      have e := bt rfl
      have e : h % 2 = 0 := by omega
      simp only [e, if_true, show ¬ (0 : Int) = 1 by decide, if_false] at ho ⊢
      split at ho <;> split <;> (try split) <;> omega
    | false =>
      rcases Int.emod_two_eq h with e | e
      · simp only [e, if_true, show ¬ (0 : Int) = 1 by decide, if_false, Bool.false_eq_true] at ho ⊢
        split at ho <;> split <;> (try split) <;> omega
      · simp only [e, if_true, show ¬ (1 : Int) = 0 by decide, if_false, Bool.false_eq_true] at ho ⊢
        split
        · omega
        · split
          · omega
          · split <;> omega
theorem size1_fits (xy : x ≤ y) (x0 : 0 ≤ x) (yk : y ≤ 2 * k + 2) (h0 : 0 ≤ h) (hp : thI x y ≤ h) : sz1 y h / 2 ≤ h / 2 := by
  unfold thI at hp
  unfold sz1
  split
  · omega
  · split <;> omega
theorem size2_fits (xy : x ≤ y) (x0 : 0 ≤ x) (yk : y ≤ 2 * k + 2) (h0 : 0 ≤ h) (hp : h < thI x y) : sz2 x h / 2 ≤ k - h / 2 := by
  unfold thI at hp
  unfold sz2
  split
  · omega
  · split <;> omega
end
end PL
namespace PL
open PySem L2 Den
theorem mod2 (z : Int) : fMod (.int z) (.int 2) = some (.int (z % 2)) := fMod_int (by decide)
theorem div2 (z : Int) : fDiv (.int z) (.int 2) = some (.int (z / 2)) := fDiv_int (by decide)
theorem mul2 (z : Int) : fMul (.int 2) (.int z) = some (.int (2 * z)) := fMul_int (.inl (by decide))
theorem half_of_t (x y : Int) (p : List Int) : D_token_half_of [.int x, .int y] p = .ok (.int (thI x y)) p := by
  simp [D_token_half_of, denF, dn_token_half_of, locOf, mvar, mod2, div2, thI]
theorem token_half_ev (x y : Int) (p : List Int) : D_token_half [.int x, .int y] p = .ok (.int (thI x y)) p := by
  simp [D_token_half, denF, dn_token_half, b_token_half_1, b_token_half_2, locOf, mvar, whole2, half_of_t]
theorem half_chips_ev (x y : Int) (p : List Int) : D_law_half_chips [.int x, .int y] p = .ok (.int (thI x y)) p := by
  simp [D_law_half_chips, denF, dn_law_half_chips, locOf, mvar, mod2, div2, thI]
theorem first_size_ev (y h : Int) (p : List Int) : D_first_size [.int y, .int h] p = .ok (.int (sz1 y h)) p := by
  unfold sz1
  by_cases e : h % 2 = 0
  · simp [D_first_size, denF, dn_first_size, b_first_size_1, b_first_size_1t1, b_first_size_1t2, locOf, mvar, mod2, e, fMax2_mx, -fMax2_int]
  · by_cases c : y ≤ h
    · simp [D_first_size, denF, dn_first_size, b_first_size_1, b_first_size_2, locOf, mvar, mod2, e, c]
    · simp [D_first_size, denF, dn_first_size, b_first_size_1, b_first_size_2, b_first_size_4, locOf, mvar, mod2, e, c]
theorem second_size_ev (x h : Int) (p : List Int) : D_second_size [.int x, .int h] p = .ok (.int (sz2 x h)) p := by
  unfold sz2
  by_cases e : h % 2 = 1
  · simp [D_second_size, denF, dn_second_size, b_second_size_1, b_second_size_1t1, b_second_size_1t2, locOf, mvar, mod2, e, fMax2_mx, -fMax2_int]
  · by_cases c : h < x
    · simp [D_second_size, denF, dn_second_size, b_second_size_1, b_second_size_2, locOf, mvar, mod2, e, c]
    · simp [D_second_size, denF, dn_second_size, b_second_size_1, b_second_size_2, b_second_size_4, locOf, mvar, mod2, e, c]
theorem law_size1_ev (x y h : Int) (p : List Int) : D_law_size [.int x, .int y, .int h, .int 1] p = .ok (.int (sz1 y h)) p := by
  unfold sz1
  by_cases e : h % 2 = 0
  · simp [D_law_size, denF, dn_law_size, b_law_size_1, b_law_size_1t1, b_law_size_1t2, locOf, mvar, mod2, e, fMax2_mx, -fMax2_int]
  · by_cases c : y ≤ h
    · have c' : y - h ≤ 0 := by omega
      simp [D_law_size, denF, dn_law_size, b_law_size_1, b_law_size_2, b_law_size_2t2, locOf, mvar, mod2, e, c, c']
    · have c' : ¬ y - h ≤ 0 := by omega
      simp [D_law_size, denF, dn_law_size, b_law_size_1, b_law_size_2, b_law_size_2t2, b_law_size_2t3, locOf, mvar, mod2, e, c, c']
theorem law_size2_ev (x y h : Int) (p : List Int) : D_law_size [.int x, .int y, .int h, .int 2] p = .ok (.int (sz2 x h)) p := by
  unfold sz2
  by_cases e : h % 2 = 1
  · simp [D_law_size, denF, dn_law_size, b_law_size_1, b_law_size_2, b_law_size_4, locOf, mvar, mod2, e, fMax2_mx, -fMax2_int]
  · by_cases c : h < x
    · have c' : h - x < 0 := by omega
      simp [D_law_size, denF, dn_law_size, b_law_size_1, b_law_size_2, b_law_size_4, b_law_size_5, locOf, mvar, mod2, e, c, c']
    · have c' : ¬ h - x < 0 := by omega
      simp [D_law_size, denF, dn_law_size, b_law_size_1, b_law_size_2, b_law_size_4, b_law_size_5, b_law_size_6, locOf, mvar, mod2, e, c, c']
/-- who gets the move, and what is had behind it -/
def bgtT (h p : Int) (pt : Bool) (q : Int) (qt : Bool) : List Int := if q < p then [1, h - 2 * p] else if p < q then [2, h + 2 * q] else if h % 2 = 1 then (if pt = true then [1, h - 2 * p - 1] else [2, h + 2 * q]) else (if qt = true then [2, h + 2 * q + 1] else [1, h - 2 * p])
theorem token_bought_ev (h p : Int) (pt : Bool) (q : Int) (qt : Bool) (s : List Int) : D_token_bought [.int h, .int p, .bl pt, .int q, .bl qt] s = .ok (.tup ((bgtT h p pt q qt).map .int)) s := by
  unfold D_token_bought bgtT
  rw [denF_ev (by rfl)]
  by_cases c1 : q < p
  · simp [dn_token_bought, b_token_bought_1, locOf, mvar, c1, mul2]
  · by_cases c2 : p < q
    · simp [dn_token_bought, b_token_bought_1, b_token_bought_2, locOf, mvar, c1, c2, mul2]
    · by_cases c3 : h % 2 = 1
      · cases pt <;> simp [dn_token_bought, b_token_bought_1, b_token_bought_2, b_token_bought_3, locOf, mvar, c1, c2, c3, mod2, mul2]
      · cases qt <;> simp [dn_token_bought, b_token_bought_1, b_token_bought_2, b_token_bought_3, b_token_bought_4, locOf, mvar, c1, c2, c3, mod2, mul2]
theorem law_after_ev (h p : Int) (pt : Bool) (q : Int) (qt : Bool) (s : List Int) : D_law_after [.int h, .int p, .bl pt, .int q, .bl qt] s = .ok (dI (bgtT h p pt q qt)) s := by
  unfold D_law_after bgtT
  rw [denF_ev (by rfl)]
  by_cases c1 : q < p
  · simp [dn_law_after, b_law_after_1, locOf, mvar, c1, mul2, dI]
  · by_cases c2 : p < q
    · simp [dn_law_after, b_law_after_1, b_law_after_2, locOf, mvar, c1, c2, mul2, dI]
    · by_cases c3 : h % 2 = 1
      · cases pt <;> simp [dn_law_after, b_law_after_1, b_law_after_2, b_law_after_3, b_law_after_3t1, b_law_after_3t2, locOf, mvar, c1, c2, c3, mod2, mul2, dI]
      · cases qt <;> simp [dn_law_after, b_law_after_1, b_law_after_2, b_law_after_3, b_law_after_4, b_law_after_5, locOf, mvar, c1, c2, c3, mod2, mul2, dI]
theorem bgt_good (x y h p : Int) (pt : Bool) (q : Int) (qt : Bool) : ∃ hd af : Int, bgtT h p pt q qt = [hd, af] ∧ (hd = 1 ∨ hd = 2) ∧ ((if hd = 1 then x else y) ≤ af ↔ GdT x y h p pt q qt) := by
  unfold bgtT GdT
  by_cases c1 : q < p
  · exact ⟨1, _, if_pos c1, .inl rfl, by simp [c1]⟩
  · by_cases c2 : p < q
    · exact ⟨2, _, by rw [if_neg c1, if_pos c2], .inr rfl, by simp [c1, c2]⟩
    · by_cases c3 : h % 2 = 1
      · cases pt
        · exact ⟨2, _, by rw [if_neg c1, if_neg c2, if_pos c3]; rfl, .inr rfl, by simp [c1, c2, c3]⟩
        · exact ⟨1, _, by rw [if_neg c1, if_neg c2, if_pos c3]; rfl, .inl rfl, by simp [c1, c2, c3]⟩
      · cases qt
        · exact ⟨1, _, by rw [if_neg c1, if_neg c2, if_neg c3]; rfl, .inl rfl, by simp [c1, c2, c3]⟩
        · exact ⟨2, _, by rw [if_neg c1, if_neg c2, if_neg c3]; rfl, .inr rfl, by simp [c1, c2, c3]⟩
def encB (b : Int × Bool) : D := .tup [.int b.1, .bl b.2]
theorem comp22_const {α β : Type} {i j : Nat} {it : M (List D)} {e : M D} {l : Den.Loc} {p : List Int} (hi : i < l.length) (hj : j < l.length) (g : α → D) (g2 : β → D) (ys : List β) (hy : ys.length ≤ 1000) (f : α → β → D) : ∀ {xs : List α},
    (∀ x ∈ xs, it ((l.set j none).set i (some (.dat (g x)))) p = .ok (ys.map g2) p) → (∀ x ∈ xs, ∀ y ∈ ys, e (((l.set j none).set i (some (.dat (g x)))).set j (some (.dat (g2 y)))) p = .ok (f x y) p) →
    comp22 i j it e (xs.map g) l p = .ok (xs.flatMap fun x => ys.map fun y => f x y) p
  | [], _, _ => rfl
  | x :: xs, h1, h2 => by
    have ih := comp22_const hi hj g g2 ys hy f (xs := xs) (fun z hz => h1 z (List.mem_cons_of_mem _ hz)) fun z hz => h2 z (List.mem_cons_of_mem _ hz)
    show comp22 i j it e (g x :: xs.map g) l p = _
    unfold comp22
    rw [if_pos ⟨hi, hj⟩, h1 x List.mem_cons_self]
    dsimp only
    rw [if_pos (by rw [List.length_map]; exact hy), comp_mapL (by rw [List.length_set, List.length_set]; exact hj) g2 (fun y => f x y) (h2 x List.mem_cons_self)]
    unfold then2
    dsimp only
    rw [ih]
    rfl
def chipsT (k h side : Int) : Int := if side = 1 then h / 2 else k - h / 2
theorem bids_of_ev {k h side : Int} (hs : side = 1 ∨ side = 2) (k9 : k ≤ 800) (c0 : 0 ≤ chipsT k h side) (c9 : chipsT k h side ≤ 800) (p : List Int) : ∃ L : List (Int × Bool), D_bids_of [.int k, .int h, .int side] p = .ok (.lst (L.map encB)) p ∧ ∀ b t, (b, t) ∈ L ↔ BidT k h side b t := by
  let ts : List Bool := if h % 2 = 2 - side then [false, true] else [false]
  have tl : ts.length ≤ 1000 := by dsimp only [ts]; split <;> simp
  refine ⟨(List.range (chipsT k h side + 1).toNat).flatMap fun b : Nat => ts.map fun t => ((b : Int), t), ?_, fun b t => ?_⟩
  · have hr := rng1_int (n := chipsT k h side + 1) (by omega)
    rw [rng_nat] at hr
    have T1 : b_bids_of_1 [dd (.int k), dd (.int h), dd (.int side), none, none, none, none] p = .nx [dd (.int k), dd (.int h), dd (.int side), dd (.int (chipsT k h side)), none, none, none] p := by
      unfold chipsT
      rcases hs with rfl | rfl <;> simp [b_bids_of_1, mvar, div2]
    have T2 : b_bids_of_2 [dd (.int k), dd (.int h), dd (.int side), dd (.int (chipsT k h side)), none, none, none] p = .nx [dd (.int k), dd (.int h), dd (.int side), dd (.int (chipsT k h side)), dd (.tup (ts.map .bl)), none, none] p := by
      by_cases c : h % 2 = 2 - side
      · have et : ts = [false, true] := if_pos c
        rw [et]
        simp [b_bids_of_2, mvar, mod2, c]
      · have et : ts = [false] := if_neg c
        rw [et]
        simp [b_bids_of_2, mvar, mod2, c]
    have C : c_bids_of_1 [dd (.int k), dd (.int h), dd (.int side), dd (.int (chipsT k h side)), dd (.tup (ts.map .bl)), none, none] p = .ok (((List.range (chipsT k h side + 1).toNat).flatMap fun b : Nat => ts.map fun t => ((b : Int), t)).map encB) p := by
      have e := comp22_const (i := 5) (j := 6) (it := mbind (mvar 4) fun x => mlift (tupOf x)) (e := mtupd (acons (mvar 5) (acons (mvar 6) anil))) (l := [dd (.int k), dd (.int h), dd (.int side), dd (.int (chipsT k h side)), dd (.tup (ts.map .bl)), none, none]) (p := p) (by simp) (by simp) (fun j : Nat => D.int (j : Int)) D.bl ts tl (fun b t => encB ((b : Int), t)) (xs := List.range (chipsT k h side + 1).toNat) (fun x _ => by simp [mvar]) (fun x _ y _ => by simp [mvar, encB])
      unfold c_bids_of_1 mcomp22
      rw [mbind_ok (x := (List.range (chipsT k h side + 1).toNat).map fun j : Nat => D.int (j : Int)) (q := p) (by simp [mvar, hr]), if_pos (by simp; omega), e, List.map_flatMap]
      simp [List.map_map, Function.comp_def]
    unfold D_bids_of
    rw [denF_ev (by rfl)]
    show outR (dn_bids_of [dd (.int k), dd (.int h), dd (.int side), none, none, none, none] p) = _
    unfold dn_bids_of
    rw [seq_nx T1, seq_nx T2, sret_ev, mfreeze_ev, C]
    rfl
  · simp only [List.mem_flatMap, List.mem_range, List.mem_map, Prod.mk.injEq]
    unfold BidT
    have mt : ∀ t, t ∈ ts ↔ (t = true → h % 2 = 2 - side) := fun t => by
      by_cases c : h % 2 = 2 - side
      · have et : ts = [false, true] := if_pos c
        rw [et]
        cases t <;> simp [c]
      · have et : ts = [false] := if_neg c
        rw [et]
        cases t <;> simp [c]
    constructor
    · rintro ⟨a, ha, t', ht, rfl, rfl⟩
      refine ⟨by omega, ?_, (mt t').mp ht⟩
      show (a : Int) ≤ chipsT k h side
      omega
    · rintro ⟨b0, b1, bt⟩
      have b1' : b ≤ chipsT k h side := b1
      exact ⟨b.toNat, by omega, t, (mt t).mpr bt, by omega, rfl⟩
theorem law_bids_ev {k h side : Int} (hs : side = 1 ∨ side = 2) (k9 : k ≤ 400) (c0 : 0 ≤ chipsT k h side) (c9 : chipsT k h side ≤ 400) (p : List Int) : ∃ L : List (Int × Bool), D_law_bids [.int k, .int h, .int side] p = .ok (.lst (L.map encB)) p ∧ ∀ b t, (b, t) ∈ L ↔ BidT k h side b t := by
  let f0 : List (Int × Bool) := (List.range (chipsT k h side + 1).toNat).map fun b : Nat => ((b : Int), false)
  let f1 : List (Int × Bool) := (List.range (chipsT k h side + 1).toNat).map fun b : Nat => ((b : Int), true)
  have hr := rng1_int (n := chipsT k h side + 1) (by omega)
  rw [rng_nat] at hr
  let hd : Int := if side = 2 then 1 - h % 2 else h % 2
  have T1 : b_law_bids_1 [dd (.int k), dd (.int h), dd (.int side), none, none, none, none] p = .nx [dd (.int k), dd (.int h), dd (.int side), dd (.int (h / 2)), none, none, none] p := by simp [b_law_bids_1, mvar, div2]
  have T2 : b_law_bids_2 [dd (.int k), dd (.int h), dd (.int side), dd (.int (h / 2)), none, none, none] p = .nx [dd (.int k), dd (.int h), dd (.int side), dd (.int (h / 2)), dd (.int (h % 2)), none, none] p := by simp [b_law_bids_2, mvar, mod2]
  have T3 : b_law_bids_3 [dd (.int k), dd (.int h), dd (.int side), dd (.int (h / 2)), dd (.int (h % 2)), none, none] p = .nx [dd (.int k), dd (.int h), dd (.int side), dd (.int (chipsT k h side)), dd (.int hd), none, none] p := by
    rcases hs with rfl | rfl <;> simp [b_law_bids_3, b_law_bids_3t2, mvar, chipsT, hd]
  have C1 : ∀ o5, c_law_bids_1 [dd (.int k), dd (.int h), dd (.int side), dd (.int (chipsT k h side)), dd (.int hd), o5, none] p = .ok (f0.map encB) p := fun o5 => by
    unfold c_law_bids_1
    rw [mcomp_ev (ds := (List.range (chipsT k h side + 1).toNat).map fun j : Nat => D.int (j : Int)) (p' := p) (by simp [mvar, hr]) (by simp; omega), List.map_map]
    exact comp_mapL (by simp) (fun j : Nat => D.int (j : Int)) _ fun b _ => by simp [mvar, encB]
  have C2 : ∀ o5, c_law_bids_2 [dd (.int k), dd (.int h), dd (.int side), dd (.int (chipsT k h side)), dd (.int hd), o5, none] p = .ok (f1.map encB) p := fun o5 => by
    unfold c_law_bids_2
    rw [mcomp_ev (ds := (List.range (chipsT k h side + 1).toNat).map fun j : Nat => D.int (j : Int)) (p' := p) (by simp [mvar, hr]) (by simp; omega), List.map_map]
    exact comp_mapL (by simp) (fun j : Nat => D.int (j : Int)) _ fun b _ => by simp [mvar, encB]
  have T4 : sasg (mfreeze c_law_bids_1) (gset 5) [dd (.int k), dd (.int h), dd (.int side), dd (.int (chipsT k h side)), dd (.int hd), none, none] p = .nx [dd (.int k), dd (.int h), dd (.int side), dd (.int (chipsT k h side)), dd (.int hd), dd (.lst (f0.map encB)), none] p := by
    rw [sasg_ev, mfreeze_ev, C1]
    rfl
  have m0 : ∀ b t, (b, t) ∈ f0 ↔ (0 ≤ b ∧ b ≤ chipsT k h side ∧ t = false) := fun b t => by
    simp only [f0, List.mem_map, List.mem_range, Prod.mk.injEq]
    constructor
    · rintro ⟨a, ha, rfl, rfl⟩
      exact ⟨by omega, by omega, rfl⟩
    · rintro ⟨b0, b1, rfl⟩
      exact ⟨b.toNat, by omega, by omega, rfl⟩
  have m1 : ∀ b t, (b, t) ∈ f1 ↔ (0 ≤ b ∧ b ≤ chipsT k h side ∧ t = true) := fun b t => by
    simp only [f1, List.mem_map, List.mem_range, Prod.mk.injEq]
    constructor
    · rintro ⟨a, ha, rfl, rfl⟩
      exact ⟨by omega, by omega, rfl⟩
    · rintro ⟨b0, b1, rfl⟩
      exact ⟨b.toNat, by omega, by omega, rfl⟩
  have ehd : hd = 1 ↔ h % 2 = 2 - side := by
    dsimp only [hd]
    rcases hs with rfl | rfl
    · rw [if_neg (by decide)]; omega
    · rw [if_pos rfl]; omega
  unfold D_law_bids
  rw [denF_ev (by rfl)]
  by_cases c : hd = 1
  · refine ⟨f0 ++ f1, ?_, fun b t => ?_⟩
    · show outR (dn_law_bids [dd (.int k), dd (.int h), dd (.int side), none, none, none, none] p) = _
      have T5 : b_law_bids_5 [dd (.int k), dd (.int h), dd (.int side), dd (.int (chipsT k h side)), dd (.int hd), dd (.lst (f0.map encB)), none] p = .nx [dd (.int k), dd (.int h), dd (.int side), dd (.int (chipsT k h side)), dd (.int hd), dd (.lst ((f0 ++ f1).map encB)), none] p := by
        have ec : fCat (.lst (f0.map encB)) (.lst (f1.map encB)) = some (.lst ((f0 ++ f1).map encB)) := by
          show (if _ then _ else _) = _
          rw [if_pos (by simp [f0, f1]; omega), List.map_append]
        have C2' := C2 (dd (.lst (f0.map encB)))
        have et : mtest (op2 fEq (mvar 4) (mret (D.int 1))) [dd (.int k), dd (.int h), dd (.int side), dd (.int (chipsT k h side)), dd (.int hd), dd (.lst (f0.map encB)), none] p = .ok true p := by simp [mvar, c]
        unfold b_law_bids_5
        rw [sif_t et, sasg_ev, op2_ev, mvar_ev (d := .lst (f0.map encB)) rfl, bind_ok, mfreeze_ev, C2', bind_ok, bind_ok, ec]
        rfl
      unfold dn_law_bids
      rw [seq_nx T1, seq_nx T2, seq_nx T3, seq_nx T4, seq_nx T5]
      rfl
    · rw [List.mem_append, m0, m1]
      unfold BidT
      have hh := ehd.mp c
      constructor
      · rintro (⟨a, b', rfl⟩ | ⟨a, b', rfl⟩)
        · exact ⟨a, b', fun z => nomatch z⟩
        · exact ⟨a, b', fun _ => hh⟩
      · rintro ⟨a, b', _⟩
        cases t
        · exact .inl ⟨a, b', rfl⟩
        · exact .inr ⟨a, b', rfl⟩
  · refine ⟨f0, ?_, fun b t => ?_⟩
    · show outR (dn_law_bids [dd (.int k), dd (.int h), dd (.int side), none, none, none, none] p) = _
      have T5 : b_law_bids_5 [dd (.int k), dd (.int h), dd (.int side), dd (.int (chipsT k h side)), dd (.int hd), dd (.lst (f0.map encB)), none] p = .nx [dd (.int k), dd (.int h), dd (.int side), dd (.int (chipsT k h side)), dd (.int hd), dd (.lst (f0.map encB)), none] p := by
        have et : mtest (op2 fEq (mvar 4) (mret (D.int 1))) [dd (.int k), dd (.int h), dd (.int side), dd (.int (chipsT k h side)), dd (.int hd), dd (.lst (f0.map encB)), none] p = .ok false p := by simp [mvar, c]
        unfold b_law_bids_5
        rw [sif_f et]
        rfl
      unfold dn_law_bids
      rw [seq_nx T1, seq_nx T2, seq_nx T3, seq_nx T4, seq_nx T5]
      rfl
    · rw [m0]
      unfold BidT
      constructor
      · rintro ⟨a, b', rfl⟩
        exact ⟨a, b', fun z => nomatch z⟩
      · rintro ⟨a, b', h3⟩
        cases t
        · exact ⟨a, b', rfl⟩
        · exact absurd (ehd.mpr (h3 rfl)) c
end PL
namespace PL
open PySem L2 Den
theorem eqvAll_self : ∀ l : List (List Int), PyData.eqvAll (l.map fun ss => .tuple ((sortSet ss).map .int)) (l.map fun ss => .tuple ((sortSet ss).map .int)) = true
  | [] => by simp [PyData.eqvAll]
  | s :: l => by
    have h := eqvAll_self l
    simp only [List.map_cons, PyData.eqvAll, PyData.eqv, h, eqvAll_dec]
    simp
theorem evB_even {wb : Wb} (h : wb.first = wb.second) : evB wb = true := by
  unfold evB
  rw [← h]
  have e1 : pd (.tup (wb.first.map dS)) = some (.tuple (wb.first.map fun ss => .tuple ((sortSet ss).map .int))) := by simp [pd, pdL_dS]
  rw [e1]
  simp [PyData.eqv, eqvAll_self]
section
variable (A : CA) {wb : Wb}
theorem f_even (wb : Wb) : fFld A.Web "_even" (insW A wb) = some (.bl (evB wb)) := by
  unfold insW
  rw [fld_ins]
  refine (lk_ne (by decide +kernel)).trans ?_
  refine (lk_ne (by decide +kernel)).trans ?_
  refine (lk_ne (by decide +kernel)).trans ?_
  refine (lk_ne (by decide +kernel)).trans ?_
  refine (lk_ne (by decide +kernel)).trans ?_
  refine (lk_ne (by decide +kernel)).trans ?_
  refine (lk_ne (by decide +kernel)).trans ?_
  refine (lk_ne (by decide +kernel)).trans ?_
  exact lk_eq
theorem check_even_ev (p : List Int) : D_check_even A [insW A wb] p = if evB wb = true then .ok .non p else .err 2 p := by
  cases e : evB wb <;> simp [D_check_even, denF, dn_check_even, locOf, mvar, f_even, e]
theorem token_kinds_ev {rd : D} {r : List Int} (hr : IsRow rd r) (hl : r.length ≤ 1000) (k : Int) (p : List Int) : D_check_token_kinds A [insW A wb, .int k, rd] p = .ok .non p := by
  simp [D_check_token_kinds, denF, dn_check_token_kinds, b_check_token_kinds_1, b_check_token_kinds_2, b_check_token_kinds_3, locOf, mvar, check_web_ok, whole1, whole_row hr hl]
theorem token_row_ev {rd : D} {r : List Int} (hr : IsRow rd r) (k : Int) (p : List Int) : D_check_token_row A [insW A wb, .int k, rd] p = if 0 ≤ k ∧ (r.length : Int) = wb.marks.length ∧ Parts r (2 * (k + 1)) then .ok .non p else .err 1 p := by
  have e1 := check_least_ev k 0 p
  have e2 := part_range_ev hr (wb.marks.length : Int) (2 * (k + 1)) p
  by_cases c0 : 0 ≤ k
  · rw [if_pos c0] at e1
    by_cases c1 : (r.length : Int) = wb.marks.length ∧ Parts r (2 * (k + 1))
    · rw [if_pos c1] at e2
      rw [if_pos ⟨c0, c1⟩]
      simp [D_check_token_row, denF, dn_check_token_row, b_check_token_row_1, b_check_token_row_2, locOf, mvar, e1, e2, mul2]
    · rw [if_neg c1] at e2
      rw [if_neg fun z => c1 z.2]
      simp [D_check_token_row, denF, dn_check_token_row, b_check_token_row_1, b_check_token_row_2, locOf, mvar, e1, e2, mul2]
  · rw [if_neg c0] at e1
    rw [if_neg fun z => c0 z.1]
    simp [D_check_token_row, denF, dn_check_token_row, b_check_token_row_1, b_check_token_row_2, locOf, mvar, e1]
theorem holding_ev (k i h : Int) (p : List Int) : D_check_holding A [insW A wb, .int k, .int i, .int h] p = if (0 ≤ i ∧ i ≤ (wb.marks.length : Int) - 1) ∧ 0 ≤ h ∧ h ≤ 2 * k + 1 then .ok .non p else .err 1 p := by
  have e1 := check_stand_ev A wb i p
  have e2 := check_range_ev h 0 (2 * k + 1) p
  by_cases c0 : 0 ≤ i ∧ i ≤ (wb.marks.length : Int) - 1
  · rw [if_pos c0] at e1
    by_cases c1 : 0 ≤ h ∧ h ≤ 2 * k + 1
    · rw [if_pos c1] at e2
      rw [if_pos ⟨c0, c1⟩]
      simp [D_check_holding, denF, dn_check_holding, b_check_holding_1, b_check_holding_2, locOf, mvar, e1, e2, mul2]
    · rw [if_neg c1] at e2
      rw [if_neg fun z => c1 z.2]
      simp [D_check_holding, denF, dn_check_holding, b_check_holding_1, b_check_holding_2, locOf, mvar, e1, e2, mul2]
  · rw [if_neg c0] at e1
    rw [if_neg fun z => c0 z.1]
    simp [D_check_holding, denF, dn_check_holding, b_check_holding_1, b_check_holding_2, locOf, mvar, e1]
/-- which bids serve -/
def ServesT (x y k h side b : Int) (t : Bool) : Prop := if side = 1 then ∀ q qt, BidT k h 2 q qt → GdT x y h b t q qt else ∀ q qt, BidT k h 1 q qt → ¬ GdT x y h q qt b t
abbrev STs (wb : Wb) (k : Int) (rd : D) (i h side b : Int) (t : Bool) (o8 o9 o10 o11 o12 o13 o14 : Option L) : Den.Loc := [dd (insW A wb), dd (.int k), dd rd, dd (.int i), dd (.int h), dd (.int side), dd (.int b), dd (.bl t), o8, o9, o10, o11, o12, o13, o14]
theorem fNe_bl2 (a b : Bool) : fNe (.bl a) (.bl b) = some (.bl (a != b)) := by cases a <;> cases b <;> rfl
theorem serves_turn {k h side b x y : Int} {t : Bool} (hs : side = 1 ∨ side = 2) (rd : D) (i : Int) (q : Int) (qt : Bool) (o12 o13 o14 : Option L) (p : List Int) :
    ∃ o12' o13' o14', (L_token_serves_14 (STs A wb k rd i h side b t (dd (.int x)) (dd (.int y)) (dd (.int q)) (dd (.bl qt)) o12 o13 o14) p = .nx (STs A wb k rd i h side b t (dd (.int x)) (dd (.int y)) (dd (.int q)) (dd (.bl qt)) o12' o13' o14') p ∧ (if side = 1 then GdT x y h b t q qt else ¬ GdT x y h q qt b t))
      ∨ (L_token_serves_14 (STs A wb k rd i h side b t (dd (.int x)) (dd (.int y)) (dd (.int q)) (dd (.bl qt)) o12 o13 o14) p = .rt (.bl false) p ∧ ¬ (if side = 1 then GdT x y h b t q qt else ¬ GdT x y h q qt b t)) := by
  rcases hs with rfl | rfl
  · obtain ⟨hd, af, e, hh, g⟩ := bgt_good x y h b t q qt
    have e1 := token_bought_ev h b t q qt p
    rw [e] at e1
    rw [if_pos rfl]
    by_cases c : GdT x y h b t q qt
    · have c' := g.mpr c
      refine ⟨dd (.int hd), dd (.int af), dd (.bl true), Or.inl (And.intro ?_ c)⟩
      rcases hh with rfl | rfl
      · have c2 : x ≤ af := by simpa using c'
        simp [L_token_serves_14, b_token_serves_14l1, b_token_serves_14l2, b_token_serves_14l3, mvar, e1, gset2, c2, fNe_bl2]
      · have c2 : y ≤ af := by simpa using c'
        simp [L_token_serves_14, b_token_serves_14l1, b_token_serves_14l2, b_token_serves_14l3, mvar, e1, gset2, c2, fNe_bl2]
    · have c' : ¬ ((if hd = 1 then x else y) ≤ af) := fun z => c (g.mp z)
      refine ⟨none, none, none, Or.inr (And.intro ?_ c)⟩
      rcases hh with rfl | rfl
      · have c2 : ¬ x ≤ af := fun z => c' (by rw [if_pos rfl]; exact z)
        simp [L_token_serves_14, b_token_serves_14l1, b_token_serves_14l2, b_token_serves_14l3, mvar, e1, gset2, c2, fNe_bl2]
      · have c2 : ¬ y ≤ af := fun z => c' (by rw [if_neg (by decide)]; exact z)
        simp [L_token_serves_14, b_token_serves_14l1, b_token_serves_14l2, b_token_serves_14l3, mvar, e1, gset2, c2, fNe_bl2]
  · obtain ⟨hd, af, e, hh, g⟩ := bgt_good x y h q qt b t
    have e1 := token_bought_ev h q qt b t p
    rw [e] at e1
    have n21 : ¬ ((2 : Int) = 1) := by decide
    rw [if_neg n21]
    by_cases c : GdT x y h q qt b t
    · have c' := g.mpr c
      have cc : ¬ ¬ GdT x y h q qt b t := fun z => z c
      refine ⟨none, none, none, Or.inr (And.intro ?_ cc)⟩
      rcases hh with rfl | rfl
      · have c2 : x ≤ af := by simpa using c'
        simp [L_token_serves_14, b_token_serves_14l1, b_token_serves_14l2, b_token_serves_14l3, mvar, e1, gset2, c2, fNe_bl2]
      · have c2 : y ≤ af := by simpa using c'
        simp [L_token_serves_14, b_token_serves_14l1, b_token_serves_14l2, b_token_serves_14l3, mvar, e1, gset2, c2, fNe_bl2]
    · have c' : ¬ ((if hd = 1 then x else y) ≤ af) := fun z => c (g.mp z)
      refine ⟨dd (.int hd), dd (.int af), dd (.bl false), Or.inl (And.intro ?_ c)⟩
      rcases hh with rfl | rfl
      · have c2 : ¬ x ≤ af := fun z => c' (by rw [if_pos rfl]; exact z)
        simp [L_token_serves_14, b_token_serves_14l1, b_token_serves_14l2, b_token_serves_14l3, mvar, e1, gset2, c2, fNe_bl2]
      · have c2 : ¬ y ≤ af := fun z => c' (by rw [if_neg n21]; exact z)
        simp [L_token_serves_14, b_token_serves_14l1, b_token_serves_14l2, b_token_serves_14l3, mvar, e1, gset2, c2, fNe_bl2]
theorem serves_loop {k h side b x y : Int} {t : Bool} (hs : side = 1 ∨ side = 2) (rd : D) (i : Int) (p : List Int) : ∀ (L : List (Int × Bool)) (o10 o11 o12 o13 o14 : Option Den.L), ((∀ q qt, (q, qt) ∈ L → (if side = 1 then GdT x y h b t q qt else ¬ GdT x y h q qt b t)) ∧ ∃ l', loop (gset2 10 11) L_token_serves_14 (L.map encB) (STs A wb k rd i h side b t (dd (.int x)) (dd (.int y)) o10 o11 o12 o13 o14) p = .nx l' p)
    ∨ ((¬ ∀ q qt, (q, qt) ∈ L → (if side = 1 then GdT x y h b t q qt else ¬ GdT x y h q qt b t)) ∧ loop (gset2 10 11) L_token_serves_14 (L.map encB) (STs A wb k rd i h side b t (dd (.int x)) (dd (.int y)) o10 o11 o12 o13 o14) p = .rt (.bl false) p)
  | [], o10, o11, o12, o13, o14 => .inl ⟨(fun _ _ h => (nomatch h)), _, rfl⟩
  | (q, qt) :: L, o10, o11, o12, o13, o14 => by
    have es : gset2 10 11 (encB (q, qt)) (STs A wb k rd i h side b t (dd (.int x)) (dd (.int y)) o10 o11 o12 o13 o14) = some (STs A wb k rd i h side b t (dd (.int x)) (dd (.int y)) (dd (.int q)) (dd (.bl qt)) o12 o13 o14) := by simp [gset2, encB]
    obtain ⟨o12', o13', o14', hT | hT⟩ := serves_turn A (wb := wb) (k := k) (h := h) (b := b) (x := x) (y := y) (t := t) hs rd i q qt o12 o13 o14 p
    · rcases serves_loop hs rd i p L (dd (.int q)) (dd (.bl qt)) o12' o13' o14' with ⟨h1, l', e⟩ | ⟨h1, e⟩
      · refine .inl ⟨fun q' qt' hm => ?_, l', ?_⟩
        · rcases List.mem_cons.mp hm with hm | hm
          · cases hm; exact hT.2
          · exact h1 q' qt' hm
        · show loop (gset2 10 11) L_token_serves_14 (encB (q, qt) :: L.map encB) _ p = _
          unfold loop
          rw [es]
          simp only [hT.1]
          exact e
      · refine .inr ⟨fun hh => h1 fun q' qt' hm => hh q' qt' (List.mem_cons_of_mem _ hm), ?_⟩
        show loop (gset2 10 11) L_token_serves_14 (encB (q, qt) :: L.map encB) _ p = _
        unfold loop
        rw [es]
        simp only [hT.1]
        exact e
    · refine .inr ⟨fun hh => hT.2 (hh q qt List.mem_cons_self), ?_⟩
      show loop (gset2 10 11) L_token_serves_14 (encB (q, qt) :: L.map encB) _ p = _
      unfold loop
      rw [es]
      simp only [hT.1]
end
end PL
namespace PL
open PySem L2 Den
abbrev SOw (x y k h side : Int) (bt : Int × Bool) (o6 o7 o8 : Option L) : Den.Loc := [dd (.int x), dd (.int y), dd (.int k), dd (.int h), dd (.int side), dd (encB bt), o6, o7, o8]
theorem own_turn {x y k h side b : Int} {t : Bool} (hs : side = 1 ∨ side = 2) (q : Int) (qt : Bool) (o7 o8 : Option L) (p : List Int) :
    ∃ o7' o8', (L_law_own_serves_1 (SOw x y k h side (b, t) (dd (encB (q, qt))) o7 o8) p = .nx (SOw x y k h side (b, t) (dd (encB (q, qt))) o7' o8') p ∧ (if side = 1 then GdT x y h b t q qt else ¬ GdT x y h q qt b t))
      ∨ (L_law_own_serves_1 (SOw x y k h side (b, t) (dd (encB (q, qt))) o7 o8) p = .rt (.bl false) p ∧ ¬ (if side = 1 then GdT x y h b t q qt else ¬ GdT x y h q qt b t)) := by
  have n21 : ¬ ((2 : Int) = 1) := by decide
  rcases hs with rfl | rfl
  · obtain ⟨hd, af, e, hh, g⟩ := bgt_good x y h b t q qt
    have e1 := law_after_ev h b t q qt p
    rw [e] at e1
    rw [if_pos rfl]
    by_cases c : GdT x y h b t q qt
    · have c' := g.mpr c
      refine ⟨dd (dI [hd, af]), dd (.bl true), Or.inl (And.intro ?_ c)⟩
      rcases hh with rfl | rfl
      · have c2 : x ≤ af := by simpa using c'
        simp [L_law_own_serves_1, b_law_own_serves_1l1, b_law_own_serves_1l2, b_law_own_serves_1l3, mvar, e1, encB, dI, c2, fNe_bl2]
      · have c2 : y ≤ af := by simpa using c'
        simp [L_law_own_serves_1, b_law_own_serves_1l1, b_law_own_serves_1l2, b_law_own_serves_1l3, mvar, e1, encB, dI, c2, fNe_bl2]
    · have c' : ¬ ((if hd = 1 then x else y) ≤ af) := fun z => c (g.mp z)
      refine ⟨none, none, Or.inr (And.intro ?_ c)⟩
      rcases hh with rfl | rfl
      · have c2 : ¬ x ≤ af := fun z => c' (by rw [if_pos rfl]; exact z)
        simp [L_law_own_serves_1, b_law_own_serves_1l1, b_law_own_serves_1l2, b_law_own_serves_1l3, mvar, e1, encB, dI, c2, fNe_bl2]
      · have c2 : ¬ y ≤ af := fun z => c' (by rw [if_neg n21]; exact z)
        simp [L_law_own_serves_1, b_law_own_serves_1l1, b_law_own_serves_1l2, b_law_own_serves_1l3, mvar, e1, encB, dI, c2, fNe_bl2]
  · obtain ⟨hd, af, e, hh, g⟩ := bgt_good x y h q qt b t
    have e1 := law_after_ev h q qt b t p
    rw [e] at e1
    rw [if_neg n21]
    by_cases c : GdT x y h q qt b t
    · have c' := g.mpr c
      have cc : ¬ ¬ GdT x y h q qt b t := fun z => z c
      refine ⟨none, none, Or.inr (And.intro ?_ cc)⟩
      rcases hh with rfl | rfl
      · have c2 : x ≤ af := by simpa using c'
        simp [L_law_own_serves_1, b_law_own_serves_1l1, b_law_own_serves_1l2, b_law_own_serves_1l3, mvar, e1, encB, dI, c2, fNe_bl2]
      · have c2 : y ≤ af := by simpa using c'
        simp [L_law_own_serves_1, b_law_own_serves_1l1, b_law_own_serves_1l2, b_law_own_serves_1l3, mvar, e1, encB, dI, c2, fNe_bl2]
    · have c' : ¬ ((if hd = 1 then x else y) ≤ af) := fun z => c (g.mp z)
      refine ⟨dd (dI [hd, af]), dd (.bl false), Or.inl (And.intro ?_ c)⟩
      rcases hh with rfl | rfl
      · have c2 : ¬ x ≤ af := fun z => c' (by rw [if_pos rfl]; exact z)
        simp [L_law_own_serves_1, b_law_own_serves_1l1, b_law_own_serves_1l2, b_law_own_serves_1l3, mvar, e1, encB, dI, c2, fNe_bl2]
      · have c2 : ¬ y ≤ af := fun z => c' (by rw [if_neg n21]; exact z)
        simp [L_law_own_serves_1, b_law_own_serves_1l1, b_law_own_serves_1l2, b_law_own_serves_1l3, mvar, e1, encB, dI, c2, fNe_bl2]
theorem own_loop {x y k h side b : Int} {t : Bool} (hs : side = 1 ∨ side = 2) (p : List Int) : ∀ (L : List (Int × Bool)) (o6 o7 o8 : Option Den.L), ((∀ q qt, (q, qt) ∈ L → (if side = 1 then GdT x y h b t q qt else ¬ GdT x y h q qt b t)) ∧ ∃ l', loop (gset 6) L_law_own_serves_1 (L.map encB) (SOw x y k h side (b, t) o6 o7 o8) p = .nx l' p)
    ∨ ((¬ ∀ q qt, (q, qt) ∈ L → (if side = 1 then GdT x y h b t q qt else ¬ GdT x y h q qt b t)) ∧ loop (gset 6) L_law_own_serves_1 (L.map encB) (SOw x y k h side (b, t) o6 o7 o8) p = .rt (.bl false) p)
  | [], o6, o7, o8 => .inl ⟨(fun _ _ h => (nomatch h)), _, rfl⟩
  | (q, qt) :: L, o6, o7, o8 => by
    have es : gset 6 (encB (q, qt)) (SOw x y k h side (b, t) o6 o7 o8) = some (SOw x y k h side (b, t) (dd (encB (q, qt))) o7 o8) := rfl
    obtain ⟨o7', o8', hT | hT⟩ := own_turn (k := k) (h := h) (b := b) (x := x) (y := y) (t := t) hs q qt o7 o8 p
    · rcases own_loop hs p L (dd (encB (q, qt))) o7' o8' with ⟨h1, l', e⟩ | ⟨h1, e⟩
      · refine .inl ⟨fun q' qt' hm => ?_, l', ?_⟩
        · rcases List.mem_cons.mp hm with hm | hm
          · cases hm; exact hT.2
          · exact h1 q' qt' hm
        · show loop (gset 6) L_law_own_serves_1 (encB (q, qt) :: L.map encB) _ p = _
          unfold loop
          rw [es]
          simp only [hT.1]
          exact e
      · refine .inr ⟨fun hh => h1 fun q' qt' hm => hh q' qt' (List.mem_cons_of_mem _ hm), ?_⟩
        show loop (gset 6) L_law_own_serves_1 (encB (q, qt) :: L.map encB) _ p = _
        unfold loop
        rw [es]
        simp only [hT.1]
        exact e
    · refine .inr ⟨fun hh => hT.2 (hh q qt List.mem_cons_self), ?_⟩
      show loop (gset 6) L_law_own_serves_1 (encB (q, qt) :: L.map encB) _ p = _
      unfold loop
      rw [es]
      simp only [hT.1]
theorem serves_all {x y k h side b : Int} {t : Bool} (hs : side = 1 ∨ side = 2) {L : List (Int × Bool)} (hL : ∀ q qt, (q, qt) ∈ L ↔ BidT k h (3 - side) q qt) : (∀ q qt, (q, qt) ∈ L → (if side = 1 then GdT x y h b t q qt else ¬ GdT x y h q qt b t)) ↔ ServesT x y k h side b t := by
  have n21 : ¬ ((2 : Int) = 1) := by decide
  unfold ServesT
  rcases hs with rfl | rfl
  · simp only [if_true]
    exact ⟨fun H q qt B => H q qt ((hL q qt).mpr B), fun H q qt m => H q qt ((hL q qt).mp m)⟩
  · simp only [n21, if_false]
    exact ⟨fun H q qt B => H q qt ((hL q qt).mpr B), fun H q qt m => H q qt ((hL q qt).mp m)⟩
theorem other_side {side : Int} (hs : side = 1 ∨ side = 2) : 3 - side = 1 ∨ 3 - side = 2 := by omega
theorem chips_range {k h side : Int} (hs : side = 1 ∨ side = 2) (h0 : 0 ≤ h) (hk : h ≤ 2 * k + 1) : 0 ≤ chipsT k h side ∧ chipsT k h side ≤ k := by
  unfold chipsT
  rcases hs with rfl | rfl
  · rw [if_pos rfl]; omega
  · rw [if_neg (by decide)]; omega
theorem own_serves_ev {x y k h side b : Int} {t : Bool} (hs : side = 1 ∨ side = 2) (k9 : k ≤ 200) (h0 : 0 ≤ h) (hk : h ≤ 2 * k + 1) (p : List Int) : ∃ v, D_law_own_serves [.int x, .int y, .int k, .int h, .int side, encB (b, t)] p = .ok (.bl v) p ∧ (v = true ↔ ServesT x y k h side b t) := by
  have c := chips_range (other_side hs) h0 hk
  obtain ⟨L, e, hL⟩ := law_bids_ev (k := k) (h := h) (other_side hs) (by omega) c.1 (by omega) p
  have A := serves_all (x := x) (y := y) (b := b) (t := t) hs hL
  unfold D_law_own_serves
  rw [denF_ev (by rfl)]
  have e0 : ∀ o, b_law_own_serves_1 (SOw x y k h side (b, t) none none none) p = o ↔ loop (gset 6) L_law_own_serves_1 (L.map encB) (SOw x y k h side (b, t) none none none) p = o := fun o => by
    unfold b_law_own_serves_1
    rw [sfor_ev]
    simp only [mbind_ev, mcall_ev, acons_ev, op2_ev, mvar, mret_ev, List.getElem?_cons_succ, List.getElem?_cons_zero, bind_ok, fSub_int, mlift_some, anil_ev, e, lstOf_lst, toO_ok]
  rcases own_loop (x := x) (y := y) (k := k) (h := h) (b := b) (t := t) hs p L none none none with ⟨h1, l', e2⟩ | ⟨h1, e2⟩
  · refine ⟨true, ?_, ⟨fun _ => A.mp h1, fun _ => rfl⟩⟩
    show outR (dn_law_own_serves (SOw x y k h side (b, t) none none none) p) = _
    unfold dn_law_own_serves
    rw [seq_nx ((e0 _).mpr e2)]
    rfl
  · refine ⟨false, ?_, ⟨fun z => (nomatch z), fun z => absurd (A.mpr z) h1⟩⟩
    show outR (dn_law_own_serves (SOw x y k h side (b, t) none none none) p) = _
    unfold dn_law_own_serves
    rw [sseq_ev, (e0 _).mpr e2]
    rfl
section
variable (A : CA) {wb : Wb}
/-- what the token's questions ask of the web, the row, the stand and the holding -/
structure Tok (wb : Wb) (k : Int) (r : List Int) (i : Int) (h : Int) : Prop where
  V : Valid wb
  ev : evB wb = true
  k0 : 0 ≤ k
  k9 : k ≤ 200
  len : r.length = wb.marks.length
  parts : Parts r (2 * (k + 1))
  h0 : 0 ≤ h
  hk : h ≤ 2 * k + 1
theorem token_serves_ev {k i h side b : Int} {t : Bool} {r : List Int} {f s : List Int} {mk : Int} (K : Tok wb k r i h) (H : Here wb i f s mk) (hne : f ≠ []) (hs : side = 1 ∨ side = 2) (B : BidT k h side b t) (p : List Int) :
    ∃ v, D_token_serves A [insW A wb, .int k, dI r, .int i, .int h, .int side, .int b, .bl t] p = .ok (.bl v) p ∧ (v = true ↔ ServesT (lowI r f) (highI r s) k h side b t) := by
  have hr : IsRow (dI r) r := .inl rfl
  have hl : r.length ≤ 1000 := by have := K.V.n2; have := K.len; omega
  have e1 := token_kinds_ev A (wb := wb) hr hl k p
  have e2 := whole4 i h side b p
  have e4 := check_even_ev A (wb := wb) p
  rw [if_pos K.ev] at e4
  have e5 := token_row_ev A (wb := wb) hr k p
  rw [if_pos ⟨K.k0, by rw [K.len], K.parts⟩] at e5
  have e6 := holding_ev A (wb := wb) k i h p
  rw [if_pos ⟨⟨H.h0, by have := H.h1; omega⟩, K.h0, K.hk⟩] at e6
  have e7 := one_or_two_ok hs p
  have e8 := check_range_ev b 0 (chipsT k h side) p
  rw [if_pos ⟨B.1, B.2.1⟩] at e8
  have e9 := check_moving_ok A H hne p
  have e11 := check_most_ev k 200 p
  rw [if_pos K.k9] at e11
  have e12 := low_eq A K.V H hne hr K.len p
  have e13 := high_eq A K.V H (H.ne K.V hne) hr K.len p
  have c := chips_range (other_side hs) K.h0 K.hk
  have k9 := K.k9
  obtain ⟨L, eL, hL⟩ := bids_of_ev (k := k) (h := h) (other_side hs) (by omega) c.1 (by omega) p
  have AA := serves_all (x := lowI r f) (y := highI r s) (b := b) (t := t) hs hL
  let S : Option Den.L → Option Den.L → Den.Loc := fun o8 o9 => STs A wb k (dI r) i h side b t o8 o9 none none none none none
  have T1 : b_token_serves_01 A (S none none) p = .nx (S none none) p := by simp [b_token_serves_01, S, mvar, e1]
  have T2 : b_token_serves_02 (S none none) p = .nx (S none none) p := by simp [b_token_serves_02, S, mvar, e2]
  have T3 : b_token_serves_03 (S none none) p = .nx (S none none) p := by
    have q : fIs1 [.bl t, D.ty Ty.bl] = some (.bl true) := rfl
    simp [b_token_serves_03, S, mvar, q]
  have T4 : b_token_serves_04 A (S none none) p = .nx (S none none) p := by simp [b_token_serves_04, S, mvar, e4]
  have T5 : b_token_serves_05 A (S none none) p = .nx (S none none) p := by simp [b_token_serves_05, S, mvar, e5]
  have T6 : b_token_serves_06 A (S none none) p = .nx (S none none) p := by simp [b_token_serves_06, S, mvar, e6]
  have T7 : b_token_serves_07 (S none none) p = .nx (S none none) p := by simp [b_token_serves_07, S, mvar, e7]
  have T8 : b_token_serves_08 (S none none) p = .nx (S none none) p := by
    rcases hs with rfl | rfl
    · have e8' : D_check_range [.int b, .int 0, .int (h / 2)] p = .ok .non p := e8
      simp [b_token_serves_08, S, mvar, div2, e8']
    · have e8' : D_check_range [.int b, .int 0, .int (k - h / 2)] p = .ok .non p := e8
      simp [b_token_serves_08, S, mvar, div2, e8']
  have T9 : b_token_serves_09 A (S none none) p = .nx (S none none) p := by simp [b_token_serves_09, S, mvar, e9]
  have T10 : b_token_serves_10 (S none none) p = .nx (S none none) p := by
    cases t with
    | false => simp [b_token_serves_10, S, mvar]
    | true =>
      have q := B.2.2 rfl
      simp [b_token_serves_10, S, mvar, mod2, q]
  have T11 : b_token_serves_11 (S none none) p = .nx (S none none) p := by simp [b_token_serves_11, S, mvar, e11]
  have T12 : b_token_serves_12 A (S none none) p = .nx (S (dd (.int (lowI r f))) none) p := by simp [b_token_serves_12, S, mvar, e12]
  have T13 : b_token_serves_13 A (S (dd (.int (lowI r f))) none) p = .nx (S (dd (.int (lowI r f))) (dd (.int (highI r s)))) p := by simp [b_token_serves_13, S, mvar, e13]
  have e0 : ∀ o, b_token_serves_14 (S (dd (.int (lowI r f))) (dd (.int (highI r s)))) p = o ↔ loop (gset2 10 11) L_token_serves_14 (L.map encB) (S (dd (.int (lowI r f))) (dd (.int (highI r s)))) p = o := fun o => by
    unfold b_token_serves_14
    rw [sfor_ev]
    simp only [S, mbind_ev, mcall_ev, acons_ev, op2_ev, mvar, mret_ev, List.getElem?_cons_succ, List.getElem?_cons_zero, bind_ok, fSub_int, mlift_some, anil_ev, eL, lstOf_lst, toO_ok]
  unfold D_token_serves
  rw [denF_ev (by rfl)]
  rcases serves_loop A (wb := wb) (x := lowI r f) (y := highI r s) (k := k) (h := h) (b := b) (t := t) hs (dI r) i p L none none none none none with ⟨h1, l', e⟩ | ⟨h1, e⟩
  · refine ⟨true, ?_, ⟨fun _ => AA.mp h1, fun _ => rfl⟩⟩
    show outR (dn_token_serves A (S none none) p) = _
    unfold dn_token_serves
    rw [seq_nx T1, seq_nx T2, seq_nx T3, seq_nx T4, seq_nx T5, seq_nx T6, seq_nx T7, seq_nx T8, seq_nx T9, seq_nx T10, seq_nx T11, seq_nx T12, seq_nx T13, seq_nx ((e0 _).mpr e)]
    rfl
  · refine ⟨false, ?_, ⟨fun z => (nomatch z), fun z => absurd (AA.mpr z) h1⟩⟩
    show outR (dn_token_serves A (S none none) p) = _
    unfold dn_token_serves
    rw [seq_nx T1, seq_nx T2, seq_nx T3, seq_nx T4, seq_nx T5, seq_nx T6, seq_nx T7, seq_nx T8, seq_nx T9, seq_nx T10, seq_nx T11, seq_nx T12, seq_nx T13, sseq_ev, (e0 _).mpr e]
    rfl
end
end PL
namespace PL
open PySem L2 Den
section
variable (A : CA) {wb : Wb}
theorem token_bid_ev {k i h : Int} {r : List Int} {f s : List Int} {mk : Int} (K : Tok wb k r i h) (H : Here wb i f s mk) (hne : f ≠ []) (p : List Int) : D_check_token_bid A [insW A wb, .int k, dI r, .int i, .int h] p = .ok .non p := by
  have hr : IsRow (dI r) r := .inl rfl
  have hl : r.length ≤ 1000 := by have := K.V.n2; have := K.len; omega
  have e1 := token_kinds_ev A (wb := wb) hr hl k p
  have e2 := whole2 i h p
  have e4 := check_even_ev A (wb := wb) p
  rw [if_pos K.ev] at e4
  have e5 := token_row_ev A (wb := wb) hr k p
  rw [if_pos ⟨K.k0, by rw [K.len], K.parts⟩] at e5
  have e6 := holding_ev A (wb := wb) k i h p
  rw [if_pos ⟨⟨H.h0, by have := H.h1; omega⟩, K.h0, K.hk⟩] at e6
  have e9 := check_moving_ok A H hne p
  have e11 := check_most_ev k 10000000000000000000000000000000000000000 p
  rw [if_pos (by have := K.k9; omega)] at e11
  simp [D_check_token_bid, denF, dn_check_token_bid, b_check_token_bid_1, b_check_token_bid_2, b_check_token_bid_3, b_check_token_bid_4, b_check_token_bid_5, b_check_token_bid_6, b_check_token_bid_7, locOf, mvar, e1, e2, e4, e5, e6, e9, e11]
theorem steps_in (V : Valid wb) {i : Int} {f s : List Int} {mk : Int} (H : Here wb i f s mk) {r : List Int} (hl : r.length = wb.marks.length) : (∀ z ∈ f, 0 ≤ z ∧ z < (r.length : Int)) ∧ (∀ z ∈ s, 0 ≤ z ∧ z < (r.length : Int)) := by
  rw [hl]
  exact ⟨H.fin V, H.sin V⟩
theorem token_first_ev {k i h : Int} {r : List Int} {f s : List Int} {mk : Int} (K : Tok wb k r i h) (H : Here wb i f s mk) (hne : f ≠ []) (p : List Int) :
    D_token_first A [insW A wb, .int k, dI r, .int i, .int h] p = .ok (.tup [.int (min (sz1 (highI r s) h / 2) (h / 2)), .bl (decide (sz1 (highI r s) h % 2 = 1)), .int (stepI r f (lowI r f))]) p := by
  have hr : IsRow (dI r) r := .inl rfl
  have e0 := token_bid_ev A K H hne p
  have e1 := low_eq A K.V H hne hr K.len p
  have e2 := high_eq A K.V H (H.ne K.V hne) hr K.len p
  have hf60 := (K.V.s1 f (List.mem_of_getElem? H.hf)).1
  have e3 := least_with_ev hr f (lowI r f) (steps_in K.V H K.len).1 (by omega) (lowI_is (r := r) hne).1 p
  have f1 := H.f1
  have T : D_token_first_told A [insW A wb, dI r, .int i, .int h] p = .ok (.tup [.int (min (sz1 (highI r s) h / 2) (h / 2)), .bl (decide (sz1 (highI r s) h % 2 = 1)), .int (stepI r f (lowI r f))]) p := by
    simp [D_token_first_told, denF, dn_token_first_told, b_token_first_told_1, b_token_first_told_2, b_token_first_told_3, locOf, mvar, e1, e2, f1, e3, first_size_ev, div2, mod2, fMin2_mn, -fMin2_int]
  simp [D_token_first, denF, dn_token_first, b_token_first_1, b_token_first_2, locOf, mvar, e0, T]
theorem token_second_ev {k i h : Int} {r : List Int} {f s : List Int} {mk : Int} (K : Tok wb k r i h) (H : Here wb i f s mk) (hne : f ≠ []) (p : List Int) :
    D_token_second A [insW A wb, .int k, dI r, .int i, .int h] p = .ok (.tup [.int (min (sz2 (lowI r f) h / 2) (k - h / 2)), .bl (decide (sz2 (lowI r f) h % 2 = 1)), .int (stepI r s (highI r s))]) p := by
  have hr : IsRow (dI r) r := .inl rfl
  have hsne := H.ne K.V hne
  have e0 := token_bid_ev A K H hne p
  have e1 := low_eq A K.V H hne hr K.len p
  have e2 := high_eq A K.V H hsne hr K.len p
  have hs60 := (K.V.s2 s (List.mem_of_getElem? H.hs)).1
  have e3 := least_with_ev hr s (highI r s) (steps_in K.V H K.len).2 (by omega) (highI_is (r := r) hsne).1 p
  have s1 := H.s1
  simp [D_token_second, denF, dn_token_second, b_token_second_1, b_token_second_2, b_token_second_3, b_token_second_4, locOf, mvar, e0, e1, e2, s1, e3, second_size_ev, div2, mod2, fMin2_mn, -fMin2_int]
def sizeT (x y h side : Int) : Int := if side = 1 then sz1 y h else sz2 x h
def winsT (x y h side : Int) : Bool := if side = 1 then decide (thI x y ≤ h) else decide (h < thI x y)
theorem serveT {x y k h side b : Int} {t : Bool} (hs : side = 1 ∨ side = 2) (x0 : 0 ≤ x) (xy : x ≤ y) (yk : y ≤ 2 * k + 2) (h0 : 0 ≤ h) (hk : h ≤ 2 * k + 1) (B : BidT k h side b t) :
    (ServesT x y k h side b t → winsT x y h side = true ∧ sizeT x y h side ≤ ownT b t) ∧ (winsT x y h side = true → ownT b t = sizeT x y h side → ServesT x y k h side b t) := by
  have n21 : ¬ ((2 : Int) = 1) := by decide
  unfold ServesT winsT sizeT
  rcases hs with rfl | rfl
  · simp only [if_true, decide_eq_true_eq]
    exact serve1 x0 xy yk h0 hk B
  · simp only [n21, if_false, decide_eq_true_eq]
    exact serve2 x0 xy yk h0 hk B
theorem size_fits {x y k h side : Int} (hs : side = 1 ∨ side = 2) (x0 : 0 ≤ x) (xy : x ≤ y) (yk : y ≤ 2 * k + 2) (h0 : 0 ≤ h) (w : winsT x y h side = true) : sizeT x y h side / 2 ≤ chipsT k h side := by
  have n21 : ¬ ((2 : Int) = 1) := by decide
  unfold winsT at w
  unfold sizeT chipsT
  rcases hs with rfl | rfl
  · simp only [if_true, decide_eq_true_eq] at w ⊢
    exact size1_fits xy x0 yk h0 w
  · simp only [n21, if_false, decide_eq_true_eq] at w ⊢
    exact size2_fits xy x0 yk h0 w
theorem fEqD_ibi (a : Int) (b : Bool) (c : Int) : fEqD true (.tup [.int a, .bl b, .int c]) (.tup [.int a, .bl b, .int c]) = some (.bl false) := by
  have e : pd (.tup [.int a, .bl b, .int c]) = some (.tuple [.int a, .bool b, .int c]) := by simp [pd, pdL]
  unfold fEqD
  rw [e]
  dsimp only
  rw [if_pos (by simp [PyData.depth, PyData.depthAll])]
  cases b <;> simp [PyData.eqv, PyData.eqvAll]
abbrev SSd (wb : Wb) (k : Int) (r : List Int) (i h side : Int) (w : Bool) (o8 o9 o10 o11 o12 o13 o14 o16 o17 o18 o19 : Option L) : Den.Loc := [dd (insW A wb), dd (.lst (encW wb)), dd (.int k), dd (dI r), dd (.int i), dd (.int h), dd (.int side), dd (.bl w), o8, o9, o10, o11, o12, o13, o14, none, o16, o17, o18, o19]
theorem fMinL_step {r st : List Int} {v : Int} (h : ∃ x ∈ st, rowAt r x = v) : fMinL [.lst ((st.filter fun z => decide (rowAt r z = v)).map D.int)] = some (.int (stepI r st v)) := by
  rw [fMinL_ints]
  · rfl
  · intro e
    obtain ⟨x, h1, h2⟩ := h
    have : x ∈ st.filter fun z => decide (rowAt r z = v) := List.mem_filter.mpr ⟨h1, decide_eq_true h2⟩
    rw [e] at this
    cases this
theorem one_turn {k i h side : Int} {r : List Int} {f s : List Int} {mk : Int} (K : Tok wb k r i h) (H : Here wb i f s mk) (hne : f ≠ []) (hs : side = 1 ∨ side = 2) (xy : lowI r f ≤ highI r s) {b : Int} {t : Bool} (B : BidT k h side b t) (o11 o12 o13 o14 o16 o18 o19 : Option Den.L) (p : List Int) :
    ∃ o18' o19', L_law_one_side_12 A (SSd A wb k r i h side (winsT (lowI r f) (highI r s) h side) (dd (.int (lowI r f))) (dd (.int (highI r s))) (dd (.int (sizeT (lowI r f) (highI r s) h side))) o11 o12 o13 o14 o16 (dd (encB (b, t))) o18 o19) p
      = .nx (SSd A wb k r i h side (winsT (lowI r f) (highI r s) h side) (dd (.int (lowI r f))) (dd (.int (highI r s))) (dd (.int (sizeT (lowI r f) (highI r s) h side))) o11 o12 o13 o14 o16 (dd (encB (b, t))) o18' o19') p := by
  obtain ⟨v, e1, hv⟩ := token_serves_ev A K H hne hs B p
  obtain ⟨v', e2, hv'⟩ := own_serves_ev (x := lowI r f) (y := highI r s) (b := b) (t := t) hs K.k9 K.h0 K.hk p
  have evv : v' = v := by rw [Bool.eq_iff_iff, hv, hv']
  subst evv
  have bnd := row_bounds K.V H hne K.len K.parts
  have S := serveT (t := t) hs bnd.1.1 xy (by have := bnd.2.2; omega) K.h0 K.hk B
  have i0 : fIx (encB (b, t)) (.int 0) = some (.int b) := rfl
  have i1 : fIx (encB (b, t)) (.int 1) = some (.bl t) := rfl
  have fi : fInt [.bl t] = some (.int (if t = true then 1 else 0)) := rfl
  have q : fIs1 [.bl v', D.ty Ty.bl] = some (.bl true) := rfl
  obtain ⟨x, hx⟩ : ∃ x, x = lowI r f := ⟨_, rfl⟩
  obtain ⟨y, hy⟩ : ∃ y, y = highI r s := ⟨_, rfl⟩
  rw [← hx, ← hy] at e2 hv' hv S ⊢
  obtain ⟨z, hz⟩ : ∃ z, z = sizeT x y h side := ⟨_, rfl⟩
  obtain ⟨w, hw⟩ : ∃ w, w = winsT x y h side := ⟨_, rfl⟩
  rw [← hz, ← hw] at S ⊢
  refine ⟨dd (.bl v'), dd (.int (ownT b t)), ?_⟩
  have T1 : b_law_one_side_12l1 A (SSd A wb k r i h side w (dd (.int x)) (dd (.int y)) (dd (.int z)) o11 o12 o13 o14 o16 (dd (encB (b, t))) o18 o19) p = .nx (SSd A wb k r i h side w (dd (.int x)) (dd (.int y)) (dd (.int z)) o11 o12 o13 o14 o16 (dd (encB (b, t))) (dd (.bl v')) o19) p := by
    simp [b_law_one_side_12l1, mvar, i0, i1, e1]
  have T2 : b_law_one_side_12l2 (SSd A wb k r i h side w (dd (.int x)) (dd (.int y)) (dd (.int z)) o11 o12 o13 o14 o16 (dd (encB (b, t))) (dd (.bl v')) o19) p = .nx (SSd A wb k r i h side w (dd (.int x)) (dd (.int y)) (dd (.int z)) o11 o12 o13 o14 o16 (dd (encB (b, t))) (dd (.bl v')) o19) p := by
    simp [b_law_one_side_12l2, mvar, q, e2, fNe_bl2]
  have T3 : b_law_one_side_12l3 (SSd A wb k r i h side w (dd (.int x)) (dd (.int y)) (dd (.int z)) o11 o12 o13 o14 o16 (dd (encB (b, t))) (dd (.bl v')) o19) p = .nx (SSd A wb k r i h side w (dd (.int x)) (dd (.int y)) (dd (.int z)) o11 o12 o13 o14 o16 (dd (encB (b, t))) (dd (.bl v')) (dd (.int (ownT b t)))) p := by
    simp [b_law_one_side_12l3, mvar, i0, i1, fi, mul2, ownT]
  have T4 : b_law_one_side_12l4 (SSd A wb k r i h side w (dd (.int x)) (dd (.int y)) (dd (.int z)) o11 o12 o13 o14 o16 (dd (encB (b, t))) (dd (.bl v')) (dd (.int (ownT b t)))) p = .nx (SSd A wb k r i h side w (dd (.int x)) (dd (.int y)) (dd (.int z)) o11 o12 o13 o14 o16 (dd (encB (b, t))) (dd (.bl v')) (dd (.int (ownT b t)))) p := by
    cases hvv : v' with
    | false => simp [b_law_one_side_12l4, mvar]
    | true =>
      have g := S.1 (hv.mp hvv)
      have n : ¬ ownT b t < z := by have := g.2; omega
      simp [b_law_one_side_12l4, mvar, g.1, n]
  have T5 : b_law_one_side_12l5 (SSd A wb k r i h side w (dd (.int x)) (dd (.int y)) (dd (.int z)) o11 o12 o13 o14 o16 (dd (encB (b, t))) (dd (.bl v')) (dd (.int (ownT b t)))) p = .nx (SSd A wb k r i h side w (dd (.int x)) (dd (.int y)) (dd (.int z)) o11 o12 o13 o14 o16 (dd (encB (b, t))) (dd (.bl v')) (dd (.int (ownT b t)))) p := by
    cases hww : w with
    | false => simp [b_law_one_side_12l5, mvar]
    | true =>
      by_cases c : ownT b t = z
      · have g := hv.mpr (S.2 hww c)
        simp [b_law_one_side_12l5, mvar, c, g]
      · simp [b_law_one_side_12l5, mvar, c]
  unfold L_law_one_side_12
  rw [seq_nx T1, seq_nx T2, seq_nx T3, seq_nx T4, T5]
end
end PL
namespace PL
open PySem L2 Den
section
variable (A : CA) {wb : Wb}
theorem low_le_high {wb : Wb} (V : Valid wb) (hev : wb.first = wb.second) {i : Int} {f s : List Int} {mk : Int} (H : Here wb i f s mk) (hne : f ≠ []) (r : List Int) : f = s ∧ lowI r f ≤ highI r s := by
  have e1 := H.hf
  have e2 := H.hs
  rw [hev, e2] at e1
  have fs : s = f := Option.some.inj e1
  subst fs
  refine ⟨rfl, ?_⟩
  obtain ⟨x, hx, ex⟩ := (lowI_is (r := r) hne).1
  have := (highI_is (r := r) hne).2 x hx
  omega
theorem one_side_ev {k i h side : Int} {r : List Int} {f s : List Int} {mk : Int} (K : Tok wb k r i h) (H : Here wb i f s mk) (hne : f ≠ []) (hs : side = 1 ∨ side = 2) (xy : lowI r f ≤ highI r s) (p : List Int) :
    D_law_one_side A [insW A wb, .lst (encW wb), .int k, dI r, .int i, .int h, .int side, .bl (winsT (lowI r f) (highI r s) h side)] p = .ok (.bl true) p := by
  have n21 : ¬ ((2 : Int) = 1) := by decide
  have hsne := H.ne K.V hne
  have bnd := row_bounds K.V H hne K.len K.parts
  have e1 := law_low_ev K.V H hne K.len p
  have e2 := law_high_ev K.V H hsne K.len p
  have hf60 := (K.V.s1 f (List.mem_of_getElem? H.hf)).1
  have hs60 := (K.V.s2 s (List.mem_of_getElem? H.hs)).1
  have c := chips_range hs K.h0 K.hk
  have fits : winsT (lowI r f) (highI r s) h side = true → sizeT (lowI r f) (highI r s) h side / 2 ≤ chipsT k h side := fun w => size_fits hs bnd.1.1 xy (by have := bnd.2.2; omega) K.h0 w
  have k9 := K.k9
  obtain ⟨L, eL, hL⟩ := law_bids_ev (k := k) (h := h) hs (by omega) c.1 (by omega) p
  let st : List Int := if side = 1 then f else s
  let aim : Int := if side = 1 then lowI r f else highI r s
  have hst : ∃ x ∈ st, rowAt r x = aim := by
    dsimp only [st, aim]
    rcases hs with rfl | rfl
    · exact (lowI_is (r := r) hne).1
    · exact (highI_is (r := r) hsne).1
  have hst60 : st.length < 60 := by
    dsimp only [st]
    split
    · exact hf60
    · exact hs60
  have hstr : ∀ z ∈ st, atI (r.map D.int) z = some (.int (rowAt r z)) := fun z hz => by
    dsimp only [st] at hz
    split at hz
    · exact rowAt_lt K.V H K.len hz
    · exact rowAt_lt2 K.V H K.len hz
  have eS : D_law_size [.int (lowI r f), .int (highI r s), .int h, .int side] p = .ok (.int (sizeT (lowI r f) (highI r s) h side)) p := by
    unfold sizeT
    rcases hs with rfl | rfl
    · exact law_size1_ev _ _ _ p
    · exact law_size2_ev _ _ _ p
  let told : D := .tup [.int (min (sizeT (lowI r f) (highI r s) h side / 2) (chipsT k h side)), .bl (decide (sizeT (lowI r f) (highI r s) h side % 2 = 1)), .int (stepI r st aim)]
  obtain ⟨w, hw⟩ : ∃ w, w = winsT (lowI r f) (highI r s) h side := ⟨_, rfl⟩
  obtain ⟨z, hz⟩ : ∃ z, z = sizeT (lowI r f) (highI r s) h side := ⟨_, rfl⟩
  have X : Option Den.L := dd (.int (lowI r f))
  let sx : Option Den.L := dd (.int (lowI r f))
  let sy : Option Den.L := dd (.int (highI r s))
  let sz : Option Den.L := dd (.int z)
  let sc : Option Den.L := dd (.int (chipsT k h side))
  let sa : Option Den.L := dd (.int aim)
  let ss : Option Den.L := dd (dI st)
  let sp : Option Den.L := dd (.int (stepI r st aim))
  let so : Option Den.L := dd told
  rw [← hw] at fits ⊢
  have T1 : b_law_one_side_01 (SSd A wb k r i h side w none none none none none none none none none none none) p = .nx (SSd A wb k r i h side w sx none none none none none none none none none none) p := by simp [b_law_one_side_01, mvar, e1, sx]
  have T2 : b_law_one_side_02 (SSd A wb k r i h side w sx none none none none none none none none none none) p = .nx (SSd A wb k r i h side w sx sy none none none none none none none none none) p := by simp [b_law_one_side_02, mvar, e2, sy]
  have T3 : b_law_one_side_03 (SSd A wb k r i h side w sx sy none none none none none none none none none) p = .nx (SSd A wb k r i h side w sx sy sz none none none none none none none none) p := by simp [b_law_one_side_03, mvar, eS, sx, sy, sz, hz]
  have T4 : b_law_one_side_04 (SSd A wb k r i h side w sx sy sz none none none none none none none none) p = .nx (SSd A wb k r i h side w sx sy sz (dd (.int (h / 2))) none none none none none none none) p := by simp [b_law_one_side_04, mvar, div2]
  have T5 : sasg (mvar 8) (gset 12) (SSd A wb k r i h side w sx sy sz (dd (.int (h / 2))) none none none none none none none) p = .nx (SSd A wb k r i h side w sx sy sz (dd (.int (h / 2))) sx none none none none none none) p := by simp [mvar, sx]
  have T6 : b_law_one_side_06 (SSd A wb k r i h side w sx sy sz (dd (.int (h / 2))) sx none none none none none none) p = .nx (SSd A wb k r i h side w sx sy sz (dd (.int (h / 2))) sx (dd (dI f)) none none none none none) p := by simp [b_law_one_side_06, mvar, enc0, H.f2]
  have T7 : b_law_one_side_07 (SSd A wb k r i h side w sx sy sz (dd (.int (h / 2))) sx (dd (dI f)) none none none none none) p = .nx (SSd A wb k r i h side w sx sy sz sc sa ss none none none none none) p := by
    rcases hs with rfl | rfl
    · simp [b_law_one_side_07, mvar, sc, sa, ss, chipsT, st, aim, sx]
    · simp [b_law_one_side_07, b_law_one_side_07t1, b_law_one_side_07t3, mvar, sc, sa, ss, chipsT, st, aim, sy, enc1, H.s2]
  have c1 : c_law_one_side_1 (SSd A wb k r i h side w sx sy sz sc sa ss none none none none none) p = .ok ((st.filter fun z => decide (rowAt r z = aim)).map D.int) p := by
    unfold c_law_one_side_1
    rw [mcomp_ev (ds := st.map D.int) (p' := p) (by simp [mvar, ss, dI]) (by rw [List.length_map]; omega)]
    refine comp_filterL (by simp) D.int _ (fun z hz => ?_) fun z hz => by simp [mvar]
    have := hstr z hz
    simp [mvar, sa, dI, this]
  have T8 : b_law_one_side_08 (SSd A wb k r i h side w sx sy sz sc sa ss none none none none none) p = .nx (SSd A wb k r i h side w sx sy sz sc sa ss sp none none none none) p := by
    unfold b_law_one_side_08
    rw [sasg_ev, opn_ev, acons_ev, mfreeze_ev, c1]
    simp only [bind_ok, anil_ev, fMinL_step hst, mlift_some, toO_ok]
    rfl
  have T9 : b_law_one_side_09 A (SSd A wb k r i h side w sx sy sz sc sa ss sp none none none none) p = .nx (SSd A wb k r i h side w sx sy sz sc sa ss sp so none none none) p := by
    rcases hs with rfl | rfl
    · have e := token_first_ev A K H hne p
      have et : told = .tup [.int (min (sz1 (highI r s) h / 2) (h / 2)), .bl (decide (sz1 (highI r s) h % 2 = 1)), .int (stepI r f (lowI r f))] := by simp [told, sizeT, chipsT, st, aim]
      have em : mtest (op2 fEq (mvar 6) (mret (D.int 1))) (SSd A wb k r i h 1 w sx sy sz sc sa ss sp none none none none) p = .ok true p := by simp [mvar]
      unfold b_law_one_side_09
      rw [sif_t em, sasg_ev, mcall_ev]
      simp only [acons_ev, anil_ev, mvar, List.getElem?_cons_succ, List.getElem?_cons_zero, bind_ok, e, toO_ok, so, et]
      rfl
    · have e := token_second_ev A K H hne p
      have et : told = .tup [.int (min (sz2 (lowI r f) h / 2) (k - h / 2)), .bl (decide (sz2 (lowI r f) h % 2 = 1)), .int (stepI r s (highI r s))] := by simp [told, sizeT, chipsT, st, aim]
      have em : mtest (op2 fEq (mvar 6) (mret (D.int 1))) (SSd A wb k r i h 2 w sx sy sz sc sa ss sp none none none none) p = .ok false p := by simp [mvar]
      unfold b_law_one_side_09
      rw [sif_f em, sasg_ev, mcall_ev]
      simp only [acons_ev, anil_ev, mvar, List.getElem?_cons_succ, List.getElem?_cons_zero, bind_ok, e, toO_ok, so, et]
      rfl
  have t1 : ∀ ds : List D, fIs1 [.tup ds, D.ty Ty.tup] = some (.bl true) := fun _ => rfl
  have t2 : ∀ b : Bool, fIs1 [.bl b, D.ty Ty.bl] = some (.bl true) := fun _ => rfl
  have T10 : b_law_one_side_10 (SSd A wb k r i h side w sx sy sz sc sa ss sp so none none none) p = .nx (SSd A wb k r i h side w sx sy sz sc sa ss sp so none none none) p := by
    have ef := fEqD_ibi (min (z / 2) (chipsT k h side)) (decide (z % 2 = 1)) (stepI r st aim)
    simp [b_law_one_side_10, mvar, so, told, sz, sc, sp, t1, div2, mod2, fMin2_mn, -fMin2_int, ← hz, ef]
  have T11 : b_law_one_side_11 (SSd A wb k r i h side w sx sy sz sc sa ss sp so none none none) p = .nx (SSd A wb k r i h side w sx sy sz sc sa ss sp so none none none) p := by
    have a2 : ∀ a b c : D, atI [a, b, c] 2 = some c := fun a b c => atI_nat (j := 2) rfl
    simp [b_law_one_side_11, mvar, so, told, is_integer_int, t2, a2]
  obtain ⟨l', q, e12, rfl, o17, o18, o19, rfl⟩ := loop_run (tg := gset 17) (body := L_law_one_side_12 A)
    (fun (_ : Nat) (l : Den.Loc) (q : List Int) => q = p ∧ ∃ o17 o18 o19, l = SSd A wb k r i h side w sx sy sz sc sa ss sp so o17 o18 o19)
    (ds := L.map encB) (k := 0) (l := SSd A wb k r i h side w sx sy sz sc sa ss sp so none none none) (p := p) ⟨rfl, _, _, _, rfl⟩ (fun j d l q hd hI => by
      obtain ⟨rfl, o17, o18, o19, rfl⟩ := hI
      obtain ⟨bt, hbt, rfl⟩ := List.mem_map.mp (List.mem_of_getElem? hd)
      have B := (hL bt.1 bt.2).mp hbt
      obtain ⟨o18', o19', e⟩ := one_turn A K H hne hs xy B sc sa ss sp so o18 o19 q
      rw [← hw, ← hz] at e
      exact ⟨_, rfl, _, q, .inl e, rfl, _, _, _, rfl⟩)
  have T12 : b_law_one_side_12 A (SSd A wb k r i h side w sx sy sz sc sa ss sp so none none none) q = .nx (SSd A wb k r i h side w sx sy sz sc sa ss sp so o17 o18 o19) q := by
    unfold b_law_one_side_12
    rw [sfor_ev]
    simp only [mbind_ev, mcall_ev, acons_ev, mvar, List.getElem?_cons_succ, List.getElem?_cons_zero, bind_ok, anil_ev, eL, lstOf_lst, mlift_some, toO_ok]
    exact e12
  unfold D_law_one_side
  rw [denF_ev (by rfl)]
  show outR (dn_law_one_side A (SSd A wb k r i h side w none none none none none none none none none none none) q) = _
  unfold dn_law_one_side
  rw [seq_nx T1, seq_nx T2, seq_nx T3, seq_nx T4, seq_nx T5, seq_nx T6, seq_nx T7, seq_nx T8, seq_nx T9, seq_nx T10, seq_nx T11, seq_nx T12]
  rw [← hz] at fits
  cases hww : w with
  | false => simp [b_law_one_side_13, vnotT, mvar]
  | true =>
    have := fits hww
    simp [b_law_one_side_13, vnotT, mvar, sz, sc, div2, this]
end
end PL
namespace PL
open PySem L2 Den
def tk : Nat → Str
  | 0 => "kind"
  | 1 => "number"
  | 2 => "web"
  | 3 => "much"
  | 4 => "text"
  | _ => "deed"
section
variable (A : CA) {wb : Wb}
theorem ref56_0 {w k r i h sd b t : D} {p : List Int} {c : Nat} (hc : c = 0 ∨ c = 1 ∨ c = 2 ∨ c = 5) (e : D_token_first A [w, k, r, i, h] p = .err c p) : D_law_refused_k56 A [.int 0, w, k, r, i, h, sd, b, t] p = .ok (.str (tk c)) p := by
  rcases hc with rfl | rfl | rfl | rfl <;> simp [D_law_refused_k56, denF, dn_law_refused_k56, b_law_refused_k56_2, b_law_refused_k56_2y1, locOf, mvar, stryB, handle, e, noE, tk]
theorem ref56_1 {w k r i h sd b t : D} {p : List Int} {c : Nat} (hc : c = 0 ∨ c = 1 ∨ c = 2 ∨ c = 5) (e : D_token_second A [w, k, r, i, h] p = .err c p) : D_law_refused_k56 A [.int 1, w, k, r, i, h, sd, b, t] p = .ok (.str (tk c)) p := by
  rcases hc with rfl | rfl | rfl | rfl <;> simp [D_law_refused_k56, denF, dn_law_refused_k56, b_law_refused_k56_2, b_law_refused_k56_2y1, b_law_refused_k56_2y2, locOf, mvar, stryB, handle, e, noE, tk]
theorem ref56_2 {w k r i h sd b t : D} {p : List Int} {c : Nat} (hc : c = 0 ∨ c = 1 ∨ c = 2 ∨ c = 5) (e : D_token_serves A [w, k, r, i, h, sd, b, t] p = .err c p) : D_law_refused_k56 A [.int 2, w, k, r, i, h, sd, b, t] p = .ok (.str (tk c)) p := by
  rcases hc with rfl | rfl | rfl | rfl <;> simp [D_law_refused_k56, denF, dn_law_refused_k56, b_law_refused_k56_2, b_law_refused_k56_2y1, b_law_refused_k56_2y2, b_law_refused_k56_2y3, locOf, mvar, stryB, handle, e, noE, tk]
theorem first_err {w k r i h : D} {p : List Int} {c : Nat} (e : D_check_token_bid A [w, k, r, i, h] p = .err c p) : D_token_first A [w, k, r, i, h] p = .err c p := by
  simp [D_token_first, denF, dn_token_first, b_token_first_1, locOf, mvar, e]
theorem second_err {w k r i h : D} {p : List Int} {c : Nat} (e : D_check_token_bid A [w, k, r, i, h] p = .err c p) : D_token_second A [w, k, r, i, h] p = .err c p := by
  simp [D_token_second, denF, dn_token_second, b_token_second_1, locOf, mvar, e]
/-- one refusal for all three questions -/
theorem ref56 {w k r i h sd b t : D} {p : List Int} {c : Nat} (hc : c = 0 ∨ c = 1 ∨ c = 2 ∨ c = 5) (e1 : D_check_token_bid A [w, k, r, i, h] p = .err c p) (e2 : D_token_serves A [w, k, r, i, h, sd, b, t] p = .err c p) {what : Int} (h0 : 0 ≤ what) (h3 : what < 3) :
    D_law_refused_k56 A [.int what, w, k, r, i, h, sd, b, t] p = .ok (.str (tk c)) p := by
  have : what = 0 ∨ what = 1 ∨ what = 2 := by omega
  rcases this with rfl | rfl | rfl
  · exact ref56_0 A hc (first_err A e1)
  · exact ref56_1 A hc (second_err A e1)
  · exact ref56_2 A hc e2
variable {r : List Int} (hl : r.length ≤ 1000) (k i h : Int) (p : List Int)
include hl
theorem bid_even (ev : evB wb = false) : D_check_token_bid A [insW A wb, .int k, dI r, .int i, .int h] p = .err 2 p := by
  have e1 := token_kinds_ev A (wb := wb) (.inl rfl : IsRow (dI r) r) hl k p
  have e2 := whole2 i h p
  have e4 := check_even_ev A (wb := wb) p
  rw [if_neg (by rw [ev]; decide)] at e4
  simp [D_check_token_bid, denF, dn_check_token_bid, b_check_token_bid_1, b_check_token_bid_2, b_check_token_bid_3, locOf, mvar, e1, e2, e4]
theorem bid_row (ev : evB wb = true) (hn : ¬ (0 ≤ k ∧ (r.length : Int) = wb.marks.length ∧ Parts r (2 * (k + 1)))) : D_check_token_bid A [insW A wb, .int k, dI r, .int i, .int h] p = .err 1 p := by
  have e1 := token_kinds_ev A (wb := wb) (.inl rfl : IsRow (dI r) r) hl k p
  have e2 := whole2 i h p
  have e4 := check_even_ev A (wb := wb) p
  rw [if_pos ev] at e4
  have e5 := token_row_ev A (wb := wb) (.inl rfl : IsRow (dI r) r) k p
  rw [if_neg hn] at e5
  simp [D_check_token_bid, denF, dn_check_token_bid, b_check_token_bid_1, b_check_token_bid_2, b_check_token_bid_3, b_check_token_bid_4, locOf, mvar, e1, e2, e4, e5]
theorem bid_hold (ev : evB wb = true) (hn : 0 ≤ k ∧ (r.length : Int) = wb.marks.length ∧ Parts r (2 * (k + 1))) (hh : ¬ ((0 ≤ i ∧ i ≤ (wb.marks.length : Int) - 1) ∧ 0 ≤ h ∧ h ≤ 2 * k + 1)) : D_check_token_bid A [insW A wb, .int k, dI r, .int i, .int h] p = .err 1 p := by
  have e1 := token_kinds_ev A (wb := wb) (.inl rfl : IsRow (dI r) r) hl k p
  have e2 := whole2 i h p
  have e4 := check_even_ev A (wb := wb) p
  rw [if_pos ev] at e4
  have e5 := token_row_ev A (wb := wb) (.inl rfl : IsRow (dI r) r) k p
  rw [if_pos hn] at e5
  have e6 := holding_ev A (wb := wb) k i h p
  rw [if_neg hh] at e6
  simp [D_check_token_bid, denF, dn_check_token_bid, b_check_token_bid_1, b_check_token_bid_2, b_check_token_bid_3, b_check_token_bid_4, b_check_token_bid_5, locOf, mvar, e1, e2, e4, e5, e6]
theorem bid_ends (ev : evB wb = true) (hn : 0 ≤ k ∧ (r.length : Int) = wb.marks.length ∧ Parts r (2 * (k + 1))) (hh : (0 ≤ i ∧ i ≤ (wb.marks.length : Int) - 1) ∧ 0 ≤ h ∧ h ≤ 2 * k + 1) {s : List Int} {mk : Int} (H : Here wb i [] s mk) : D_check_token_bid A [insW A wb, .int k, dI r, .int i, .int h] p = .err 2 p := by
  have e1 := token_kinds_ev A (wb := wb) (.inl rfl : IsRow (dI r) r) hl k p
  have e2 := whole2 i h p
  have e4 := check_even_ev A (wb := wb) p
  rw [if_pos ev] at e4
  have e5 := token_row_ev A (wb := wb) (.inl rfl : IsRow (dI r) r) k p
  rw [if_pos hn] at e5
  have e6 := holding_ev A (wb := wb) k i h p
  rw [if_pos hh] at e6
  have e7 := check_moving_no A H p
  simp [D_check_token_bid, denF, dn_check_token_bid, b_check_token_bid_1, b_check_token_bid_2, b_check_token_bid_3, b_check_token_bid_4, b_check_token_bid_5, b_check_token_bid_6, locOf, mvar, e1, e2, e4, e5, e6, e7]
abbrev SVs (wb : Wb) (k : Int) (r : List Int) (i h side b : Int) (t : D) : Den.Loc := [dd (insW A wb), dd (.int k), dd (dI r), dd (.int i), dd (.int h), dd (.int side), dd (.int b), dd t, none, none, none, none, none, none, none]
omit hl in
theorem sv_start {side b : Int} {t : D} : D_token_serves A [insW A wb, .int k, dI r, .int i, .int h, .int side, .int b, t] p = outR (dn_token_serves A (SVs A wb k r i h side b t) p) := denF_ev (by rfl)
theorem sv1 (side b : Int) (t : D) : b_token_serves_01 A (SVs A wb k r i h side b t) p = .nx (SVs A wb k r i h side b t) p := by
  have e1 := token_kinds_ev A (wb := wb) (.inl rfl : IsRow (dI r) r) hl k p
  simp [b_token_serves_01, mvar, e1]
omit hl in
theorem sv2 (side b : Int) (t : D) : b_token_serves_02 (SVs A wb k r i h side b t) p = .nx (SVs A wb k r i h side b t) p := by
  simp [b_token_serves_02, mvar, whole4]
omit hl in
theorem sv3 (side b : Int) (t : Bool) : b_token_serves_03 (SVs A wb k r i h side b (.bl t)) p = .nx (SVs A wb k r i h side b (.bl t)) p := by
  have q : fIs1 [.bl t, D.ty Ty.bl] = some (.bl true) := rfl
  simp [b_token_serves_03, mvar, q]
omit hl in
theorem sv4 (side b : Int) (t : D) (ev : evB wb = true) : b_token_serves_04 A (SVs A wb k r i h side b t) p = .nx (SVs A wb k r i h side b t) p := by
  have e4 := check_even_ev A (wb := wb) p
  rw [if_pos ev] at e4
  simp [b_token_serves_04, mvar, e4]
omit hl in
theorem sv5 (side b : Int) (t : D) (hn : 0 ≤ k ∧ (r.length : Int) = wb.marks.length ∧ Parts r (2 * (k + 1))) : b_token_serves_05 A (SVs A wb k r i h side b t) p = .nx (SVs A wb k r i h side b t) p := by
  have e5 := token_row_ev A (wb := wb) (.inl rfl : IsRow (dI r) r) k p
  rw [if_pos hn] at e5
  simp [b_token_serves_05, mvar, e5]
omit hl in
theorem sv6 (side b : Int) (t : D) (hh : (0 ≤ i ∧ i ≤ (wb.marks.length : Int) - 1) ∧ 0 ≤ h ∧ h ≤ 2 * k + 1) : b_token_serves_06 A (SVs A wb k r i h side b t) p = .nx (SVs A wb k r i h side b t) p := by
  have e6 := holding_ev A (wb := wb) k i h p
  rw [if_pos hh] at e6
  simp [b_token_serves_06, mvar, e6]
omit hl in
theorem sv7 {side : Int} (b : Int) (t : D) (hs : side = 1 ∨ side = 2) : b_token_serves_07 (SVs A wb k r i h side b t) p = .nx (SVs A wb k r i h side b t) p := by
  have e7 := one_or_two_ok hs p
  simp [b_token_serves_07, mvar, e7]
omit hl in
theorem sv8 {side b : Int} (t : D) (hs : side = 1 ∨ side = 2) (hb : 0 ≤ b ∧ b ≤ chipsT k h side) : b_token_serves_08 (SVs A wb k r i h side b t) p = .nx (SVs A wb k r i h side b t) p := by
  have e8 := check_range_ev b 0 (chipsT k h side) p
  rw [if_pos hb] at e8
  rcases hs with rfl | rfl
  · have e8' : D_check_range [.int b, .int 0, .int (h / 2)] p = .ok .non p := e8
    simp [b_token_serves_08, mvar, div2, e8']
  · have e8' : D_check_range [.int b, .int 0, .int (k - h / 2)] p = .ok .non p := e8
    simp [b_token_serves_08, mvar, div2, e8']
theorem serves_takes (side b t : Int) : D_token_serves A [insW A wb, .int k, dI r, .int i, .int h, .int side, .int b, .int t] p = .err 0 p := by
  rw [sv_start]
  unfold dn_token_serves
  have q : fIs1 [.int t, D.ty Ty.bl] = some (.bl false) := rfl
  have T : b_token_serves_03 (SVs A wb k r i h side b (.int t)) p = .err 0 (SVs A wb k r i h side b (.int t)) p := by simp [b_token_serves_03, mvar, q]
  rw [seq_nx (sv1 A hl k i h p _ _ _), seq_nx (sv2 A k i h p _ _ _), sseq_ev, T]
  rfl
theorem serves_even (side b : Int) (t : Bool) (ev : evB wb = false) : D_token_serves A [insW A wb, .int k, dI r, .int i, .int h, .int side, .int b, .bl t] p = .err 2 p := by
  rw [sv_start]
  unfold dn_token_serves
  have e4 := check_even_ev A (wb := wb) p
  rw [if_neg (by rw [ev]; decide)] at e4
  have T : b_token_serves_04 A (SVs A wb k r i h side b (.bl t)) p = .err 2 (SVs A wb k r i h side b (.bl t)) p := by simp [b_token_serves_04, mvar, e4]
  rw [seq_nx (sv1 A hl k i h p _ _ _), seq_nx (sv2 A k i h p _ _ _), seq_nx (sv3 A k i h p _ _ _), sseq_ev, T]
  rfl
theorem serves_row (side b : Int) (t : Bool) (ev : evB wb = true) (hn : ¬ (0 ≤ k ∧ (r.length : Int) = wb.marks.length ∧ Parts r (2 * (k + 1)))) : D_token_serves A [insW A wb, .int k, dI r, .int i, .int h, .int side, .int b, .bl t] p = .err 1 p := by
  rw [sv_start]
  unfold dn_token_serves
  have e5 := token_row_ev A (wb := wb) (.inl rfl : IsRow (dI r) r) k p
  rw [if_neg hn] at e5
  have T : b_token_serves_05 A (SVs A wb k r i h side b (.bl t)) p = .err 1 (SVs A wb k r i h side b (.bl t)) p := by simp [b_token_serves_05, mvar, e5]
  rw [seq_nx (sv1 A hl k i h p _ _ _), seq_nx (sv2 A k i h p _ _ _), seq_nx (sv3 A k i h p _ _ _), seq_nx (sv4 A k i h p _ _ _ ev), sseq_ev, T]
  rfl
theorem serves_hold (side b : Int) (t : Bool) (ev : evB wb = true) (hn : 0 ≤ k ∧ (r.length : Int) = wb.marks.length ∧ Parts r (2 * (k + 1))) (hh : ¬ ((0 ≤ i ∧ i ≤ (wb.marks.length : Int) - 1) ∧ 0 ≤ h ∧ h ≤ 2 * k + 1)) : D_token_serves A [insW A wb, .int k, dI r, .int i, .int h, .int side, .int b, .bl t] p = .err 1 p := by
  rw [sv_start]
  unfold dn_token_serves
  have e6 := holding_ev A (wb := wb) k i h p
  rw [if_neg hh] at e6
  have T : b_token_serves_06 A (SVs A wb k r i h side b (.bl t)) p = .err 1 (SVs A wb k r i h side b (.bl t)) p := by simp [b_token_serves_06, mvar, e6]
  rw [seq_nx (sv1 A hl k i h p _ _ _), seq_nx (sv2 A k i h p _ _ _), seq_nx (sv3 A k i h p _ _ _), seq_nx (sv4 A k i h p _ _ _ ev), seq_nx (sv5 A k i h p _ _ _ hn), sseq_ev, T]
  rfl
theorem serves_side {side : Int} (b : Int) (t : Bool) (hs : ¬ (side = 1 ∨ side = 2)) (ev : evB wb = true) (hn : 0 ≤ k ∧ (r.length : Int) = wb.marks.length ∧ Parts r (2 * (k + 1))) (hh : (0 ≤ i ∧ i ≤ (wb.marks.length : Int) - 1) ∧ 0 ≤ h ∧ h ≤ 2 * k + 1) : D_token_serves A [insW A wb, .int k, dI r, .int i, .int h, .int side, .int b, .bl t] p = .err 1 p := by
  rw [sv_start]
  unfold dn_token_serves
  have e7 := one_or_two_no hs p
  have T : b_token_serves_07 (SVs A wb k r i h side b (.bl t)) p = .err 1 (SVs A wb k r i h side b (.bl t)) p := by simp [b_token_serves_07, mvar, e7]
  rw [seq_nx (sv1 A hl k i h p _ _ _), seq_nx (sv2 A k i h p _ _ _), seq_nx (sv3 A k i h p _ _ _), seq_nx (sv4 A k i h p _ _ _ ev), seq_nx (sv5 A k i h p _ _ _ hn), seq_nx (sv6 A k i h p _ _ _ hh), sseq_ev, T]
  rfl
theorem serves_bid {b : Int} (t : Bool) (hb : ¬ (0 ≤ b ∧ b ≤ h / 2)) (ev : evB wb = true) (hn : 0 ≤ k ∧ (r.length : Int) = wb.marks.length ∧ Parts r (2 * (k + 1))) (hh : (0 ≤ i ∧ i ≤ (wb.marks.length : Int) - 1) ∧ 0 ≤ h ∧ h ≤ 2 * k + 1) : D_token_serves A [insW A wb, .int k, dI r, .int i, .int h, .int 1, .int b, .bl t] p = .err 1 p := by
  rw [sv_start]
  unfold dn_token_serves
  have e8 := check_range_ev b 0 (h / 2) p
  rw [if_neg hb] at e8
  have T : b_token_serves_08 (SVs A wb k r i h 1 b (.bl t)) p = .err 1 (SVs A wb k r i h 1 b (.bl t)) p := by simp [b_token_serves_08, mvar, div2, e8]
  rw [seq_nx (sv1 A hl k i h p _ _ _), seq_nx (sv2 A k i h p _ _ _), seq_nx (sv3 A k i h p _ _ _), seq_nx (sv4 A k i h p _ _ _ ev), seq_nx (sv5 A k i h p _ _ _ hn), seq_nx (sv6 A k i h p _ _ _ hh), seq_nx (sv7 A k i h p _ _ (.inl rfl)), sseq_ev, T]
  rfl
theorem serves_end {side b : Int} (t : Bool) (hs : side = 1 ∨ side = 2) (hb : 0 ≤ b ∧ b ≤ chipsT k h side) (ev : evB wb = true) (hn : 0 ≤ k ∧ (r.length : Int) = wb.marks.length ∧ Parts r (2 * (k + 1))) (hh : (0 ≤ i ∧ i ≤ (wb.marks.length : Int) - 1) ∧ 0 ≤ h ∧ h ≤ 2 * k + 1) {s : List Int} {mk : Int} (H : Here wb i [] s mk) : D_token_serves A [insW A wb, .int k, dI r, .int i, .int h, .int side, .int b, .bl t] p = .err 2 p := by
  rw [sv_start]
  unfold dn_token_serves
  have e9 := check_moving_no A H p
  have T : b_token_serves_09 A (SVs A wb k r i h side b (.bl t)) p = .err 2 (SVs A wb k r i h side b (.bl t)) p := by simp [b_token_serves_09, mvar, e9]
  rw [seq_nx (sv1 A hl k i h p _ _ _), seq_nx (sv2 A k i h p _ _ _), seq_nx (sv3 A k i h p _ _ _), seq_nx (sv4 A k i h p _ _ _ ev), seq_nx (sv5 A k i h p _ _ _ hn), seq_nx (sv6 A k i h p _ _ _ hh), seq_nx (sv7 A k i h p _ _ hs), seq_nx (sv8 A k i h p _ hs hb), sseq_ev, T]
  rfl
theorem serves_deed {side b : Int} (hs : side = 1 ∨ side = 2) (hb : 0 ≤ b ∧ b ≤ chipsT k h side) (ev : evB wb = true) (hn : 0 ≤ k ∧ (r.length : Int) = wb.marks.length ∧ Parts r (2 * (k + 1))) (hh : (0 ≤ i ∧ i ≤ (wb.marks.length : Int) - 1) ∧ 0 ≤ h ∧ h ≤ 2 * k + 1) {f s : List Int} {mk : Int} (H : Here wb i f s mk) (hne : f ≠ []) (hd : ¬ h % 2 = 2 - side) : D_token_serves A [insW A wb, .int k, dI r, .int i, .int h, .int side, .int b, .bl true] p = .err 5 p := by
  rw [sv_start]
  unfold dn_token_serves
  have e9 := check_moving_ok A H hne p
  have T9 : b_token_serves_09 A (SVs A wb k r i h side b (.bl true)) p = .nx (SVs A wb k r i h side b (.bl true)) p := by simp [b_token_serves_09, mvar, e9]
  have T : b_token_serves_10 (SVs A wb k r i h side b (.bl true)) p = .err 5 (SVs A wb k r i h side b (.bl true)) p := by simp [b_token_serves_10, mvar, mod2, hd]
  rw [seq_nx (sv1 A hl k i h p _ _ _), seq_nx (sv2 A k i h p _ _ _), seq_nx (sv3 A k i h p _ _ _), seq_nx (sv4 A k i h p _ _ _ ev), seq_nx (sv5 A k i h p _ _ _ hn), seq_nx (sv6 A k i h p _ _ _ hh), seq_nx (sv7 A k i h p _ _ hs), seq_nx (sv8 A k i h p _ hs hb), seq_nx T9, sseq_ev, T]
  rfl
end
end PL
namespace PL
open PySem L2 Den
def unW : Wb := ⟨[[], [], [0, 1]], [[], [], [1]], [1, 1, 2], [some (true, 0), none, none]⟩
theorem unW_valid : Valid unW := by
  refine ⟨by decide, by decide, rfl, rfl, rfl, by decide, by decide, ?_, by decide, ?_⟩
  · intro i a b h1 h2
    match i, h1, h2 with
    | 0, h1, h2 => cases h1; cases h2; rfl
    | 1, h1, h2 => cases h1; cases h2; rfl
    | 2, h1, h2 => cases h1; cases h2; rfl
    | n + 3, h1, h2 => cases h1
  · intro d hd b x e
    have : d = some (true, 0) ∨ d = none ∨ d = none := by simpa [unW] using hd
    rcases this with rfl | rfl | rfl
    · cases e; omega
    · cases e
    · cases e
theorem unW_ev : evB unW = false := by first | rfl | kernel_rfl | decide +kernel
theorem cut_last56 (r : List Int) (i : Nat) (l : Den.Loc) (p : List Int) (h : l[i]? = some (some (.dat (dI r)))) : mcut (mvar i) onone (osome (op1 fNeg (mret (D.int 1)))) l p = .ok ((r.take (r.length - 1)).map D.int) p := by
  unfold mcut
  rw [mbind_ok (mvar_ev h)]
  show R.ok (cutD (r.map D.int) none (some (-1))) p = _
  rw [cut_last, List.length_map, List.map_take]
section
variable (A : CA) {wb : Wb}
abbrev SBd (wb : Wb) (k : Int) (r : List Int) (i kd wh h : Int) (o9 o10 o12 : Option L) : Den.Loc := [dd .pot, dd (.lst (encW wb)), dd (insW A wb), dd (.int k), dd (dI r), dd (.int i), dd (.int kd), dd (.int wh), dd (.int h), o9, o10, none, o12]
theorem tk1 : fEq (.str (tk 1)) (.str "number") = some (.bl true) := by rw [fEq_str]; rfl
theorem tk1n : fNe (.str (tk 1)) (.str "number") = some (.bl false) := by
  show some (D.bl _) = _
  rfl
theorem tk5 : fEq (.str (tk 5)) (.str "deed") = some (.bl true) := by rw [fEq_str]; rfl
theorem tk0 : fEq (.str (tk 0)) (.str "kind") = some (.bl true) := by rw [fEq_str]; rfl
theorem tk2 : fEq (.str (tk 2)) (.str "web") = some (.bl true) := by rw [fEq_str]; rfl
theorem mul3 (z : Int) : fMul (.int 3) (.int z) = some (.int (3 * z)) := fMul_int (.inl (by decide))
theorem law_bad56_ev (V : Valid wb) (hev : evB wb = true) {k i : Int} {r : List Int} {f s : List Int} {mk : Int} (k0 : 0 ≤ k) (k9 : k ≤ 200) (hl : r.length = wb.marks.length) (hp : Parts r (2 * (k + 1))) (H : Here wb i f s mk) (hne : f ≠ []) (p : List Int) :
    ∃ q, D_law_bad_k56 A [.pot, .lst (encW wb), insW A wb, .int k, dI r, .int i] p = .ok (.bl true) q := by
  obtain ⟨kd, p1, e1, d0, d7⟩ := draw_ev 7 (by decide) p
  obtain ⟨wh, p2, e2, w0, w3⟩ := draw_ev 3 (by decide) p1
  obtain ⟨h, p3, e3, h0, h1⟩ := draw_ev (2 * k + 2) (by omega) p2
  have n1 := V.n1
  have n2 := V.n2
  have hl9 : r.length ≤ 1000 := by omega
  have hn : 0 ≤ k ∧ (r.length : Int) = wb.marks.length ∧ Parts r (2 * (k + 1)) := ⟨k0, by rw [hl], hp⟩
  have hh : (0 ≤ i ∧ i ≤ (wb.marks.length : Int) - 1) ∧ 0 ≤ h ∧ h ≤ 2 * k + 1 := ⟨⟨H.h0, by have := H.h1; omega⟩, h0, by omega⟩
  let S : Int → Int → Int → Den.Loc := fun kd wh h => SBd A wb k r i kd wh h none none none
  have T1 : b_law_bad_k56_01 [dd .pot, dd (.lst (encW wb)), dd (insW A wb), dd (.int k), dd (dI r), dd (.int i), none, none, none, none, none, none, none] p = .nx [dd .pot, dd (.lst (encW wb)), dd (insW A wb), dd (.int k), dd (dI r), dd (.int i), dd (.int kd), none, none, none, none, none, none] p1 := by simp [b_law_bad_k56_01, mvar, e1]
  have T2 : b_law_bad_k56_02 [dd .pot, dd (.lst (encW wb)), dd (insW A wb), dd (.int k), dd (dI r), dd (.int i), dd (.int kd), none, none, none, none, none, none] p1 = .nx [dd .pot, dd (.lst (encW wb)), dd (insW A wb), dd (.int k), dd (dI r), dd (.int i), dd (.int kd), dd (.int wh), none, none, none, none, none] p2 := by simp [b_law_bad_k56_02, mvar, e2]
  have T3 : b_law_bad_k56_03 [dd .pot, dd (.lst (encW wb)), dd (insW A wb), dd (.int k), dd (dI r), dd (.int i), dd (.int kd), dd (.int wh), none, none, none, none, none] p2 = .nx (S kd wh h) p3 := by simp [b_law_bad_k56_03, mvar, mul2, e3, S]
  have skip : ∀ (m : Int) (b : MS), kd ≠ m → sif (mtest (op2 fEq (mvar 6) (mret (D.int m)))) b sskip (S kd wh h) p3 = .nx (S kd wh h) p3 := fun m b hm => by simp [S, mvar, hm]
  have take : ∀ (m : Int) (b : MS), kd = m → sif (mtest (op2 fEq (mvar 6) (mret (D.int m)))) b sskip (S kd wh h) p3 = b (S kd wh h) p3 := fun m b hm => by simp [S, mvar, hm]
  have start : D_law_bad_k56 A [.pot, .lst (encW wb), insW A wb, .int k, dI r, .int i] p = outR ((sseq (b_law_bad_k56_04 A) (sseq (b_law_bad_k56_05 A) (sseq (b_law_bad_k56_06 A) (sseq (b_law_bad_k56_07 A) (sseq (b_law_bad_k56_08 A) (sseq (b_law_bad_k56_09 A) (sseq (b_law_bad_k56_10 A) (b_law_bad_k56_11 A)))))))) (S kd wh h) p3) := by
    unfold D_law_bad_k56
    rw [denF_ev (by rfl)]
    show outR (dn_law_bad_k56 A [dd .pot, dd (.lst (encW wb)), dd (insW A wb), dd (.int k), dd (dI r), dd (.int i), none, none, none, none, none, none, none] p) = _
    unfold dn_law_bad_k56
    rw [seq_nx T1, seq_nx T2, seq_nx T3]
  rw [start]
  by_cases c0 : kd = 0
  · refine ⟨p3, ?_⟩
    have C := cut_last56 r 4 (S kd wh h) p3 rfl
    have ecat : fCat (.lst ((r.take (r.length - 1)).map D.int)) (.lst [.int (2 * k + 3)]) = some (dI (r.take (r.length - 1) ++ [2 * k + 3])) := by
      show (if _ then _ else _) = _
      rw [if_pos (by simp; omega)]
      simp [dI]
    have T4a : b_law_bad_k56_04t1 (S kd wh h) p3 = .nx (SBd A wb k r i kd wh h (dd (dI (r.take (r.length - 1) ++ [2 * k + 3]))) none none) p3 := by
      unfold b_law_bad_k56_04t1
      rw [sasg_ev, op2_ev, mfreeze_ev, C, bind_ok, bind_ok]
      simp only [mfreeze_ev, mshort_ev, acons_ev, op2_ev, mvar, mret_ev, S, List.getElem?_cons_succ, List.getElem?_cons_zero, bind_ok, mul2, mlift_some, fAdd_int, anil_ev, List.length_cons, List.length_nil, Nat.reduceAdd, Nat.reduceLeDiff, if_true, ecat, toO_ok]
      rfl
    have hb : ¬ (0 ≤ k ∧ ((r.take (r.length - 1) ++ [2 * k + 3]).length : Int) = wb.marks.length ∧ Parts (r.take (r.length - 1) ++ [2 * k + 3]) (2 * (k + 1))) := fun z => by
      have := (z.2.2 (2 * k + 3) (by simp)).2
      omega
    have hbl : (r.take (r.length - 1) ++ [2 * k + 3]).length ≤ 1000 := by simp; omega
    have R := ref56 A (sd := .int 1) (b := .int 0) (t := .bl false) (c := 1) (by simp) (bid_row A hbl k i h p3 hev hb) (serves_row A hbl k i h p3 1 0 false hev hb) w0 w3
    unfold b_law_bad_k56_04
    rw [sseq_ev, take 0 _ c0, seq_nx T4a]
    unfold b_law_bad_k56_04t2
    rw [sret_ev]
    simp only [op2_ev, mcall_ev, acons_ev, anil_ev, mvar, mret_ev, List.getElem?_cons_succ, List.getElem?_cons_zero, bind_ok, R, tk1, mlift_some, toO_ok]
    rfl
  have s0 : b_law_bad_k56_04 A (S kd wh h) p3 = .nx (S kd wh h) p3 := skip 0 _ c0
  rw [seq_nx s0]
  by_cases c1 : kd = 1
  · refine ⟨p3, ?_⟩
    have hh2 : ¬ ((0 ≤ i ∧ i ≤ (wb.marks.length : Int) - 1) ∧ 0 ≤ 2 * k + 2 ∧ 2 * k + 2 ≤ 2 * k + 1) := fun z => by omega
    have R := ref56 A (sd := .int 1) (b := .int 0) (t := .bl false) (c := 1) (by simp) (bid_hold A hl9 k i (2 * k + 2) p3 hev hn hh2) (serves_hold A hl9 k i (2 * k + 2) p3 1 0 false hev hn hh2) w0 w3
    unfold b_law_bad_k56_05
    rw [sseq_ev, take 1 _ c1, sret_ev]
    simp only [S, op2_ev, mcall_ev, acons_ev, anil_ev, mvar, mret_ev, List.getElem?_cons_succ, List.getElem?_cons_zero, bind_ok, mul2, mlift_some, fAdd_int, R, tk1, toO_ok]
    rfl
  have s1 : b_law_bad_k56_05 A (S kd wh h) p3 = .nx (S kd wh h) p3 := skip 1 _ c1
  rw [seq_nx s1]
  by_cases c2 : kd = 2
  · obtain ⟨v, p4, e4, v0, v2⟩ := draw_ev 2 (by decide) p3
    refine ⟨p4, ?_⟩
    have hs : ¬ (3 * v = 1 ∨ 3 * v = 2) := by omega
    have R := ref56_2 A (c := 1) (by simp) (serves_side A hl9 k i h p4 0 false hs hev hn hh)
    have hb : ¬ (0 ≤ h / 2 + 1 ∧ h / 2 + 1 ≤ h / 2) := by omega
    have R2 := ref56_2 A (c := 1) (by simp) (serves_bid A hl9 k i h p4 false hb hev hn hh)
    have Ta : b_law_bad_k56_06t1 A (S kd wh h) p3 = .nx (S kd wh h) p4 := by
      unfold b_law_bad_k56_06t1
      rw [sif_ev]
      simp only [S, mtest_ev, op2_ev, mcall_ev, acons_ev, anil_ev, mvar, mret_ev, List.getElem?_cons_succ, List.getElem?_cons_zero, bind_ok, e4, mul3, mlift_some, R, tk1n, boolOf_bl, toO_ok]
      rfl
    unfold b_law_bad_k56_06
    rw [sseq_ev, take 2 _ c2, seq_nx Ta]
    unfold b_law_bad_k56_06t2
    rw [sret_ev]
    simp only [S, op2_ev, mcall_ev, acons_ev, anil_ev, mvar, mret_ev, List.getElem?_cons_succ, List.getElem?_cons_zero, bind_ok, div2, mlift_some, fAdd_int, R2, tk1, toO_ok]
    rfl
  have s2 : b_law_bad_k56_06 A (S kd wh h) p3 = .nx (S kd wh h) p3 := skip 2 _ c2
  rw [seq_nx s2]
  by_cases c3 : kd = 3
  · refine ⟨p3, ?_⟩
    have hsd : 1 + h % 2 = 1 ∨ 1 + h % 2 = 2 := by omega
    have cr := chips_range hsd h0 (show h ≤ 2 * k + 1 by omega)
    have R := ref56_2 A (c := 5) (by simp) (serves_deed A hl9 k i h p3 (b := 0) hsd ⟨by omega, cr.1⟩ hev hn hh H hne (by omega))
    unfold b_law_bad_k56_07
    rw [sseq_ev, take 3 _ c3, sret_ev]
    simp only [S, op2_ev, opn_ev, mcall_ev, acons_ev, anil_ev, mvar, mret_ev, List.getElem?_cons_succ, List.getElem?_cons_zero, bind_ok, fInt_int, mod2, mlift_some, fAdd_int, R, tk5, toO_ok]
    rfl
  have s3 : b_law_bad_k56_07 A (S kd wh h) p3 = .nx (S kd wh h) p3 := skip 3 _ c3
  rw [seq_nx s3]
  by_cases c4 : kd = 4
  · refine ⟨p3, ?_⟩
    have R := ref56_2 A (c := 0) (by simp) (serves_takes A (wb := wb) hl9 k i h p3 1 0 1)
    unfold b_law_bad_k56_08
    rw [sseq_ev, take 4 _ c4, sret_ev]
    simp only [S, op2_ev, mcall_ev, acons_ev, anil_ev, mvar, mret_ev, List.getElem?_cons_succ, List.getElem?_cons_zero, bind_ok, mlift_some, R, tk0, toO_ok]
    rfl
  have s4 : b_law_bad_k56_08 A (S kd wh h) p3 = .nx (S kd wh h) p3 := skip 4 _ c4
  rw [seq_nx s4]
  by_cases c5 : kd = 5
  · refine ⟨p3, ?_⟩
    let fl : List Nat := (List.range wb.marks.length).filter fun j => (wb.first[j]?.getD []).isEmpty
    have l1 := V.l1
    have hrn := rngN (n := r.length) hl9
    rw [rng_nat] at hrn
    have C : c_law_bad_k56_1 (S kd wh h) p3 = .ok (fl.map fun j : Nat => D.int (j : Int)) p3 := by
      unfold c_law_bad_k56_1
      have q : fLen [dI r] = some (.int (r.length : Int)) := by unfold dI; rw [fLen_lst, List.length_map]
      rw [mcomp_ev (ds := (List.range r.length).map fun j : Nat => D.int (j : Int)) (p' := p3) (by simp only [S, mbind_ev, acons_ev, opn_ev, mvar, List.getElem?_cons_succ, List.getElem?_cons_zero, bind_ok, anil_ev, q, mlift_some, hrn]) (by simp; omega), hl]
      refine comp_filterL (by simp [S]) (fun j : Nat => D.int (j : Int)) (fun j => (wb.first[j]?.getD []).isEmpty) (fun j hj => ?_) fun j hj => by simp [S, mvar]
      have hj := List.mem_range.mp hj
      have ef : atI (wb.first.map dI) (j : Int) = some (dI (wb.first[j]?.getD [])) := atI_nat (by rw [List.getElem?_map, List.getElem?_eq_getElem (by omega)]; simp)
      have q2 : fLen [dI (wb.first[j]?.getD [])] = some (.int ((wb.first[j]?.getD []).length : Int)) := by unfold dI; rw [fLen_lst, List.length_map]
      simp only [S, mtest_ev, op2_ev, opn_ev, acons_ev, anil_ev, mvar, mret_ev, List.set_cons_succ, List.set_cons_zero, List.getElem?_cons_succ, List.getElem?_cons_zero, bind_ok, fIx_lst, enc0, mlift_some, ef, q2, fEq_int, boolOf_bl]
      congr 1
      cases wb.first[j]?.getD [] with
      | nil => rfl
      | cons a t => simp; omega
    have Ta : sasg (mfreeze c_law_bad_k56_1) (gset 10) (S kd wh h) p3 = .nx (SBd A wb k r i kd wh h none (dd (.lst (fl.map fun j : Nat => D.int (j : Int)))) none) p3 := by
      rw [sasg_ev, mfreeze_ev, C]
      rfl
    unfold b_law_bad_k56_09
    rw [sseq_ev, take 5 _ c5, seq_nx Ta]
    unfold b_law_bad_k56_09t2
    cases hfl : fl with
    | nil => simp [mvar]
    | cons j t =>
      have hj : j ∈ fl := by rw [hfl]; exact List.mem_cons_self
      obtain ⟨hj1, hj2⟩ := List.mem_filter.mp hj
      have hj1 := List.mem_range.mp hj1
      obtain ⟨f', s', mk', H'⟩ := here_ex V (i := (j : Int)) (by omega) (by omega)
      have e := H'.hf
      rw [Int.toNat_natCast] at e
      rw [e] at hj2
      have : f' = [] := by simpa using hj2
      subst this
      have cr := chips_range (k := k) (h := h) (side := 1) (.inl rfl) h0 (by omega)
      have hhj : (0 ≤ (j : Int) ∧ (j : Int) ≤ (wb.marks.length : Int) - 1) ∧ 0 ≤ h ∧ h ≤ 2 * k + 1 := ⟨⟨by omega, by omega⟩, h0, by omega⟩
      have R := ref56 A (sd := .int 1) (b := .int 0) (t := .bl false) (c := 2) (by simp) (bid_ends A hl9 k j h p3 hev hn hhj H') (serves_end A hl9 k j h p3 (b := 0) false (.inl rfl) ⟨by omega, cr.1⟩ hev hn hhj H') w0 w3
      have q0 : ¬ ((t.length : Int) + 1 = 0) := by omega
      simp [mvar, R, tk2, q0]
  have s5 : b_law_bad_k56_09 A (S kd wh h) p3 = .nx (S kd wh h) p3 := skip 5 _ c5
  rw [seq_nx s5]
  refine ⟨p3, ?_⟩
  have B := built9_ev (A := A) unW_valid p3
  have eu : D.lst (encW unW) = .lst [.lst [.lst [], .lst [], .lst [.int 0, .int 1]], .lst [.lst [], .lst [], .lst [.int 1]], .lst [.int 1, .int 1, .int 2], .lst [.tup [.str "chips", .int 0], .non, .non]] := rfl
  rw [eu] at B
  have T10 : b_law_bad_k56_10 A (S kd wh h) p3 = .nx (SBd A wb k r i kd wh h none none (dd (insW A unW))) p3 := by
    simp [b_law_bad_k56_10, S, mvar, B]
  have R := ref56 A (sd := .int 1) (b := .int 0) (t := .bl false) (c := 2) (by simp) (bid_even A (wb := unW) (r := [0]) (by simp) k 9 h p3 unW_ev) (serves_even A (wb := unW) (r := [0]) (by simp) k 9 h p3 1 0 false unW_ev) w0 w3
  have dr : D.lst [.int 0] = dI [0] := rfl
  rw [seq_nx T10]
  simp [b_law_bad_k56_11, mvar, dr, R, tk2]
end
end PL
namespace PL
open PySem L2 Den
theorem lots_even (m n s : Int) (hn : 0 < n) (b : Bool) (fs ss : List (List Int)) (ds : List Due) (o7 o9 o11 : Option L) (hf : fs.length < 1000) (hs : ss.length < 1000) (q : List Int) : ∃ fl o9' q', pLots (Stt m n s true fs ss ds o7 o9 (some (.dat (.bl b))) o11) q = .nx (Stt m n s true (fs ++ [fl]) (ss ++ [fl]) ds o7 o9' (some (.dat (.bl b))) o11) q' ∧ LotOk n fl := by
  have hE : LotOk n [] := ⟨by decide, fun _ h => nomatch h⟩
  cases b with
  | true => exact ⟨[], o9, q, by simp [pLots, mvar, sappend, hf, hs, sbind, dI], hE⟩
  | false =>
    obtain ⟨lo, q1, e1, L1⟩ := lot_ev n hn q
    exact ⟨lo, some (.dat (dI lo)), q1, by simp [pLots, mvar, sappend, hf, hs, sbind, e1]; simp [dI], L1.ok⟩
theorem turn_even (m n s i : Int) (hi : 0 ≤ i) (hn : 0 < n) (k : Nat) (hk : k < 1000) (fs : List (List Int)) (ds : List Due) (G : Grown n k fs fs ds) (o9 o10 o11 : Option L) (q : List Int) : ∃ fs' ds' o9' o10' o11' q', pTurn (Stt m n s true fs fs ds (some (.dat (.int i))) o9 o10 o11) q = .nx (Stt m n s true fs' fs' ds' (some (.dat (.int i))) o9' o10' o11') q' ∧ Grown n (k + 1) fs' fs' ds' := by
  obtain ⟨b, q1, e1⟩ := end_ev m n s i hi true fs fs ds o9 o10 o11 q (sseq pLots (sseq pD0 (sseq pD1 pD2)))
  obtain ⟨fl, o9', q2, e2, h1⟩ := lots_even m n s hn b fs fs ds (some (.dat (.int i))) o9 o11 (by rw [G.lf]; exact hk) (by rw [G.ls]; exact hk) q1
  obtain ⟨d, o11', q3, e3, h4⟩ := dues_ev m n s i true b (fs ++ [fl]) (fs ++ [fl]) ds o9' o11 (by rw [G.ld]; exact hk) q2
  exact ⟨_, _, _, _, _, q3, e1.trans ((sseq_nx _ _ _ _ _ _ e2).trans e3), G.more h1 h1 rfl h4⟩
theorem turns_even (m n s : Int) (hn : 0 < n) (h60 : n ≤ 60) (o7 o9 o10 o11 : Option L) (q : List Int) : ∃ fs ds o7' o9' o10' o11' q', loop (gset 7) pTurn (rngD 0 n.toNat) (Stt m n s true [] [] [] o7 o9 o10 o11) q = .nx (Stt m n s true fs fs ds o7' o9' o10' o11') q' ∧ Grown n n.toNat fs fs ds := by
  obtain ⟨l', q', e1, fs, ds, o7', o9', o10', o11', rfl, G⟩ := loop_run (tg := gset 7) (body := pTurn)
    (fun (k : Nat) (l : Den.Loc) (q : List Int) => ∃ fs ds o7 o9 o10 o11, l = Stt m n s true fs fs ds o7 o9 o10 o11 ∧ Grown n k fs fs ds)
    (ds := rngD 0 n.toNat) (k := 0) (l := Stt m n s true [] [] [] o7 o9 o10 o11) (p := q) ⟨[], [], _, _, _, _, rfl, rfl, rfl, rfl, (fun _ h => nomatch h), (fun _ h => nomatch h), (fun _ h => nomatch h), rfl⟩ (fun i d l q hd hI => by
      obtain ⟨fs, ds, o7, o9, o10, o11, rfl, G⟩ := hI
      obtain ⟨hi, rfl⟩ := rngD_get hd
      obtain ⟨fs', ds', o9', o10', o11', q', e1, G'⟩ := turn_even m n s (0 + (i : Int)) (by omega) hn (0 + i) (by omega) fs ds G o9 o10 o11 q
      exact ⟨_, lset_lt 7 _ _ (by simp), _, q', .inl e1, fs', ds', _, _, _, _, rfl, G'⟩)
  rw [rngD_len, Nat.zero_add] at G
  exact ⟨fs, ds, o7', o9', o10', o11', q', e1, G⟩
theorem web_even_ev (m : Int) (h1 : 1 ≤ m) (p : List Int) : ∃ wb q, D_law_web [.pot, .int m, .bl true] p = .ok (.lst (encW wb)) q ∧ Valid wb ∧ (wb.marks.length : Int) ≤ m ∧ wb.marks.length ≤ 7 ∧ wb.first = wb.second := by
  obtain ⟨n, q1, e1, n1, n2, n3⟩ := menu_ev m h1 p
  obtain ⟨s, q2, e2, s0, s5⟩ := draw_ev 5 (by decide) q1
  have L0 := e1 (S0 m true none none none none none) rfl rfl
  have hrn : rng1 [D.int n] = some (rngD 0 n.toNat) := rng1_int (by omega)
  have main : ∃ fs ds ms q l q', Grown n n.toNat fs fs ds ∧ (ms.length : Int) = n ∧ (∀ m ∈ ms, m = 1 ∨ m = 2) ∧ 
      (sif (mand (mtest (op2 fEq (mvar 4) (mret (D.int 0)))) (mtest (op2 fGe (mvar 3) (mret (D.int 2))))) pPath (sseq (sown (mshort anil) 8) (sfor (mbind (acons (mvar 3) anil) fun x => mlift (rng1 x)) (gset 7) pTurn))) (S0 m true (some (.dat (.int n))) (some (.dat (.int s))) (some (.cell [])) (some (.cell [])) none) q2 = .nx l q' ∧ pLast l q' = .rt (.lst (encW ⟨fs, fs, ms, ds⟩)) q := by
    by_cases hp : s = 0 ∧ 2 ≤ n
    · obtain ⟨hp1, hp2⟩ := hp
      obtain ⟨fs, o7', o9', e3, G⟩ := path_run m n s hp2 (by omega) true none none none none none q2
      obtain ⟨ms, q3, e4, m1, m2⟩ := marks_ev n (by omega) (by omega) q2
      have hc : mand (mtest (op2 fEq (mvar 4) (mret (D.int 0)))) (mtest (op2 fGe (mvar 3) (mret (D.int 2)))) (S0 m true (some (.dat (.int n))) (some (.dat (.int s))) (some (.cell [])) (some (.cell [])) none) q2 = .ok true q2 := by
        simp [mvar, hp1, hp2]
      refine ⟨fs, _, ms, q3, _, q2, G, m1, m2, (sif_t hc).trans e3, ?_⟩
      · simp [pLast, sgive, mvar, e4, encW]
    · obtain ⟨fs, ds, o7', o9', o10', o11', q3, e3, G⟩ := turns_even m n s (by omega) (by omega) none none none none q2
      obtain ⟨ms, q4, e4, m1, m2⟩ := marks_ev n (by omega) (by omega) q3
      refine ⟨fs, ds, ms, q4, _, q3, G, m1, m2, ?_, last_cell m n s true fs fs ds o7' o9' o10' o11' ms q3 q4 e4⟩
      have hc : mand (mtest (op2 fEq (mvar 4) (mret (D.int 0)))) (mtest (op2 fGe (mvar 3) (mret (D.int 2)))) (S0 m true (some (.dat (.int n))) (some (.dat (.int s))) (some (.cell [])) (some (.cell [])) none) q2 = .ok false q2 := by
        by_cases h : s = 0
        · have : ¬ 2 ≤ n := fun h' => hp ⟨h, h'⟩
          simp [mvar, h, this]
        · simp [mvar, h]
      refine (sif_f hc).trans ?_
      refine (seq_nx (l' := Stt m n s true [] [] [] none none none none) (p' := q2) (by simp)).trans ?_
      rw [sfor_ev]
      simp only [mbind_ev, acons_ev, mvar, List.getElem?_cons_succ, List.getElem?_cons_zero, bind_ok, anil_ev, hrn, mlift_some, toO_ok]
      exact e3
  obtain ⟨fs, ds, ms, q, l, q', G, m1, m2, e3, e4⟩ := main
  refine ⟨⟨fs, fs, ms, ds⟩, q, ?_, G.valid n1 (by omega) m1 m2, by show (ms.length : Int) ≤ m; omega, by show ms.length ≤ 7; omega, rfl⟩
  refine (denF_ev (n := 3) (m := 12) (s := dn_law_web) rfl).trans ?_
  refine (congrArg outR ?_).trans (outR_rt _ q)
  rw [pWeb_is]
  refine (seq_nx (l' := S0 m true (some (.dat (.int n))) none none none none) (p' := q1) ?_).trans ?_
  · rw [sasg_ev]
    rw [show locOf 12 [D.pot, D.int m, D.bl true] = S0 m true none none none none none from rfl]
    rw [L0]
    rfl
  refine (seq_nx (l' := S0 m true (some (.dat (.int n))) (some (.dat (.int s))) none none none) (p' := q2) ?_).trans ?_
  · simp [mvar, e2]
  refine (seq_nx (l' := S0 m true (some (.dat (.int n))) (some (.dat (.int s))) (some (.cell [])) none none) (p' := q2) ?_).trans ?_
  · simp
  refine (seq_nx (l' := S0 m true (some (.dat (.int n))) (some (.dat (.int s))) (some (.cell [])) (some (.cell [])) none) (p' := q2) ?_).trans ?_
  · simp
  exact (seq_nx e3).trans e4
section
variable (A : CA) {wb : Wb}
theorem token_due_ev (V : Valid wb) {d : Due} (hd : d ∈ wb.dues) {k : Int} (k0 : 0 ≤ k) (p : List Int) : D_token_due [dDue d, .int k] p = .ok (.int (2 * dueI d k)) p := by
  have e1 := check_due_ok d p
  have e2 := whole1 k p
  have e3 : D_check_due_range [dDue d] p = .ok .non p := by
    have := due_in_range_ok d (fun b x e => (V.du d hd b x e).1) p
    simp [D_check_due_range, denF, dn_check_due_range, locOf, mvar, this]
  have e4 := check_least_ev k 0 p
  rw [if_pos k0] at e4
  have e5 : D_check_due_size [dDue d] p = .ok .non p := by
    have := due_too_great_no d (fun b x e => (V.du d hd b x e).2) p
    simp [D_check_due_size, denF, dn_check_due_size, locOf, mvar, this]
  have e6 : D_due_number [dDue d, .int k] p = .ok (.int (dueI d k)) p := by
    simp [D_due_number, denF, dn_due_number, b_due_number_1, b_due_number_2, b_due_number_3, b_due_number_4, b_due_number_5, b_due_number_6, locOf, mvar, e1, e2, e3, e4, e5, due_at_ev]
  simp [D_token_due, denF, dn_token_due, locOf, mvar, e6, mul2]
def tprI (wb : Wb) (k : Int) (r : List Int) (i : Nat) : Int := if (wb.first[i]?.getD []).isEmpty then 2 * (k + 1) else thI (lowI r (wb.first[i]?.getD [])) (highI r (wb.second[i]?.getD []))
theorem token_price_ev (V : Valid wb) (ev : evB wb = true) {k : Int} (k0 : 0 ≤ k) (k9 : k ≤ 200) {r : List Int} (hl : r.length = wb.marks.length) {i : Nat} (hi : i < wb.marks.length) (p : List Int) : D_token_price A [insW A wb, .int k, dI r, .int i] p = .ok (.int (tprI wb k r i)) p := by
  have n2 := V.n2
  have hr : IsRow (dI r) r := .inl rfl
  have e2 := whole2 k (i : Int) p
  have e3 := whole_row hr (by omega) p
  have e4 := check_even_ev A (wb := wb) p
  rw [if_pos ev] at e4
  have e5 := check_least_ev k 0 p
  rw [if_pos k0] at e5
  have e6 := check_size_ev (r.map .int) (dI r) hr.sq (wb.marks.length : Int) p
  rw [List.length_map, if_pos (by rw [hl])] at e6
  have e7 := check_stand_ev A wb (i : Int) p
  rw [if_pos ⟨by omega, by omega⟩] at e7
  have e8 := check_most_ev k 10000000000000000000000000000000000000000 p
  rw [if_pos (by omega)] at e8
  have e9 : D_token_price_of A [insW A wb, .int k, dI r, .int (i : Int)] p = .ok (.int (tprI wb k r i)) p := by
    obtain ⟨f, s, mk, h⟩ := here_ex V (i := (i : Int)) (by omega) (by omega)
    have a1 := h.hf
    have a2 := h.hs
    rw [Int.toNat_natCast] at a1 a2
    have f1 := h.f1
    unfold tprI
    rw [a1, a2]
    by_cases hne : f = []
    · subst hne
      have : (sortSet ([] : List Int)) = [] := rfl
      simp [D_token_price_of, denF, dn_token_price_of, b_token_price_of_1, locOf, mvar, f1, this, mul2]
    · have hb : (sortSet f).isEmpty = false := by
        cases e : sortSet f with
        | nil => exact absurd e (sortSet_ne hne)
        | cons => rfl
      have hb2 : f.isEmpty = false := by cases f with
        | nil => exact absurd rfl hne
        | cons => rfl
      have l1 := low_eq A V h hne hr hl p
      have l2 := high_eq A V h (h.ne V hne) hr hl p
      simp [D_token_price_of, denF, dn_token_price_of, b_token_price_of_1, b_token_price_of_2, locOf, mvar, f1, hb, hb2, l1, l2, half_of_t]
  simp [D_token_price, denF, dn_token_price, b_token_price_1, b_token_price_2, b_token_price_3, b_token_price_4, b_token_price_5, b_token_price_6, b_token_price_7, b_token_price_8, b_token_price_9, locOf, mvar, check_web_ok, e2, e3, e4, e5, e6, e7, e8, e9]
end
end PL
namespace PL
open PySem L2 Den
section
variable {wb : Wb}
abbrev STr (wb : Wb) (k : Int) (du row : List Int) (o5 o6 o7 o8 o9 : Option L) : Den.Loc := [dd (.lst (encW wb)), dd (.int k), dd (dI du), none, dd (dI row), o5, o6, o7, o8, o9]
theorem token_inner (V : Valid wb) {k : Int} {du row : List Int} (hd : du.length = wb.marks.length) (hl : row.length = wb.marks.length) {j : Nat} (hj : j < wb.marks.length) (acc : List D) (ha : acc.length < 1000) (o5 o8 o9 : Option L) (p : List Int) :
    ∃ (v : Int) (o8' o9' : Option Den.L), L_law_token_row_3l2 (STr wb k du row o5 (some (.cell acc)) (dd (.int j)) o8 o9) p = .nx (STr wb k du row o5 (some (.cell (acc ++ [.int v]))) (dd (.int j)) o8' o9') p := by
  obtain ⟨f, s, mk, H⟩ := here_ex V (i := (j : Int)) (by omega) (by omega)
  have f2 := H.f2
  have q : fLen [dI f] = some (.int (f.length : Int)) := by unfold dI; rw [fLen_lst, List.length_map]
  have ed : fIx (dI du) (.int (j : Int)) = some (.int (du[j]?.getD 0)) := atI_row (by omega)
  have app : ∀ (v : Int) (o9 : Option Den.L), b_law_token_row_3l2l3 (STr wb k du row o5 (some (.cell acc)) (dd (.int j)) (dd (.int v)) o9) p = .nx (STr wb k du row o5 (some (.cell (acc ++ [.int (min (du[j]?.getD 0) v)]))) (dd (.int j)) (dd (.int v)) o9) p := fun v o9 => by
    unfold b_law_token_row_3l2l3
    rw [sappend_ev (ds := acc) rfl ha]
    simp only [opn_ev, acons_ev, op2_ev, mvar, List.getElem?_cons_succ, List.getElem?_cons_zero, bind_ok, ed, mlift_some, anil_ev, fMin2_mn, toO_ok]
    rfl
  have T1 : b_law_token_row_3l2l1 (STr wb k du row o5 (some (.cell acc)) (dd (.int j)) o8 o9) p = .nx (STr wb k du row o5 (some (.cell acc)) (dd (.int j)) (dd (.int (2 * k + 2))) o9) p := by
    simp [b_law_token_row_3l2l1, mvar, mul2]
  unfold L_law_token_row_3l2
  by_cases hne : f = []
  · subst hne
    have T2 : b_law_token_row_3l2l2 (STr wb k du row o5 (some (.cell acc)) (dd (.int j)) (dd (.int (2 * k + 2))) o9) p = .nx (STr wb k du row o5 (some (.cell acc)) (dd (.int j)) (dd (.int (2 * k + 2))) o9) p := by
      simp [b_law_token_row_3l2l2, mvar, enc0, f2, q]
    exact ⟨_, _, _, by rw [seq_nx T1, seq_nx T2, app]⟩
  · have e1 := law_low_ev V H hne hl p
    have e2 := law_high_ev V H (H.ne V hne) hl p
    have hpos : (0 : Int) < (f.length : Int) := by
      have := List.length_pos_iff.mpr hne
      omega
    have T2 : b_law_token_row_3l2l2 (STr wb k du row o5 (some (.cell acc)) (dd (.int j)) (dd (.int (2 * k + 2))) o9) p = .nx (STr wb k du row o5 (some (.cell acc)) (dd (.int j)) (dd (.int (thI (lowI row f) (highI row s)))) (dd (.int (lowI row f)))) p := by
      have t : mtest (op2 fGt (opn fLen (acons (op2 fIx (op2 fIx (mvar 0) (mret (D.int 0))) (mvar 7)) anil)) (mret (D.int 0))) (STr wb k du row o5 (some (.cell acc)) (dd (.int j)) (dd (.int (2 * k + 2))) o9) p = .ok true p := by
        simp only [mtest_ev, op2_ev, opn_ev, acons_ev, anil_ev, mvar, mret_ev, List.getElem?_cons_succ, List.getElem?_cons_zero, bind_ok, fIx_lst, enc0, mlift_some, f2, q, fGt_int, boolOf_bl]
        rw [decide_eq_true hpos]
      have a1 : b_law_token_row_3l2l2t1 (STr wb k du row o5 (some (.cell acc)) (dd (.int j)) (dd (.int (2 * k + 2))) o9) p = .nx (STr wb k du row o5 (some (.cell acc)) (dd (.int j)) (dd (.int (2 * k + 2))) (dd (.int (lowI row f)))) p := by
        simp [b_law_token_row_3l2l2t1, mvar, e1]
      have a2 : b_law_token_row_3l2l2t2 (STr wb k du row o5 (some (.cell acc)) (dd (.int j)) (dd (.int (2 * k + 2))) (dd (.int (lowI row f)))) p = .nx (STr wb k du row o5 (some (.cell acc)) (dd (.int j)) (dd (.int (thI (lowI row f) (highI row s)))) (dd (.int (lowI row f)))) p := by
        simp [b_law_token_row_3l2l2t2, mvar, e2, mod2, div2, thI]
      unfold b_law_token_row_3l2l2
      rw [sif_t t, seq_nx a1, a2]
    exact ⟨_, _, _, by rw [seq_nx T1, seq_nx T2, app]⟩
theorem token_turn (V : Valid wb) {k : Int} {du row : List Int} (hd : du.length = wb.marks.length) (hl : row.length = wb.marks.length) (o5 o6 o7 o8 o9 : Option L) (p : List Int) :
    (∃ (row' : List Int) (o6' o7' o8' o9' : Option Den.L), row'.length = wb.marks.length ∧ L_law_token_row_3 (STr wb k du row o5 o6 o7 o8 o9) p = .nx (STr wb k du row' o5 o6' o7' o8' o9') p) ∨ L_law_token_row_3 (STr wb k du row o5 o6 o7 o8 o9) p = .rt (dI row) p := by
  have n2 := V.n2
  have T1 : sown (mshort anil) 6 (STr wb k du row o5 o6 o7 o8 o9) p = .nx (STr wb k du row o5 (some (.cell [])) o7 o8 o9) p := by simp
  have hr := rngN (n := row.length) (by omega)
  obtain ⟨l', q, e, rfl, af, o7', o8', o9', hal, rfl⟩ := loop_run (tg := gset 7) (body := L_law_token_row_3l2)
    (fun (j : Nat) (l : Den.Loc) (q : List Int) => q = p ∧ ∃ (af : List Int) (o7 o8 o9 : Option Den.L), af.length = j ∧ l = STr wb k du row o5 (some (.cell (af.map D.int))) o7 o8 o9)
    (ds := rngD 0 row.length) (k := 0) (l := STr wb k du row o5 (some (.cell [])) o7 o8 o9) (p := p) ⟨rfl, [], _, _, _, rfl, rfl⟩ (fun j d l q hd' hI => by
      obtain ⟨rfl, af, o7, o8, o9, ha, rfl⟩ := hI
      obtain ⟨hj, rfl⟩ := rngD_get hd'
      rw [Int.zero_add]
      obtain ⟨v, o8', o9', e⟩ := token_inner V hd hl (k := k) (j := j) (by omega) (af.map D.int) (by rw [List.length_map]; omega) o5 o8 o9 q
      refine ⟨STr wb k du row o5 (some (.cell (af.map D.int))) (dd (.int (j : Int))) o8 o9, rfl, _, q, .inl e, rfl, af ++ [v], dd (.int (j : Int)), o8', o9', by rw [List.length_append, ha]; simp, ?_⟩
      rw [List.map_append]
      rfl)
  rw [rngD_len, Nat.zero_add] at hal
  have T2 : b_law_token_row_3l2 (STr wb k du row o5 (some (.cell [])) o7 o8 o9) q = .nx (STr wb k du row o5 (some (.cell (af.map D.int))) o7' o8' o9') q := by
    have qq : fLen [dI row] = some (.int (row.length : Int)) := by unfold dI; rw [fLen_lst, List.length_map]
    unfold b_law_token_row_3l2
    rw [sfor_ev]
    simp only [mbind_ev, acons_ev, opn_ev, mvar, List.getElem?_cons_succ, List.getElem?_cons_zero, bind_ok, anil_ev, qq, mlift_some, hr, toO_ok]
    exact e
  have et : mlendT 6 (mtest (op2 (fEqD false) (mvar 6) (mvar 4))) (STr wb k du row o5 (some (.cell (af.map D.int))) o7' o8' o9') q = .ok (decide (af = row)) q := by
    have := eq_lI af row
    exact mlendG_ev (ds := af.map D.int) rfl (by simp [mvar, dI, this]) rfl
  unfold L_law_token_row_3
  rw [seq_nx T1, seq_nx T2]
  by_cases c : af = row
  · right
    rw [decide_eq_true c] at et
    have T3 : b_law_token_row_3l3 (STr wb k du row o5 (some (.cell (af.map D.int))) o7' o8' o9') q = .rt (dI row) q := by
      unfold b_law_token_row_3l3
      rw [sif_t et]
      rfl
    rw [sseq_ev, T3]
    rfl
  · left
    rw [decide_eq_false c] at et
    have T3 : b_law_token_row_3l3 (STr wb k du row o5 (some (.cell (af.map D.int))) o7' o8' o9') q = .nx (STr wb k du row o5 (some (.cell (af.map D.int))) o7' o8' o9') q := by
      unfold b_law_token_row_3l3
      rw [sif_f et]
      rfl
    refine ⟨af, dd (dI af), o7', o8', o9', by omega, ?_⟩
    rw [seq_nx T3]
    simp [sgive, mvar, dI]
theorem loop_any {tg : D → Den.Loc → Option Den.Loc} {body : MS} (I : Den.Loc → Prop) (P : D → Prop) {p : List Int} : ∀ {ds : List D} {l : Den.Loc}, I l → (∀ d ∈ ds, ∀ l, I l → ∃ l1, tg d l = some l1 ∧ ((∃ l2, body l1 p = .nx l2 p ∧ I l2) ∨ ∃ v, body l1 p = .rt v p ∧ P v)) →
    (∃ l', loop tg body ds l p = .nx l' p ∧ I l') ∨ ∃ v, loop tg body ds l p = .rt v p ∧ P v
  | [], l, hI, _ => .inl ⟨l, rfl, hI⟩
  | d :: ds, l, hI, h => by
    obtain ⟨l1, e1, h1⟩ := h d List.mem_cons_self l hI
    rcases h1 with ⟨l2, e2, i2⟩ | ⟨v, e2, hv⟩
    · rcases loop_any I P (ds := ds) i2 (fun d' hd => h d' (List.mem_cons_of_mem _ hd)) with ⟨l', e3, i3⟩ | ⟨v, e3, hv⟩
      · exact .inl ⟨l', (loop_cons e1 e2).trans e3, i3⟩
      · exact .inr ⟨v, (loop_cons e1 e2).trans e3, hv⟩
    · refine .inr ⟨v, ?_, hv⟩
      unfold loop
      rw [e1]
      simp only [e2]
theorem law_token_row_ev (V : Valid wb) {k : Int} (k0 : 0 ≤ k) (k9 : k ≤ 200) (p : List Int) : ∃ row : List Int, D_law_token_row [.lst (encW wb), .int k] p = .ok (dI row) p ∧ row.length = wb.marks.length := by
  have n2 := V.n2
  have l3 := V.l3
  let du : List Int := wb.dues.map fun d => 2 * dueI d k
  have hd : du.length = wb.marks.length := by simp [du, l3]
  have C : c_law_token_row_1 [dd (.lst (encW wb)), dd (.int k), none, none, none, none, none, none, none, none] p = .ok (du.map D.int) p := by
    unfold c_law_token_row_1
    rw [mcomp_ev (ds := wb.dues.map dDue) (p' := p) (by simp [mvar, enc3]) (by rw [List.length_map]; omega), List.map_map]
    exact comp_mapL (by simp) dDue (fun d => .int (2 * dueI d k)) fun d _ => by simp [mvar, due_at_ev, mul2]
  have T1 : sasg (mfreeze c_law_token_row_1) (gset 2) [dd (.lst (encW wb)), dd (.int k), none, none, none, none, none, none, none, none] p = .nx [dd (.lst (encW wb)), dd (.int k), dd (dI du), none, none, none, none, none, none, none] p := by
    rw [sasg_ev, mfreeze_ev, C]
    rfl
  have T2 : b_law_token_row_2 [dd (.lst (encW wb)), dd (.int k), dd (dI du), none, none, none, none, none, none, none] p = .nx (STr wb k du du none none none none none) p := by
    simp [b_law_token_row_2, mvar, dI]
  have hpos : 0 ≤ (du.length : Int) * (2 * k + 3) := Int.mul_nonneg (by omega) (by omega)
  have hbig : (du.length : Int) * (2 * k + 3) ≤ 60 * 403 := Int.mul_le_mul (by omega) (by omega) (by omega) (by omega)
  have hr := rng1_int (n := (du.length : Int) * (2 * k + 3) + 1) (by omega)
  have m2 : fMul (.int (du.length : Int)) (.int (2 * k + 3)) = some (.int ((du.length : Int) * (2 * k + 3))) := fMul_int (.inl (by omega))
  have qq : fLen [dI du] = some (.int (du.length : Int)) := by unfold dI; rw [fLen_lst, List.length_map]
  have e0 : ∀ o, b_law_token_row_3 (STr wb k du du none none none none none) p = o ↔ loop (gset 5) L_law_token_row_3 (rngD 0 ((du.length : Int) * (2 * k + 3) + 1).toNat) (STr wb k du du none none none none none) p = o := fun o => by
    unfold b_law_token_row_3
    rw [sfor_ev]
    simp only [mbind_ev, acons_ev, op2_ev, opn_ev, mvar, mret_ev, List.getElem?_cons_succ, List.getElem?_cons_zero, bind_ok, anil_ev, qq, mul2, fAdd_int, m2, mlift_some, hr, toO_ok]
  unfold D_law_token_row
  rw [denF_ev (by rfl)]
  rcases loop_any (tg := gset 5) (body := L_law_token_row_3) (p := p) (fun l => ∃ (row : List Int) (o5 o6 o7 o8 o9 : Option Den.L), row.length = wb.marks.length ∧ l = STr wb k du row o5 o6 o7 o8 o9) (fun v => ∃ row : List Int, row.length = wb.marks.length ∧ v = dI row) (ds := rngD 0 ((du.length : Int) * (2 * k + 3) + 1).toNat) (l := STr wb k du du none none none none none) ⟨du, _, _, _, _, _, hd, rfl⟩ (fun d _ l hI => by
    obtain ⟨row, o5, o6, o7, o8, o9, hl, rfl⟩ := hI
    refine ⟨STr wb k du row (dd d) o6 o7 o8 o9, rfl, ?_⟩
    rcases token_turn V hd hl (k := k) (dd d) o6 o7 o8 o9 p with ⟨row', o6', o7', o8', o9', hl', e⟩ | e
    · exact .inl ⟨_, e, row', _, _, _, _, _, hl', rfl⟩
    · exact .inr ⟨_, e, row, hl, rfl⟩) with ⟨l', e, row, o5, o6, o7, o8, o9, hl, rfl⟩ | ⟨v, e, row, hl, rfl⟩
  · refine ⟨row, ?_, hl⟩
    show outR (dn_law_token_row [dd (.lst (encW wb)), dd (.int k), none, none, none, none, none, none, none, none] p) = _
    unfold dn_law_token_row
    rw [seq_nx T1, seq_nx T2, seq_nx ((e0 _).mpr e)]
    rfl
  · refine ⟨row, ?_, hl⟩
    show outR (dn_law_token_row [dd (.lst (encW wb)), dd (.int k), none, none, none, none, none, none, none, none] p) = _
    unfold dn_law_token_row
    rw [seq_nx T1, seq_nx T2, sseq_ev, (e0 _).mpr e]
    rfl
theorem law_rows56_ev (V : Valid wb) {k : Int} (k0 : 0 ≤ k) (k9 : k ≤ 200) (p : List Int) : ∃ (r : List Int) (q : List Int), D_law_rows_k56 [.pot, .lst (encW wb), .int k] p = .ok (dI r) q ∧ r.length = wb.marks.length ∧ Parts r (2 * (k + 1)) := by
  have n2 := V.n2
  obtain ⟨v, p1, e1, v0, v3⟩ := draw_ev 3 (by decide) p
  unfold D_law_rows_k56
  rw [denF_ev (by rfl)]
  show ∃ r q, outR (dn_law_rows_k56 [dd .pot, dd (.lst (encW wb)), dd (.int k), none, none, none] p) = .ok (dI r) q ∧ _
  unfold dn_law_rows_k56
  by_cases c : v = 2
  · obtain ⟨ys, p2, e2, hl, hy⟩ := comp_ex (i := 3) (e := mcall D_law_draw (acons (mvar 0) (acons (op2 fAdd (op2 fMul (mret (D.int 2)) (mvar 2)) (mret (D.int 3))) anil))) (l := [dd .pot, dd (.lst (encW wb)), dd (.int k), none, none, none]) (by simp) (fun _ y => ∃ m : Int, y = .int m ∧ 0 ≤ m ∧ m ≤ 2 * (k + 1)) (ds := wb.marks.map D.int) (p := p1) fun d hd p => by
      obtain ⟨a, q1, ea, a0, a1⟩ := draw_ev (2 * k + 3) (by omega) p
      exact ⟨.int a, q1, by simp [mvar, mul2, ea], _, rfl, a0, by omega⟩
    obtain ⟨r, rfl, hr⟩ := drawn_ints ys fun y h => by
      obtain ⟨_, _, q⟩ := hy y h
      exact q
    rw [List.length_map, List.length_map] at hl
    refine ⟨r, p2, ?_, hl, hr⟩
    have T : b_law_rows_k56_1 [dd .pot, dd (.lst (encW wb)), dd (.int k), none, none, none] p = .rt (dI r) p2 := by
      have t : mtest (op2 fEq (mcall D_law_draw (acons (mvar 0) (acons (mret (D.int 3)) anil))) (mret (D.int 2))) [dd .pot, dd (.lst (encW wb)), dd (.int k), none, none, none] p = .ok true p1 := by simp [mvar, e1, c]
      have C : c_law_rows_k56_1 [dd .pot, dd (.lst (encW wb)), dd (.int k), none, none, none] p1 = .ok (r.map D.int) p2 := by
        unfold c_law_rows_k56_1
        rw [mcomp_ev (ds := wb.marks.map D.int) (p' := p1) (by simp [mvar, enc2, dI]) (by rw [List.length_map]; omega), e2]
      unfold b_law_rows_k56_1
      rw [sif_t t, sret_ev, mfreeze_ev, C]
      rfl
    rw [sseq_ev, T]
    rfl
  · obtain ⟨row, e2, hrow⟩ := law_token_row_ev V k0 k9 p1
    obtain ⟨ys, p2, e3, hl, hy⟩ := comp_ex (i := 5) (e := opn fMin2 (acons (op2 fAdd (op2 fMul (mret (D.int 2)) (mvar 2)) (mret (D.int 2))) (acons (opn fMax2 (acons (mret (D.int 0)) (acons (op2 fSub (op2 fAdd (mvar 5) (mcall D_law_draw (acons (mvar 0) (acons (mret (D.int 3)) anil)))) (mret (D.int 1))) anil))) anil))) (l := [dd .pot, dd (.lst (encW wb)), dd (.int k), none, dd (dI row), none]) (by simp) (fun _ y => ∃ m : Int, y = .int m ∧ 0 ≤ m ∧ m ≤ 2 * (k + 1)) (ds := row.map D.int) (p := p1) fun d hd p => by
      obtain ⟨n, _, rfl⟩ := List.mem_map.mp hd
      obtain ⟨a, q1, ea, a0, a1⟩ := draw_ev 3 (by decide) p
      exact ⟨.int (min (2 * k + 2) (max 0 (n + a - 1))), q1, by simp [mvar, mul2, ea, fMin2_mn, -fMin2_int, fMax2_mx, -fMax2_int], _, rfl, by omega, by omega⟩
    obtain ⟨r, rfl, hr⟩ := drawn_ints ys fun y h => by
      obtain ⟨_, _, q⟩ := hy y h
      exact q
    rw [List.length_map, List.length_map] at hl
    refine ⟨r, p2, ?_, by omega, hr⟩
    have T : b_law_rows_k56_1 [dd .pot, dd (.lst (encW wb)), dd (.int k), none, none, none] p = .nx [dd .pot, dd (.lst (encW wb)), dd (.int k), none, none, none] p1 := by simp [b_law_rows_k56_1, mvar, e1, c]
    have T2 : b_law_rows_k56_2 [dd .pot, dd (.lst (encW wb)), dd (.int k), none, none, none] p1 = .nx [dd .pot, dd (.lst (encW wb)), dd (.int k), none, dd (dI row), none] p1 := by simp [b_law_rows_k56_2, mvar, e2]
    have C : c_law_rows_k56_2 [dd .pot, dd (.lst (encW wb)), dd (.int k), none, dd (dI row), none] p1 = .ok (r.map D.int) p2 := by
      unfold c_law_rows_k56_2
      rw [mcomp_ev (ds := row.map D.int) (p' := p1) (by simp [mvar, dI]) (by rw [List.length_map]; omega), e3]
    rw [seq_nx T, seq_nx T2, sret_ev, mfreeze_ev, C]
    rfl
end
end PL
namespace PL
open PySem L2 Den
theorem thI_shift (x y : Int) : thI (x + -40) (y + -40) = thI x y - 40 := by unfold thI; omega
theorem moved40 (r : List Int) : (r.map fun v => v - 40) = moved (-40) r := by
  unfold moved
  exact List.map_congr_left fun v _ => by omega
abbrev S56 (o2 o3 o4 o5 o6 o7 o8 o9 o10 o11 o12 o13 o15 : Option L) : Den.Loc := [none, dd .pot, o2, o3, o4, o5, o6, o7, o8, o9, o10, o11, o12, o13, none, o15]
section
variable (A : CA)
theorem law_k56_run (p : List Int) : ∃ q, dn_law_k56 A (S56 none none none none none none none none none none none none none) p = .rt (.bl true) q := by
  obtain ⟨wb, p1, e1, V, hw6, hw7, hfs⟩ := web_even_ev 6 (by decide) p
  obtain ⟨k, p2, e2, k0, k5⟩ := draw_ev 5 (by decide) p1
  obtain ⟨r, p3, e3, hl, hp⟩ := law_rows56_ev V k0 (by omega) p2
  obtain ⟨x', p4, e4, x0, x1⟩ := draw_ev 30 (by decide) p3
  obtain ⟨y', p5, e5, y0, y1⟩ := draw_ev 30 (by decide) p4
  have n1 := V.n1
  have n2 := V.n2
  have l1 := V.l1
  have l3 := V.l3
  have ev := evB_even hfs
  obtain ⟨at', p6, e6, a0, a1⟩ := draw_ev (r.length : Int) (by omega) p5
  obtain ⟨j, rfl⟩ := Int.eq_ofNat_of_zero_le a0
  have hj : j < wb.marks.length := by omega
  have qr : fLen [dI r] = some (.int (r.length : Int)) := by unfold dI; rw [fLen_lst, List.length_map]
  let sW : Option L := dd (.lst (encW wb))
  let sM : Option L := dd (insW A wb)
  let sk : Option L := dd (.int k)
  let sr : Option L := dd (dI r)
  let sx : Option L := dd (.int (x' - 15))
  let sy : Option L := dd (.int (y' - 15))
  let sa : Option L := dd (.int (j : Int))
  have B := built9_ev (A := A) V p1
  have T1 : b_law_k56_01 (S56 none none none none none none none none none none none none none) p = .nx (S56 sW none none none none none none none none none none none none) p1 := by simp [b_law_k56_01, mvar, e1, sW]
  have T2 : b_law_k56_02 A (S56 sW none none none none none none none none none none none none) p1 = .nx (S56 sW sM none none none none none none none none none none none) p1 := by simp [b_law_k56_02, mvar, B, sW, sM]
  have T3 : b_law_k56_03 (S56 sW sM none none none none none none none none none none none) p1 = .nx (S56 sW sM sk none none none none none none none none none none) p2 := by simp [b_law_k56_03, mvar, e2, sk]
  have T4 : b_law_k56_04 (S56 sW sM sk none none none none none none none none none none) p2 = .nx (S56 sW sM sk sr none none none none none none none none none) p3 := by simp [b_law_k56_04, mvar, e3, sW, sk, sr]
  have T5 : b_law_k56_05 (S56 sW sM sk sr none none none none none none none none none) p3 = .nx (S56 sW sM sk sr sx none none none none none none none none) p4 := by simp [b_law_k56_05, mvar, e4, sx]
  have T6 : b_law_k56_06 (S56 sW sM sk sr sx none none none none none none none none) p4 = .nx (S56 sW sM sk sr sx sy none none none none none none none) p5 := by simp [b_law_k56_06, mvar, e5, sy]
  have T7 : b_law_k56_07 (S56 sW sM sk sr sx sy none none none none none none none) p5 = .nx (S56 sW sM sk sr sx sy none none none none none none none) p5 := by
    simp [b_law_k56_07, mvar, sx, sy, token_half_ev, half_chips_ev, is_integer_int]
  have T8 : b_law_k56_08 (S56 sW sM sk sr sx sy none none none none none none none) p5 = .nx (S56 sW sM sk sr sx sy sa none none none none none none) p6 := by
    simp [b_law_k56_08, mvar, sr, qr, e6, sa]
  obtain ⟨d, hd⟩ : ∃ d, wb.dues[j]? = some d := ⟨wb.dues[j]'(by omega), List.getElem?_eq_getElem (by omega)⟩
  have T9 : b_law_k56_09 (S56 sW sM sk sr sx sy sa none none none none none none) p6 = .nx (S56 sW sM sk sr sx sy sa none none none none none none) p6 := by
    have e := token_due_ev V (List.mem_of_getElem? hd) k0 p6
    have ed : atI (wb.dues.map dDue) (j : Int) = some (dDue d) := atI_nat (by rw [List.getElem?_map, hd]; rfl)
    simp [b_law_k56_09, mvar, sW, sa, sk, enc3, ed, e, due_at_ev, mul2]
  let ml : List Nat := (List.range wb.marks.length).filter fun j => !(wb.first[j]?.getD []).isEmpty
  have hrn := rngN (n := r.length) (by omega)
  rw [rng_nat] at hrn
  have C1 : c_law_k56_1 (S56 sW sM sk sr sx sy sa none none none none none none) p6 = .ok (ml.map fun j : Nat => D.int (j : Int)) p6 := by
    unfold c_law_k56_1
    rw [mcomp_ev (ds := (List.range r.length).map fun j : Nat => D.int (j : Int)) (p' := p6) (by simp only [sr, mbind_ev, acons_ev, opn_ev, mvar, List.getElem?_cons_succ, List.getElem?_cons_zero, bind_ok, anil_ev, qr, mlift_some, hrn]) (by simp; omega), hl]
    refine comp_filterL (by simp) (fun j : Nat => D.int (j : Int)) (fun j => !(wb.first[j]?.getD []).isEmpty) (fun j hj => ?_) fun j hj => by simp [mvar]
    have hj := List.mem_range.mp hj
    have ef : atI (wb.first.map dI) (j : Int) = some (dI (wb.first[j]?.getD [])) := atI_nat (by rw [List.getElem?_map, List.getElem?_eq_getElem (by omega)]; simp)
    have q2 : fLen [dI (wb.first[j]?.getD [])] = some (.int ((wb.first[j]?.getD []).length : Int)) := by unfold dI; rw [fLen_lst, List.length_map]
    simp only [sW, mtest_ev, op2_ev, opn_ev, acons_ev, anil_ev, mvar, mret_ev, List.set_cons_succ, List.set_cons_zero, List.getElem?_cons_succ, List.getElem?_cons_zero, bind_ok, fIx_lst, enc0, mlift_some, ef, q2, fGt_int, boolOf_bl]
    congr 1
    cases wb.first[j]?.getD [] with
    | nil => rfl
    | cons a t => simp
  let sm : Option L := dd (.lst (ml.map fun j : Nat => D.int (j : Int)))
  have T10 : sasg (mfreeze c_law_k56_1) (gset 9) (S56 sW sM sk sr sx sy sa none none none none none none) p6 = .nx (S56 sW sM sk sr sx sy sa sm none none none none none) p6 := by
    rw [sasg_ev, mfreeze_ev, C1]
    rfl
  have mm : ∀ i, i ∈ ml ↔ i < wb.marks.length ∧ (wb.first[i]?.getD []).isEmpty = false := fun i => by
    simp only [ml, List.mem_filter, List.mem_range, Bool.not_eq_true']
  unfold dn_law_k56
  rw [seq_nx T1, seq_nx T2, seq_nx T3, seq_nx T4, seq_nx T5, seq_nx T6, seq_nx T7, seq_nx T8, seq_nx T9, seq_nx T10]
  have qm : fLen [.lst (ml.map fun j : Nat => D.int (j : Int))] = some (.int (ml.length : Int)) := by rw [fLen_lst, List.length_map]
  by_cases c : ml.length = 0
  · refine ⟨p6, ?_⟩
    have hem : (wb.first[j]?.getD []).isEmpty = true := by
      cases e : (wb.first[j]?.getD []).isEmpty with
      | true => rfl
      | false =>
        have := (mm j).mpr ⟨hj, e⟩
        rw [List.length_eq_zero_iff.mp c] at this
        cases this
    have P := token_price_ev A V ev k0 (by omega) hl hj p6
    have tp : tprI wb k r j = 2 * (k + 1) := by unfold tprI; rw [if_pos hem]
    rw [tp] at P
    have T11 : b_law_k56_11 A (S56 sW sM sk sr sx sy sa sm none none none none none) p6 = .rt (.bl true) p6 := by
      have t : mtest (op2 fEq (opn fLen (acons (mvar 9) anil)) (mret (D.int 0))) (S56 sW sM sk sr sx sy sa sm none none none none none) p6 = .ok true p6 := by
        simp only [sm, mtest_ev, op2_ev, opn_ev, acons_ev, anil_ev, mvar, mret_ev, List.getElem?_cons_succ, List.getElem?_cons_zero, bind_ok, qm, mlift_some, fEq_int, boolOf_bl, c]
        rfl
      unfold b_law_k56_11
      rw [sif_t t, sret_ev]
      simp only [sM, sk, sr, sa, op2_ev, mcall_ev, acons_ev, anil_ev, mvar, mret_ev, List.getElem?_cons_succ, List.getElem?_cons_zero, bind_ok, P, mul2, mlift_some, fAdd_int, fEq_int, toO_ok]
      rw [decide_eq_true (by omega)]
    rw [sseq_ev, T11]
    rfl
  · have T11 : b_law_k56_11 A (S56 sW sM sk sr sx sy sa sm none none none none none) p6 = .nx (S56 sW sM sk sr sx sy sa sm none none none none none) p6 := by
      have c' : ¬ ((ml.length : Int) = 0) := by omega
      have t : mtest (op2 fEq (opn fLen (acons (mvar 9) anil)) (mret (D.int 0))) (S56 sW sM sk sr sx sy sa sm none none none none none) p6 = .ok false p6 := by
        simp only [sm, mtest_ev, op2_ev, opn_ev, acons_ev, anil_ev, mvar, mret_ev, List.getElem?_cons_succ, List.getElem?_cons_zero, bind_ok, qm, mlift_some, fEq_int, boolOf_bl]
        rw [decide_eq_false c']
      unfold b_law_k56_11
      rw [sif_f t]
      rfl
    obtain ⟨u, p7, e7, u0, u1⟩ := draw_ev (ml.length : Int) (by omega) p6
    obtain ⟨i, hi⟩ : ∃ i, ml[u.toNat]? = some i := ⟨ml[u.toNat]'(by omega), List.getElem?_eq_getElem (by omega)⟩
    obtain ⟨hi1, hi2⟩ := (mm i).mp (List.mem_of_getElem? hi)
    have eu : atI (ml.map fun j : Nat => D.int (j : Int)) u = some (.int (i : Int)) := atI_nat' u0 (by rw [List.getElem?_map, hi]; rfl)
    obtain ⟨f, s, mk, H⟩ := here_ex V (i := (i : Int)) (by omega) (by omega)
    have hf := H.hf
    have hs := H.hs
    rw [Int.toNat_natCast] at hf hs
    have hne : f ≠ [] := fun e => by
      rw [hf, e] at hi2
      cases hi2
    obtain ⟨efs, xy⟩ := low_le_high V hfs H hne r
    have E1 := law_low_ev V H hne hl p7
    have E2 := law_high_ev V H (H.ne V hne) hl p7
    have P := token_price_ev A V ev k0 (by omega) hl hi1 p7
    have tp : tprI wb k r i = thI (lowI r f) (highI r s) := by
      unfold tprI
      rw [hf, hs]
      have : f.isEmpty = false := by cases f with
        | nil => exact absurd rfl hne
        | cons => rfl
      simp [this]
    rw [tp] at P
    have hml : (moved (-40) r).length = wb.marks.length := by rw [← hl]; simp [moved]
    have P2 := token_price_ev A V ev k0 (by omega) hml hi1 p7
    have tp2 : tprI wb k (moved (-40) r) i = thI (lowI r f) (highI r s) - 40 := by
      unfold tprI
      rw [hf, hs]
      have : f.isEmpty = false := by cases f with
        | nil => exact absurd rfl hne
        | cons => rfl
      simp only [this, Bool.false_eq_true, if_false, Option.getD_some]
      rw [low_mv V H hne hl, high_mv V H (H.ne V hne) hl, thI_shift]
    rw [tp2] at P2
    let si : Option L := dd (.int (i : Int))
    let sp : Option L := dd (.int (thI (lowI r f) (highI r s)))
    let sl : Option L := dd (dI (moved (-40) r))
    have T12 : b_law_k56_12 (S56 sW sM sk sr sx sy sa sm none none none none none) p6 = .nx (S56 sW sM sk sr sx sy sa sm si none none none none) p7 := by
      unfold b_law_k56_12
      rw [sasg_ev]
      simp only [sm, op2_ev, opn_ev, mcall_ev, acons_ev, anil_ev, mvar, List.getElem?_cons_succ, List.getElem?_cons_zero, bind_ok, qm, mlift_some, e7, fIx_lst, eu, toO_ok]
      rfl
    have T13 : b_law_k56_13 (S56 sW sM sk sr sx sy sa sm si none none none none) p7 = .nx (S56 sW sM sk sr sx sy sa sm si sp none none none) p7 := by simp [b_law_k56_13, mvar, sW, sr, si, E1, E2, half_chips_ev, sp]
    have T14 : b_law_k56_14 A (S56 sW sM sk sr sx sy sa sm si sp none none none) p7 = .nx (S56 sW sM sk sr sx sy sa sm si sp sp none none) p7 := by simp [b_law_k56_14, mvar, sM, sk, sr, si, P, sp]
    have C2 : c_law_k56_2 (S56 sW sM sk sr sx sy sa sm si sp sp none none) p7 = .ok ((moved (-40) r).map D.int) p7 := by
      unfold c_law_k56_2
      rw [mcomp_ev (ds := r.map D.int) (p' := p7) (by simp [mvar, sr, dI]) (by rw [List.length_map]; omega), ← moved40, List.map_map]
      exact comp_mapL (by simp) D.int (fun v => .int (v - 40)) fun v _ => by simp [mvar]
    have T15 : sasg (mfreeze c_law_k56_2) (gset 13) (S56 sW sM sk sr sx sy sa sm si sp sp none none) p7 = .nx (S56 sW sM sk sr sx sy sa sm si sp sp sl none) p7 := by
      rw [sasg_ev, mfreeze_ev, C2]
      rfl
    have T16 : b_law_k56_16 A (S56 sW sM sk sr sx sy sa sm si sp sp sl none) p7 = .nx (S56 sW sM sk sr sx sy sa sm si sp sp sl none) p7 := by
      simp [b_law_k56_16, mvar, sM, sk, si, sp, sl, is_integer_int, P2]
    have hr2 := rng1_int (n := 2 * k + 2) (by omega)
    obtain ⟨o15, e17⟩ := loop_env (i := 15) (body := L_law_k56_17 A) (fun o => S56 sW sM sk sr sx sy sa sm si sp sp sl o) (p := p7) (fun _ _ => rfl) (ds := rngD 0 (2 * k + 2).toNat) (fun d hd => by
      obtain ⟨h, hh, rfl⟩ := rngD_mem hd
      rw [Int.zero_add]
      have K : Tok wb k r (i : Int) (h : Int) := ⟨V, ev, k0, by omega, hl, hp, by omega, by omega⟩
      have O1 := one_side_ev A K H hne (side := 1) (.inl rfl) xy p7
      have O2 := one_side_ev A K H hne (side := 2) (.inr rfl) xy p7
      have w1 : winsT (lowI r f) (highI r s) (h : Int) 1 = decide (thI (lowI r f) (highI r s) ≤ (h : Int)) := by simp [winsT]
      have w2 : winsT (lowI r f) (highI r s) (h : Int) 2 = decide ((h : Int) < thI (lowI r f) (highI r s)) := by simp [winsT]
      rw [w1] at O1
      rw [w2] at O2
      simp [L_law_k56_17, b_law_k56_17l1, b_law_k56_17l2, mvar, sM, sW, sk, sr, si, sp, O1, O2]) none
    have T17 : b_law_k56_17 A (S56 sW sM sk sr sx sy sa sm si sp sp sl none) p7 = .nx (S56 sW sM sk sr sx sy sa sm si sp sp sl o15) p7 := by
      unfold b_law_k56_17
      rw [sfor_ev]
      simp only [sk, mbind_ev, acons_ev, op2_ev, mvar, mret_ev, List.getElem?_cons_succ, List.getElem?_cons_zero, bind_ok, anil_ev, mul2, mlift_some, fAdd_int, hr2, toO_ok]
      exact e17
    obtain ⟨p8, e18⟩ := law_bad56_ev A V ev k0 (by omega) hl hp H hne p7
    refine ⟨p8, ?_⟩
    rw [seq_nx T11, seq_nx T12, seq_nx T13, seq_nx T14, seq_nx T15, seq_nx T16, seq_nx T17]
    simp [b_law_k56_18, mvar, sW, sM, sk, sr, si, e18]
end
end PL
namespace K56
open PySem L2 Den PL FX
noncomputable section
variable {c : Cfg} {K : PySem.W.Frag} {ec : Nat → Addr} {P : Program} {w : World} {mg : Str → Option Value} {base : Heap} {A : Adr}
theorem pss_pot (nr : mg "range" = none) (nmin : mg "min" = none) (nlen : mg "len" = none) (nint : mg "int" = none) (f : Addr) (cdv : Value) (A_ : Around) (outer : List Env) (sh : Shared) (H : Hp) (E' : XK) :
    PSs (cxOf (L2.CX P w) P w c.K mg base Nn_law_pot "_law_pot" (defScope s_law_pot) f cdv A_ outer sh H E') (defBody s_law_pot) (qPot c) :=
  (pss_cons (ps_asg (pe_lst pa_nil) (pg_name (i := 1) sc_law_pot.nd rfl (by first | exact Or.inl rfl | exact Or.inr rfl)))
    (pss_cons (ps_for (passes_of rfl) rfl (pi_range1 (by rfl) nr (pa_cons (pe_callB (call_min2 rfl) (by rfl) nmin (by decide +kernel) (pa_cons (pe_callB call_len_seq (by rfl) nlen (by decide +kernel) (pa_cons (pv 0) pa_nil)) (pa_cons pe_int pa_nil))) pa_nil)) (pg_name (i := 2) sc_law_pot.nd rfl (by first | exact Or.inl rfl | exact Or.inr rfl)) (pss_cons (ps_asg (pe_callTy call_int1 (by rfl) nint (by decide +kernel) (pa_cons (pe_ix ix_seq (pv 0) (pv 2) (fun _ _ => rfl)) pa_nil)) (pg_name (i := 3) sc_law_pot.nd rfl (by first | exact Or.inl rfl | exact Or.inr rfl)))
    (pss_cons (ps_asg pe_int (pg_name (i := 4) sc_law_pot.nd rfl (by first | exact Or.inl rfl | exact Or.inr rfl)))
    (pss_cons (ps_if (pt_cmpR op_lt (pv 3) pe_int (nomark _)) (pss_cons (ps_asg (pe_op op_sub pe_int (pv 3)) (pg_name (i := 3) sc_law_pot.nd rfl (by first | exact Or.inl rfl | exact Or.inr rfl)))
    (pss_one (ps_asg pe_int (pg_name (i := 4) sc_law_pot.nd rfl (by first | exact Or.inl rfl | exact Or.inr rfl))))) pss_nil)
    (pss_one (ps_if (pt_cmpR op_ge (pv 3) (pe_op op_pow pe_int pe_int) (nomark _)) (pss_one (ps_for (passes_of rfl) rfl (pi_range1 (by rfl) nr (pa_cons pe_int pa_nil)) (pg_name (i := 5) sc_law_pot.nd rfl (by first | exact Or.inl rfl | exact Or.inr rfl)) (pss_one (ps_if (pt_cmpR op_gt (pv 3) pe_int (nomark _)) (pss_cons (ps_expr (pe_bm PySem.F.plainAttrs_list PySem.F.slot_list_append PySem.F.type_list_append mt_append (pv 1) (pa_cons (pe_op op_mod (pe_callTy call_int1 (by rfl) nint (by decide +kernel) (pa_cons (pv 3) pa_nil)) pe_int) pa_nil)))
    (pss_one (ps_asg (pe_op op_fdiv (pv 3) pe_int) (pg_name (i := 3) sc_law_pot.nd rfl (by first | exact Or.inl rfl | exact Or.inr rfl))))) pss_nil)))) (pss_cons (ps_asg (pe_op op_mod (pe_callTy call_int1 (by rfl) nint (by decide +kernel) (pa_cons (pe_op op_add (pe_op op_add (pe_op op_mul (pv 3) pe_int) (pe_op op_mul (pv 2) pe_int)) (pv 4)) pa_nil)) pe_int) (pg_name (i := 6) sc_law_pot.nd rfl (by first | exact Or.inl rfl | exact Or.inr rfl)))
    (pss_one (ps_for (passes_of rfl) rfl (pi_range1 (by rfl) nr (pa_cons pe_int pa_nil)) (pg_name (i := 5) sc_law_pot.nd rfl (by first | exact Or.inl rfl | exact Or.inr rfl)) (pss_cons (ps_asg (pe_op op_mod (pe_callTy call_int1 (by rfl) nint (by decide +kernel) (pa_cons (pe_op op_add (pe_op op_add (pe_op op_add (pe_op op_mul (pv 6) (pv 6)) (pe_op op_mul (pv 5) pe_int)) (pe_op op_mul (pv 2) pe_int)) pe_int) pa_nil)) pe_int) (pg_name (i := 6) sc_law_pot.nd rfl (by first | exact Or.inl rfl | exact Or.inr rfl)))
    (pss_one (ps_expr (pe_bm PySem.F.plainAttrs_list PySem.F.slot_list_append PySem.F.type_list_append mt_append (pv 1) (pa_cons (pv 6) pa_nil))))))))))))))
    (pss_cons (ps_expr (pe_bm0 PySem.F.plainAttrs_list PySem.F.slot_list_reverse PySem.F.type_list_reverse mt_reverse (pv 1)))
    (pss_one (ps_ret (pv 1))))))
theorem ok_law_pot {f : Addr} {fd : FuncData} (F : Fun c.K "_law_pot" "_law_pot" s_law_pot f fd) (nr : mg "range" = none) (nmin : mg "min" = none) (nlen : mg "len" = none) (nint : mg "int" = none) : FnR P w c.K mg base (L2.CX P w) 1 f (spPot c.K) := by
  have ok : FnOk P w c.K mg base (L2.CX P w) 1 f fd ["_law_script"] (spPot c.K) := by
    refine F.okX sc_law_pot (fun vs H Q E h => ?_) (fun cdv A outer sh H vs Q E hr h => ?_)
    · obtain ⟨a, ns, rfl, _⟩ := h
      rfl
    · obtain ⟨a, ns, rfl, hS, hl, k⟩ := h
      exact ⟨_, pss_pot nr nmin nlen nint f cdv A outer sh H E, pot_run hS hl k⟩
  have raw := ok.raw (F.binds (ps := ["_law_script"]) fun _ _ _ _ _ _ us hl => match us, hl with | [_], _ => rfl) .nil
  exact raw.imp fun vs H Q E h => by rw [List.append_nil]; exact h
theorem ok_law {f fP : Addr} {fd fdP : FuncData} (T : ∀ p, Txt (potCfg K p ec) mg A) (F : Fun K "law" "law" s_law f fd) (FP : Fun K "_law_pot" "_law_pot" s_law_pot fP fdP) (mP : mg "_law_pot" = some (.ref fP)) : FnOk P w K mg base (L2.CX P w) 10 f fd ["_law_script"] (spLaw K) := by
  refine F.okX sc_law (fun vs H Q E h => ?_) (fun cdv A_ outer sh H vs Q E hr h => ?_)
  · obtain ⟨a, ns, rfl, _⟩ := h
    rfl
  · obtain ⟨a, ns, rfl, hS, hl, k⟩ := h
    have T0 := T 0
    have G0 : FnR P w K mg base (L2.CX P w) 1 fP (spPot K) := ok_law_pot (c := (potCfg K 0 ec)) FP T0.n_range T0.n_min T0.n_len T0.n_int
    refine ⟨_, pss_cons (ps_asg (pe_callRS (E := fun _ => E) G0 (hr.mono (by decide)) (by rfl) mP FP.kp (passE (takes_of rfl rfl rfl rfl)) (pa_cons (pv 0) pa_nil)) (pg_name (i := 1) sc_law.nd rfl (by first | exact Or.inl rfl | exact Or.inr rfl))) (pss_any (st := (defBody s_law).drop 1)), ?_⟩
    refine ⟨_, rfl, a, ns, rfl, hS, hl, fun p pot H' hp => ?_⟩
    obtain ⟨t, ht, hs⟩ := rest_law (P := P) (w := w) (base := base) (T p) f cdv A_ outer sh H E hr
    refine ⟨t, ht, hs (fun _ => none) H' (fun _ => none) H' _ (potLoc 14) pot (pot_rel hp) _ ?_⟩
    obtain ⟨q, e⟩ := law_k56_run A.ca pot
    have e' : dn_law_k56 A.ca (potLoc 14) pot = .rt (.bl true) q := e
    rw [e']
    intro v G1 H1 σ1 l1 _ _ a1
    cases a1
    exact k H1
theorem all_mk {l : PySem.W.OpenLaw} {w : World} {K : PySem.W.Frag} {h : Heap} {mg : Str → Option Value} {fa : Addr} {f_is_integer f_check_whole f_whole_list f_check_size f_check_range f_check_least f_check_one_or_two f_check_most f_as_stands f_is_due f_due_in_range f_due_too_great f_check_due f_check_due_range f_check_due_size f_due_at f_due_number f_check_kinds f_check_steps f_check_parts f_check_web f_check_stand f_check_moving f_check_even f_check_part_range f_low_of f_high_of f_least_with f_token_bought f_bids_of f_first_size f_second_size f_token_first_told f_check_token_kinds f_check_token_row f_check_holding f_check_token_bid f_token_first f_token_second f_token_serves f_token_half_of f_token_half f_token_price_of f_token_price f_token_due f_law_draw f_law_whole f_law_lot f_law_due f_law_marks f_law_path f_law_web f_law_due_at f_law_low f_law_high f_law_made f_law_token_row f_law_half_chips f_law_after f_law_bids f_law_own_serves f_law_size f_law_one_side f_law_refused f_law_bad f_law_rows C_Web f_Web_init f_Web_even p_Web_even f_Web_first p_Web_first f_Web_second p_Web_second f_Web_size p_Web_size e0 e1 e2 e3 e4 e5 f_law_pot f_law : Addr} (X : K.In h) (G : h.Ns mainGlobals mg) (hfa : mg "law" = some (.ref fa))
    (a_is_integer : PySem.W.nsIn K mainGlobals "is_integer" = some (some (.ref f_is_integer))) (b_is_integer : FnIn K "is_integer" "is_integer" s_is_integer f_is_integer)
    (a_check_whole : PySem.W.nsIn K mainGlobals "check_whole" = some (some (.ref f_check_whole))) (b_check_whole : FnIn K "check_whole" "check_whole" s_check_whole f_check_whole)
    (a_whole_list : PySem.W.nsIn K mainGlobals "whole_list" = some (some (.ref f_whole_list))) (b_whole_list : FnIn K "whole_list" "whole_list" s_whole_list f_whole_list)
    (a_check_size : PySem.W.nsIn K mainGlobals "check_size" = some (some (.ref f_check_size))) (b_check_size : FnIn K "check_size" "check_size" s_check_size f_check_size)
    (a_check_range : PySem.W.nsIn K mainGlobals "check_range" = some (some (.ref f_check_range))) (b_check_range : FnIn K "check_range" "check_range" s_check_range f_check_range)
    (a_check_least : PySem.W.nsIn K mainGlobals "check_least" = some (some (.ref f_check_least))) (b_check_least : FnIn K "check_least" "check_least" s_check_least f_check_least)
    (a_check_one_or_two : PySem.W.nsIn K mainGlobals "check_one_or_two" = some (some (.ref f_check_one_or_two))) (b_check_one_or_two : FnIn K "check_one_or_two" "check_one_or_two" s_check_one_or_two f_check_one_or_two)
    (a_check_most : PySem.W.nsIn K mainGlobals "check_most" = some (some (.ref f_check_most))) (b_check_most : FnIn K "check_most" "check_most" s_check_most f_check_most)
    (a_as_stands : PySem.W.nsIn K mainGlobals "as_stands" = some (some (.ref f_as_stands))) (b_as_stands : FnIn K "as_stands" "as_stands" s_as_stands f_as_stands)
    (a_is_due : PySem.W.nsIn K mainGlobals "is_due" = some (some (.ref f_is_due))) (b_is_due : FnIn K "is_due" "is_due" s_is_due f_is_due)
    (a_due_in_range : PySem.W.nsIn K mainGlobals "due_in_range" = some (some (.ref f_due_in_range))) (b_due_in_range : FnIn K "due_in_range" "due_in_range" s_due_in_range f_due_in_range)
    (a_due_too_great : PySem.W.nsIn K mainGlobals "due_too_great" = some (some (.ref f_due_too_great))) (b_due_too_great : FnIn K "due_too_great" "due_too_great" s_due_too_great f_due_too_great)
    (a_check_due : PySem.W.nsIn K mainGlobals "check_due" = some (some (.ref f_check_due))) (b_check_due : FnIn K "check_due" "check_due" s_check_due f_check_due)
    (a_check_due_range : PySem.W.nsIn K mainGlobals "check_due_range" = some (some (.ref f_check_due_range))) (b_check_due_range : FnIn K "check_due_range" "check_due_range" s_check_due_range f_check_due_range)
    (a_check_due_size : PySem.W.nsIn K mainGlobals "check_due_size" = some (some (.ref f_check_due_size))) (b_check_due_size : FnIn K "check_due_size" "check_due_size" s_check_due_size f_check_due_size)
    (a_due_at : PySem.W.nsIn K mainGlobals "due_at" = some (some (.ref f_due_at))) (b_due_at : FnIn K "due_at" "due_at" s_due_at f_due_at)
    (a_due_number : PySem.W.nsIn K mainGlobals "due_number" = some (some (.ref f_due_number))) (b_due_number : FnIn K "due_number" "due_number" s_due_number f_due_number)
    (a_check_kinds : PySem.W.nsIn K mainGlobals "check_kinds" = some (some (.ref f_check_kinds))) (b_check_kinds : FnIn K "check_kinds" "check_kinds" s_check_kinds f_check_kinds)
    (a_check_steps : PySem.W.nsIn K mainGlobals "check_steps" = some (some (.ref f_check_steps))) (b_check_steps : FnIn K "check_steps" "check_steps" s_check_steps f_check_steps)
    (a_check_parts : PySem.W.nsIn K mainGlobals "check_parts" = some (some (.ref f_check_parts))) (b_check_parts : FnIn K "check_parts" "check_parts" s_check_parts f_check_parts)
    (a_check_web : PySem.W.nsIn K mainGlobals "check_web" = some (some (.ref f_check_web))) (b_check_web : FnIn K "check_web" "check_web" s_check_web f_check_web)
    (a_check_stand : PySem.W.nsIn K mainGlobals "check_stand" = some (some (.ref f_check_stand))) (b_check_stand : FnIn K "check_stand" "check_stand" s_check_stand f_check_stand)
    (a_check_moving : PySem.W.nsIn K mainGlobals "check_moving" = some (some (.ref f_check_moving))) (b_check_moving : FnIn K "check_moving" "check_moving" s_check_moving f_check_moving)
    (a_check_even : PySem.W.nsIn K mainGlobals "check_even" = some (some (.ref f_check_even))) (b_check_even : FnIn K "check_even" "check_even" s_check_even f_check_even)
    (a_check_part_range : PySem.W.nsIn K mainGlobals "check_part_range" = some (some (.ref f_check_part_range))) (b_check_part_range : FnIn K "check_part_range" "check_part_range" s_check_part_range f_check_part_range)
    (a_low_of : PySem.W.nsIn K mainGlobals "low_of" = some (some (.ref f_low_of))) (b_low_of : FnIn K "low_of" "low_of" s_low_of f_low_of)
    (a_high_of : PySem.W.nsIn K mainGlobals "high_of" = some (some (.ref f_high_of))) (b_high_of : FnIn K "high_of" "high_of" s_high_of f_high_of)
    (a_least_with : PySem.W.nsIn K mainGlobals "least_with" = some (some (.ref f_least_with))) (b_least_with : FnIn K "least_with" "least_with" s_least_with f_least_with)
    (a_token_bought : PySem.W.nsIn K mainGlobals "token_bought" = some (some (.ref f_token_bought))) (b_token_bought : FnIn K "token_bought" "token_bought" s_token_bought f_token_bought)
    (a_bids_of : PySem.W.nsIn K mainGlobals "bids_of" = some (some (.ref f_bids_of))) (b_bids_of : FnIn K "bids_of" "bids_of" s_bids_of f_bids_of)
    (a_first_size : PySem.W.nsIn K mainGlobals "first_size" = some (some (.ref f_first_size))) (b_first_size : FnIn K "first_size" "first_size" s_first_size f_first_size)
    (a_second_size : PySem.W.nsIn K mainGlobals "second_size" = some (some (.ref f_second_size))) (b_second_size : FnIn K "second_size" "second_size" s_second_size f_second_size)
    (a_token_first_told : PySem.W.nsIn K mainGlobals "token_first_told" = some (some (.ref f_token_first_told))) (b_token_first_told : FnIn K "token_first_told" "token_first_told" s_token_first_told f_token_first_told)
    (a_check_token_kinds : PySem.W.nsIn K mainGlobals "check_token_kinds" = some (some (.ref f_check_token_kinds))) (b_check_token_kinds : FnIn K "check_token_kinds" "check_token_kinds" s_check_token_kinds f_check_token_kinds)
    (a_check_token_row : PySem.W.nsIn K mainGlobals "check_token_row" = some (some (.ref f_check_token_row))) (b_check_token_row : FnIn K "check_token_row" "check_token_row" s_check_token_row f_check_token_row)
    (a_check_holding : PySem.W.nsIn K mainGlobals "check_holding" = some (some (.ref f_check_holding))) (b_check_holding : FnIn K "check_holding" "check_holding" s_check_holding f_check_holding)
    (a_check_token_bid : PySem.W.nsIn K mainGlobals "check_token_bid" = some (some (.ref f_check_token_bid))) (b_check_token_bid : FnIn K "check_token_bid" "check_token_bid" s_check_token_bid f_check_token_bid)
    (a_token_first : PySem.W.nsIn K mainGlobals "token_first" = some (some (.ref f_token_first))) (b_token_first : FnIn K "token_first" "token_first" s_token_first f_token_first)
    (a_token_second : PySem.W.nsIn K mainGlobals "token_second" = some (some (.ref f_token_second))) (b_token_second : FnIn K "token_second" "token_second" s_token_second f_token_second)
    (a_token_serves : PySem.W.nsIn K mainGlobals "token_serves" = some (some (.ref f_token_serves))) (b_token_serves : FnIn K "token_serves" "token_serves" s_token_serves f_token_serves)
    (a_token_half_of : PySem.W.nsIn K mainGlobals "token_half_of" = some (some (.ref f_token_half_of))) (b_token_half_of : FnIn K "token_half_of" "token_half_of" s_token_half_of f_token_half_of)
    (a_token_half : PySem.W.nsIn K mainGlobals "token_half" = some (some (.ref f_token_half))) (b_token_half : FnIn K "token_half" "token_half" s_token_half f_token_half)
    (a_token_price_of : PySem.W.nsIn K mainGlobals "token_price_of" = some (some (.ref f_token_price_of))) (b_token_price_of : FnIn K "token_price_of" "token_price_of" s_token_price_of f_token_price_of)
    (a_token_price : PySem.W.nsIn K mainGlobals "token_price" = some (some (.ref f_token_price))) (b_token_price : FnIn K "token_price" "token_price" s_token_price f_token_price)
    (a_token_due : PySem.W.nsIn K mainGlobals "token_due" = some (some (.ref f_token_due))) (b_token_due : FnIn K "token_due" "token_due" s_token_due f_token_due)
    (a_law_draw : PySem.W.nsIn K mainGlobals "_law_draw" = some (some (.ref f_law_draw))) (b_law_draw : FnIn K "_law_draw" "_law_draw" s_law_draw f_law_draw)
    (a_law_whole : PySem.W.nsIn K mainGlobals "_law_whole" = some (some (.ref f_law_whole))) (b_law_whole : FnIn K "_law_whole" "_law_whole" s_law_whole f_law_whole)
    (a_law_lot : PySem.W.nsIn K mainGlobals "_law_lot" = some (some (.ref f_law_lot))) (b_law_lot : FnIn K "_law_lot" "_law_lot" s_law_lot f_law_lot)
    (a_law_due : PySem.W.nsIn K mainGlobals "_law_due" = some (some (.ref f_law_due))) (b_law_due : FnIn K "_law_due" "_law_due" s_law_due f_law_due)
    (a_law_marks : PySem.W.nsIn K mainGlobals "_law_marks" = some (some (.ref f_law_marks))) (b_law_marks : FnIn K "_law_marks" "_law_marks" s_law_marks f_law_marks)
    (a_law_path : PySem.W.nsIn K mainGlobals "_law_path" = some (some (.ref f_law_path))) (b_law_path : FnIn K "_law_path" "_law_path" s_law_path f_law_path)
    (a_law_web : PySem.W.nsIn K mainGlobals "_law_web" = some (some (.ref f_law_web))) (b_law_web : FnIn K "_law_web" "_law_web" s_law_web f_law_web)
    (a_law_due_at : PySem.W.nsIn K mainGlobals "_law_due_at" = some (some (.ref f_law_due_at))) (b_law_due_at : FnIn K "_law_due_at" "_law_due_at" s_law_due_at f_law_due_at)
    (a_law_low : PySem.W.nsIn K mainGlobals "_law_low" = some (some (.ref f_law_low))) (b_law_low : FnIn K "_law_low" "_law_low" s_law_low f_law_low)
    (a_law_high : PySem.W.nsIn K mainGlobals "_law_high" = some (some (.ref f_law_high))) (b_law_high : FnIn K "_law_high" "_law_high" s_law_high f_law_high)
    (a_law_made : PySem.W.nsIn K mainGlobals "_law_made" = some (some (.ref f_law_made))) (b_law_made : FnIn K "_law_made" "_law_made" s_law_made f_law_made)
    (a_law_token_row : PySem.W.nsIn K mainGlobals "_law_token_row" = some (some (.ref f_law_token_row))) (b_law_token_row : FnIn K "_law_token_row" "_law_token_row" s_law_token_row f_law_token_row)
    (a_law_half_chips : PySem.W.nsIn K mainGlobals "_law_half_chips" = some (some (.ref f_law_half_chips))) (b_law_half_chips : FnIn K "_law_half_chips" "_law_half_chips" s_law_half_chips f_law_half_chips)
    (a_law_after : PySem.W.nsIn K mainGlobals "_law_after" = some (some (.ref f_law_after))) (b_law_after : FnIn K "_law_after" "_law_after" s_law_after f_law_after)
    (a_law_bids : PySem.W.nsIn K mainGlobals "_law_bids" = some (some (.ref f_law_bids))) (b_law_bids : FnIn K "_law_bids" "_law_bids" s_law_bids f_law_bids)
    (a_law_own_serves : PySem.W.nsIn K mainGlobals "_law_own_serves" = some (some (.ref f_law_own_serves))) (b_law_own_serves : FnIn K "_law_own_serves" "_law_own_serves" s_law_own_serves f_law_own_serves)
    (a_law_size : PySem.W.nsIn K mainGlobals "_law_size" = some (some (.ref f_law_size))) (b_law_size : FnIn K "_law_size" "_law_size" s_law_size f_law_size)
    (a_law_one_side : PySem.W.nsIn K mainGlobals "_law_one_side" = some (some (.ref f_law_one_side))) (b_law_one_side : FnIn K "_law_one_side" "_law_one_side" s_law_one_side f_law_one_side)
    (a_law_refused : PySem.W.nsIn K mainGlobals "_law_refused" = some (some (.ref f_law_refused))) (b_law_refused : FnIn K "_law_refused" "_law_refused" s_law_refused f_law_refused)
    (a_law_bad : PySem.W.nsIn K mainGlobals "_law_bad" = some (some (.ref f_law_bad))) (b_law_bad : FnIn K "_law_bad" "_law_bad" s_law_bad f_law_bad)
    (a_law_rows : PySem.W.nsIn K mainGlobals "_law_rows" = some (some (.ref f_law_rows))) (b_law_rows : FnIn K "_law_rows" "_law_rows" s_law_rows f_law_rows)
    (a_Web : PySem.W.nsIn K mainGlobals "Web" = some (some (.ref C_Web)))
    (i_Web : PySem.W.findIn K (.ref C_Web) "__init__" = some (some (.ref f_Web_init))) (j_Web : PySem.W.isFn K (.ref f_Web_init) = true) (b_Web_init : FnIn K "__init__" "Web.__init__" s_Web_init f_Web_init) (q_Web : PySem.W.makesIn K C_Web = true) (k_Web : PySem.W.keepIn K (.ref C_Web) = true) (g_Web : ClsF K C_Web)
    (t_Web_even : PropOf K C_Web "even" p_Web_even f_Web_even) (b_Web_even : FnIn K "even" "Web.even" s_Web_even f_Web_even)
    (t_Web_first : PropOf K C_Web "first" p_Web_first f_Web_first) (b_Web_first : FnIn K "first" "Web.first" s_Web_first f_Web_first)
    (t_Web_second : PropOf K C_Web "second" p_Web_second f_Web_second) (b_Web_second : FnIn K "second" "Web.second" s_Web_second f_Web_second)
    (t_Web_size : PropOf K C_Web "size" p_Web_size f_Web_size) (b_Web_size : FnIn K "size" "Web.size" s_Web_size f_Web_size)
    (n_Web__dues : PySem.W.findIn K (.ref C_Web) "_dues" = some none)
    (n_Web__ends : PySem.W.findIn K (.ref C_Web) "_ends" = some none)
    (n_Web__even : PySem.W.findIn K (.ref C_Web) "_even" = some none)
    (n_Web__first : PySem.W.findIn K (.ref C_Web) "_first" = some none)
    (n_Web__greatest_due : PySem.W.findIn K (.ref C_Web) "_greatest_due" = some none)
    (n_Web__marks : PySem.W.findIn K (.ref C_Web) "_marks" = some none)
    (n_Web__moving : PySem.W.findIn K (.ref C_Web) "_moving" = some none)
    (n_Web__second : PySem.W.findIn K (.ref C_Web) "_second" = some none)
    (n_Web__size : PySem.W.findIn K (.ref C_Web) "_size" = some none)
    (v_GREATEST : ∃ t, PySem.W.nsIn K mainGlobals "GREATEST" = some (some (.int 10000000000000000000000000000000000000000 t)))
    (v_MOST_STANDS : ∃ t, PySem.W.nsIn K mainGlobals "MOST_STANDS" = some (some (.int 60 t)))
    (v_MOST_SERVING_CHIPS : ∃ t, PySem.W.nsIn K mainGlobals "MOST_SERVING_CHIPS" = some (some (.int 200 t)))
    (z_bool : PySem.W.nsIn K mainGlobals "bool" = some none)
    (z_enumerate : PySem.W.nsIn K mainGlobals "enumerate" = some none)
    (z_int : PySem.W.nsIn K mainGlobals "int" = some none)
    (z_isinstance : PySem.W.nsIn K mainGlobals "isinstance" = some none)
    (z_len : PySem.W.nsIn K mainGlobals "len" = some none)
    (z_list : PySem.W.nsIn K mainGlobals "list" = some none)
    (z_max : PySem.W.nsIn K mainGlobals "max" = some none)
    (z_min : PySem.W.nsIn K mainGlobals "min" = some none)
    (z_range : PySem.W.nsIn K mainGlobals "range" = some none)
    (z_set : PySem.W.nsIn K mainGlobals "set" = some none)
    (z_sorted : PySem.W.nsIn K mainGlobals "sorted" = some none)
    (z_str : PySem.W.nsIn K mainGlobals "str" = some none)
    (z_tuple : PySem.W.nsIn K mainGlobals "tuple" = some none)
    (eA0 : PySem.W.nsIn K mainGlobals "WrongKind" = some (some (.ref e0))) (eX0 : PySem.W.excIn K e0 [.type "Exception", .type "BaseException", .type "object"] "Exception.__new__" = true) (eK0 : PySem.W.keepIn K (.ref e0) = true) (eB0 : PySem.W.subIn K (.ref e0) (.type "BaseException") = some true) (eT0 : PySem.W.typeIn K (.ref e0) = some (.type "type"))
    (eA1 : PySem.W.nsIn K mainGlobals "WrongNumber" = some (some (.ref e1))) (eX1 : PySem.W.excIn K e1 [.type "Exception", .type "BaseException", .type "object"] "Exception.__new__" = true) (eK1 : PySem.W.keepIn K (.ref e1) = true) (eB1 : PySem.W.subIn K (.ref e1) (.type "BaseException") = some true) (eT1 : PySem.W.typeIn K (.ref e1) = some (.type "type"))
    (eA2 : PySem.W.nsIn K mainGlobals "WrongWeb" = some (some (.ref e2))) (eX2 : PySem.W.excIn K e2 [.type "Exception", .type "BaseException", .type "object"] "Exception.__new__" = true) (eK2 : PySem.W.keepIn K (.ref e2) = true) (eB2 : PySem.W.subIn K (.ref e2) (.type "BaseException") = some true) (eT2 : PySem.W.typeIn K (.ref e2) = some (.type "type"))
    (eA3 : PySem.W.nsIn K mainGlobals "TooMuch" = some (some (.ref e3))) (eX3 : PySem.W.excIn K e3 [.type "Exception", .type "BaseException", .type "object"] "Exception.__new__" = true) (eK3 : PySem.W.keepIn K (.ref e3) = true) (eB3 : PySem.W.subIn K (.ref e3) (.type "BaseException") = some true) (eT3 : PySem.W.typeIn K (.ref e3) = some (.type "type"))
    (eA4 : PySem.W.nsIn K mainGlobals "WrongText" = some (some (.ref e4))) (eX4 : PySem.W.excIn K e4 [.type "Exception", .type "BaseException", .type "object"] "Exception.__new__" = true) (eK4 : PySem.W.keepIn K (.ref e4) = true) (eB4 : PySem.W.subIn K (.ref e4) (.type "BaseException") = some true) (eT4 : PySem.W.typeIn K (.ref e4) = some (.type "type"))
    (eA5 : PySem.W.nsIn K mainGlobals "WrongDeed" = some (some (.ref e5))) (eX5 : PySem.W.excIn K e5 [.type "Exception", .type "BaseException", .type "object"] "Exception.__new__" = true) (eK5 : PySem.W.keepIn K (.ref e5) = true) (eB5 : PySem.W.subIn K (.ref e5) (.type "BaseException") = some true) (eT5 : PySem.W.typeIn K (.ref e5) = some (.type "type"))
    (ap00 : PySem.W.exmOne K (.ref e0) (.ref e0) = some true)
    (ap01 : PySem.W.exmOne K (.ref e0) (.ref e1) = some false)
    (ap02 : PySem.W.exmOne K (.ref e0) (.ref e2) = some false)
    (ap03 : PySem.W.exmOne K (.ref e0) (.ref e3) = some false)
    (ap04 : PySem.W.exmOne K (.ref e0) (.ref e4) = some false)
    (ap05 : PySem.W.exmOne K (.ref e0) (.ref e5) = some false)
    (ap10 : PySem.W.exmOne K (.ref e1) (.ref e0) = some false)
    (ap11 : PySem.W.exmOne K (.ref e1) (.ref e1) = some true)
    (ap12 : PySem.W.exmOne K (.ref e1) (.ref e2) = some false)
    (ap13 : PySem.W.exmOne K (.ref e1) (.ref e3) = some false)
    (ap14 : PySem.W.exmOne K (.ref e1) (.ref e4) = some false)
    (ap15 : PySem.W.exmOne K (.ref e1) (.ref e5) = some false)
    (ap20 : PySem.W.exmOne K (.ref e2) (.ref e0) = some false)
    (ap21 : PySem.W.exmOne K (.ref e2) (.ref e1) = some false)
    (ap22 : PySem.W.exmOne K (.ref e2) (.ref e2) = some true)
    (ap23 : PySem.W.exmOne K (.ref e2) (.ref e3) = some false)
    (ap24 : PySem.W.exmOne K (.ref e2) (.ref e4) = some false)
    (ap25 : PySem.W.exmOne K (.ref e2) (.ref e5) = some false)
    (ap30 : PySem.W.exmOne K (.ref e3) (.ref e0) = some false)
    (ap31 : PySem.W.exmOne K (.ref e3) (.ref e1) = some false)
    (ap32 : PySem.W.exmOne K (.ref e3) (.ref e2) = some false)
    (ap33 : PySem.W.exmOne K (.ref e3) (.ref e3) = some true)
    (ap34 : PySem.W.exmOne K (.ref e3) (.ref e4) = some false)
    (ap35 : PySem.W.exmOne K (.ref e3) (.ref e5) = some false)
    (ap40 : PySem.W.exmOne K (.ref e4) (.ref e0) = some false)
    (ap41 : PySem.W.exmOne K (.ref e4) (.ref e1) = some false)
    (ap42 : PySem.W.exmOne K (.ref e4) (.ref e2) = some false)
    (ap43 : PySem.W.exmOne K (.ref e4) (.ref e3) = some false)
    (ap44 : PySem.W.exmOne K (.ref e4) (.ref e4) = some true)
    (ap45 : PySem.W.exmOne K (.ref e4) (.ref e5) = some false)
    (ap50 : PySem.W.exmOne K (.ref e5) (.ref e0) = some false)
    (ap51 : PySem.W.exmOne K (.ref e5) (.ref e1) = some false)
    (ap52 : PySem.W.exmOne K (.ref e5) (.ref e2) = some false)
    (ap53 : PySem.W.exmOne K (.ref e5) (.ref e3) = some false)
    (ap54 : PySem.W.exmOne K (.ref e5) (.ref e4) = some false)
    (ap55 : PySem.W.exmOne K (.ref e5) (.ref e5) = some true)
    (a_law_pot : PySem.W.nsIn K mainGlobals "_law_pot" = some (some (.ref f_law_pot)))
    (a_law : PySem.W.nsIn K mainGlobals "law" = some (some (.ref f_law)))
    (b_law_pot : FnIn K "_law_pot" "_law_pot" s_law_pot f_law_pot)
    {oc : Value} {od an : Option Addr} {osl : Array (Option Value)} {kV doc pm cdv ct : Value} (l_law : K.lookup f_law = some ⟨oc, od, .func (PySem.W.fnOf "law" "law" (defArgs s_law) (defBody s_law) (defScope s_law) .none kV doc pm an cdv ct), osl⟩) (c_law : PySem.W.codeIn K cdv "law" = true) (k_law : PySem.W.keepIn K (.ref f_law) = true) :
    ∃ fd : FuncData, (∀ (s : Shared) (v : Value), BindsTo s fd ⟨[v], []⟩ [("_law_script", v)]) ∧ ∀ base : Heap, K.In base → base.Ns mainGlobals mg → FnOk l.prog w K mg base (L2.CX l.prog w) 10 fa fd ["_law_script"] (spLaw K) := by
  have e := hfa.symm.trans (PySem.W.mg_of X G a_law)
  cases e
  obtain ⟨fd_is_integer, F_is_integer⟩ := b_is_integer
  obtain ⟨fd_check_whole, F_check_whole⟩ := b_check_whole
  obtain ⟨fd_whole_list, F_whole_list⟩ := b_whole_list
  obtain ⟨fd_check_size, F_check_size⟩ := b_check_size
  obtain ⟨fd_check_range, F_check_range⟩ := b_check_range
  obtain ⟨fd_check_least, F_check_least⟩ := b_check_least
  obtain ⟨fd_check_one_or_two, F_check_one_or_two⟩ := b_check_one_or_two
  obtain ⟨fd_check_most, F_check_most⟩ := b_check_most
  obtain ⟨fd_as_stands, F_as_stands⟩ := b_as_stands
  obtain ⟨fd_is_due, F_is_due⟩ := b_is_due
  obtain ⟨fd_due_in_range, F_due_in_range⟩ := b_due_in_range
  obtain ⟨fd_due_too_great, F_due_too_great⟩ := b_due_too_great
  obtain ⟨fd_check_due, F_check_due⟩ := b_check_due
  obtain ⟨fd_check_due_range, F_check_due_range⟩ := b_check_due_range
  obtain ⟨fd_check_due_size, F_check_due_size⟩ := b_check_due_size
  obtain ⟨fd_due_at, F_due_at⟩ := b_due_at
  obtain ⟨fd_due_number, F_due_number⟩ := b_due_number
  obtain ⟨fd_check_kinds, F_check_kinds⟩ := b_check_kinds
  obtain ⟨fd_check_steps, F_check_steps⟩ := b_check_steps
  obtain ⟨fd_check_parts, F_check_parts⟩ := b_check_parts
  obtain ⟨fd_check_web, F_check_web⟩ := b_check_web
  obtain ⟨fd_check_stand, F_check_stand⟩ := b_check_stand
  obtain ⟨fd_check_moving, F_check_moving⟩ := b_check_moving
  obtain ⟨fd_check_even, F_check_even⟩ := b_check_even
  obtain ⟨fd_check_part_range, F_check_part_range⟩ := b_check_part_range
  obtain ⟨fd_low_of, F_low_of⟩ := b_low_of
  obtain ⟨fd_high_of, F_high_of⟩ := b_high_of
  obtain ⟨fd_least_with, F_least_with⟩ := b_least_with
  obtain ⟨fd_token_bought, F_token_bought⟩ := b_token_bought
  obtain ⟨fd_bids_of, F_bids_of⟩ := b_bids_of
  obtain ⟨fd_first_size, F_first_size⟩ := b_first_size
  obtain ⟨fd_second_size, F_second_size⟩ := b_second_size
  obtain ⟨fd_token_first_told, F_token_first_told⟩ := b_token_first_told
  obtain ⟨fd_check_token_kinds, F_check_token_kinds⟩ := b_check_token_kinds
  obtain ⟨fd_check_token_row, F_check_token_row⟩ := b_check_token_row
  obtain ⟨fd_check_holding, F_check_holding⟩ := b_check_holding
  obtain ⟨fd_check_token_bid, F_check_token_bid⟩ := b_check_token_bid
  obtain ⟨fd_token_first, F_token_first⟩ := b_token_first
  obtain ⟨fd_token_second, F_token_second⟩ := b_token_second
  obtain ⟨fd_token_serves, F_token_serves⟩ := b_token_serves
  obtain ⟨fd_token_half_of, F_token_half_of⟩ := b_token_half_of
  obtain ⟨fd_token_half, F_token_half⟩ := b_token_half
  obtain ⟨fd_token_price_of, F_token_price_of⟩ := b_token_price_of
  obtain ⟨fd_token_price, F_token_price⟩ := b_token_price
  obtain ⟨fd_token_due, F_token_due⟩ := b_token_due
  obtain ⟨fd_law_draw, F_law_draw⟩ := b_law_draw
  obtain ⟨fd_law_whole, F_law_whole⟩ := b_law_whole
  obtain ⟨fd_law_lot, F_law_lot⟩ := b_law_lot
  obtain ⟨fd_law_due, F_law_due⟩ := b_law_due
  obtain ⟨fd_law_marks, F_law_marks⟩ := b_law_marks
  obtain ⟨fd_law_path, F_law_path⟩ := b_law_path
  obtain ⟨fd_law_web, F_law_web⟩ := b_law_web
  obtain ⟨fd_law_due_at, F_law_due_at⟩ := b_law_due_at
  obtain ⟨fd_law_low, F_law_low⟩ := b_law_low
  obtain ⟨fd_law_high, F_law_high⟩ := b_law_high
  obtain ⟨fd_law_made, F_law_made⟩ := b_law_made
  obtain ⟨fd_law_token_row, F_law_token_row⟩ := b_law_token_row
  obtain ⟨fd_law_half_chips, F_law_half_chips⟩ := b_law_half_chips
  obtain ⟨fd_law_after, F_law_after⟩ := b_law_after
  obtain ⟨fd_law_bids, F_law_bids⟩ := b_law_bids
  obtain ⟨fd_law_own_serves, F_law_own_serves⟩ := b_law_own_serves
  obtain ⟨fd_law_size, F_law_size⟩ := b_law_size
  obtain ⟨fd_law_one_side, F_law_one_side⟩ := b_law_one_side
  obtain ⟨fd_law_refused, F_law_refused⟩ := b_law_refused
  obtain ⟨fd_law_bad, F_law_bad⟩ := b_law_bad
  obtain ⟨fd_law_rows, F_law_rows⟩ := b_law_rows
  obtain ⟨fd_Web_init, F_Web_init⟩ := b_Web_init
  obtain ⟨fd_Web_even, F_Web_even⟩ := b_Web_even
  obtain ⟨fd_Web_first, F_Web_first⟩ := b_Web_first
  obtain ⟨fd_Web_second, F_Web_second⟩ := b_Web_second
  obtain ⟨fd_Web_size, F_Web_size⟩ := b_Web_size
  obtain ⟨fd_law_pot, F_law_pot⟩ := b_law_pot
  have F_law := fun_mk (st := s_law) l_law c_law k_law
  let ec : Nat → Addr := fun n => match n with
    | 0 => e0
    | 1 => e1
    | 2 => e2
    | 3 => e3
    | 4 => e4
    | 5 => e5
    | _ => e0
  have apart : ∀ p, ApartB (potCfg K p ec) 6 := fun p => fun n m hn hm => match n, m, hn, hm with
    | 0, 0, _, _ => ap00
    | 0, 1, _, _ => ap01
    | 0, 2, _, _ => ap02
    | 0, 3, _, _ => ap03
    | 0, 4, _, _ => ap04
    | 0, 5, _, _ => ap05
    | 1, 0, _, _ => ap10
    | 1, 1, _, _ => ap11
    | 1, 2, _, _ => ap12
    | 1, 3, _, _ => ap13
    | 1, 4, _, _ => ap14
    | 1, 5, _, _ => ap15
    | 2, 0, _, _ => ap20
    | 2, 1, _, _ => ap21
    | 2, 2, _, _ => ap22
    | 2, 3, _, _ => ap23
    | 2, 4, _, _ => ap24
    | 2, 5, _, _ => ap25
    | 3, 0, _, _ => ap30
    | 3, 1, _, _ => ap31
    | 3, 2, _, _ => ap32
    | 3, 3, _, _ => ap33
    | 3, 4, _, _ => ap34
    | 3, 5, _, _ => ap35
    | 4, 0, _, _ => ap40
    | 4, 1, _, _ => ap41
    | 4, 2, _, _ => ap42
    | 4, 3, _, _ => ap43
    | 4, 4, _, _ => ap44
    | 4, 5, _, _ => ap45
    | 5, 0, _, _ => ap50
    | 5, 1, _, _ => ap51
    | 5, 2, _, _ => ap52
    | 5, 3, _, _ => ap53
    | 5, 4, _, _ => ap54
    | 5, 5, _, _ => ap55
    | n + 6, _, h, _ => absurd h (by omega)
    | 0, m + 6, _, h => absurd h (by omega)
    | 1, m + 6, _, h => absurd h (by omega)
    | 2, m + 6, _, h => absurd h (by omega)
    | 3, m + 6, _, h => absurd h (by omega)
    | 4, m + 6, _, h => absurd h (by omega)
    | 5, m + 6, _, h => absurd h (by omega)
  let A : Adr := { is_integer := f_is_integer, fd_is_integer := fd_is_integer, check_whole := f_check_whole, fd_check_whole := fd_check_whole, whole_list := f_whole_list, fd_whole_list := fd_whole_list, check_size := f_check_size, fd_check_size := fd_check_size, check_range := f_check_range, fd_check_range := fd_check_range, check_least := f_check_least, fd_check_least := fd_check_least, check_one_or_two := f_check_one_or_two, fd_check_one_or_two := fd_check_one_or_two, check_most := f_check_most, fd_check_most := fd_check_most, as_stands := f_as_stands, fd_as_stands := fd_as_stands, is_due := f_is_due, fd_is_due := fd_is_due, due_in_range := f_due_in_range, fd_due_in_range := fd_due_in_range, due_too_great := f_due_too_great, fd_due_too_great := fd_due_too_great, check_due := f_check_due, fd_check_due := fd_check_due, check_due_range := f_check_due_range, fd_check_due_range := fd_check_due_range, check_due_size := f_check_due_size, fd_check_due_size := fd_check_due_size, due_at := f_due_at, fd_due_at := fd_due_at, due_number := f_due_number, fd_due_number := fd_due_number, check_kinds := f_check_kinds, fd_check_kinds := fd_check_kinds, check_steps := f_check_steps, fd_check_steps := fd_check_steps, check_parts := f_check_parts, fd_check_parts := fd_check_parts, check_web := f_check_web, fd_check_web := fd_check_web, check_stand := f_check_stand, fd_check_stand := fd_check_stand, check_moving := f_check_moving, fd_check_moving := fd_check_moving, check_even := f_check_even, fd_check_even := fd_check_even, check_part_range := f_check_part_range, fd_check_part_range := fd_check_part_range, low_of := f_low_of, fd_low_of := fd_low_of, high_of := f_high_of, fd_high_of := fd_high_of, least_with := f_least_with, fd_least_with := fd_least_with, token_bought := f_token_bought, fd_token_bought := fd_token_bought, bids_of := f_bids_of, fd_bids_of := fd_bids_of, first_size := f_first_size, fd_first_size := fd_first_size, second_size := f_second_size, fd_second_size := fd_second_size, token_first_told := f_token_first_told, fd_token_first_told := fd_token_first_told, check_token_kinds := f_check_token_kinds, fd_check_token_kinds := fd_check_token_kinds, check_token_row := f_check_token_row, fd_check_token_row := fd_check_token_row, check_holding := f_check_holding, fd_check_holding := fd_check_holding, check_token_bid := f_check_token_bid, fd_check_token_bid := fd_check_token_bid, token_first := f_token_first, fd_token_first := fd_token_first, token_second := f_token_second, fd_token_second := fd_token_second, token_serves := f_token_serves, fd_token_serves := fd_token_serves, token_half_of := f_token_half_of, fd_token_half_of := fd_token_half_of, token_half := f_token_half, fd_token_half := fd_token_half, token_price_of := f_token_price_of, fd_token_price_of := fd_token_price_of, token_price := f_token_price, fd_token_price := fd_token_price, token_due := f_token_due, fd_token_due := fd_token_due, law_draw := f_law_draw, fd_law_draw := fd_law_draw, law_whole := f_law_whole, fd_law_whole := fd_law_whole, law_lot := f_law_lot, fd_law_lot := fd_law_lot, law_due := f_law_due, fd_law_due := fd_law_due, law_marks := f_law_marks, fd_law_marks := fd_law_marks, law_path := f_law_path, fd_law_path := fd_law_path, law_web := f_law_web, fd_law_web := fd_law_web, law_due_at := f_law_due_at, fd_law_due_at := fd_law_due_at, law_low := f_law_low, fd_law_low := fd_law_low, law_high := f_law_high, fd_law_high := fd_law_high, law_made := f_law_made, fd_law_made := fd_law_made, law_token_row := f_law_token_row, fd_law_token_row := fd_law_token_row, law_half_chips := f_law_half_chips, fd_law_half_chips := fd_law_half_chips, law_after := f_law_after, fd_law_after := fd_law_after, law_bids := f_law_bids, fd_law_bids := fd_law_bids, law_own_serves := f_law_own_serves, fd_law_own_serves := fd_law_own_serves, law_size := f_law_size, fd_law_size := fd_law_size, law_one_side := f_law_one_side, fd_law_one_side := fd_law_one_side, law_refused := f_law_refused, fd_law_refused := fd_law_refused, law_bad := f_law_bad, fd_law_bad := fd_law_bad, law_rows := f_law_rows, fd_law_rows := fd_law_rows, Web_init := f_Web_init, fd_Web_init := fd_Web_init, Web_even := f_Web_even, fd_Web_even := fd_Web_even, pr_Web_even := p_Web_even, Web_first := f_Web_first, fd_Web_first := fd_Web_first, pr_Web_first := p_Web_first, Web_second := f_Web_second, fd_Web_second := fd_Web_second, pr_Web_second := p_Web_second, Web_size := f_Web_size, fd_Web_size := fd_Web_size, pr_Web_size := p_Web_size, ca := { Web := C_Web, Heights := 0, Verdict := 0, Paper := 0, Plan := 0, FirstPlan := 0, SecondPlan := 0, Play := 0, Share := 0, Table := 0, TokenPlan := 0 } }
  have T : ∀ p, Txt (potCfg K p ec) mg A := fun p => { pl := potCfg_pot K p ec, F_is_integer := F_is_integer, m_is_integer := PySem.W.mg_of X G a_is_integer, F_check_whole := F_check_whole, m_check_whole := PySem.W.mg_of X G a_check_whole, F_whole_list := F_whole_list, m_whole_list := PySem.W.mg_of X G a_whole_list, F_check_size := F_check_size, m_check_size := PySem.W.mg_of X G a_check_size, F_check_range := F_check_range, m_check_range := PySem.W.mg_of X G a_check_range, F_check_least := F_check_least, m_check_least := PySem.W.mg_of X G a_check_least, F_check_one_or_two := F_check_one_or_two, m_check_one_or_two := PySem.W.mg_of X G a_check_one_or_two, F_check_most := F_check_most, m_check_most := PySem.W.mg_of X G a_check_most, F_as_stands := F_as_stands, m_as_stands := PySem.W.mg_of X G a_as_stands, F_is_due := F_is_due, m_is_due := PySem.W.mg_of X G a_is_due, F_due_in_range := F_due_in_range, m_due_in_range := PySem.W.mg_of X G a_due_in_range, F_due_too_great := F_due_too_great, m_due_too_great := PySem.W.mg_of X G a_due_too_great, F_check_due := F_check_due, m_check_due := PySem.W.mg_of X G a_check_due, F_check_due_range := F_check_due_range, m_check_due_range := PySem.W.mg_of X G a_check_due_range, F_check_due_size := F_check_due_size, m_check_due_size := PySem.W.mg_of X G a_check_due_size, F_due_at := F_due_at, m_due_at := PySem.W.mg_of X G a_due_at, F_due_number := F_due_number, m_due_number := PySem.W.mg_of X G a_due_number, F_check_kinds := F_check_kinds, m_check_kinds := PySem.W.mg_of X G a_check_kinds, F_check_steps := F_check_steps, m_check_steps := PySem.W.mg_of X G a_check_steps, F_check_parts := F_check_parts, m_check_parts := PySem.W.mg_of X G a_check_parts, F_check_web := F_check_web, m_check_web := PySem.W.mg_of X G a_check_web, F_check_stand := F_check_stand, m_check_stand := PySem.W.mg_of X G a_check_stand, F_check_moving := F_check_moving, m_check_moving := PySem.W.mg_of X G a_check_moving, F_check_even := F_check_even, m_check_even := PySem.W.mg_of X G a_check_even, F_check_part_range := F_check_part_range, m_check_part_range := PySem.W.mg_of X G a_check_part_range, F_low_of := F_low_of, m_low_of := PySem.W.mg_of X G a_low_of, F_high_of := F_high_of, m_high_of := PySem.W.mg_of X G a_high_of, F_least_with := F_least_with, m_least_with := PySem.W.mg_of X G a_least_with, F_token_bought := F_token_bought, m_token_bought := PySem.W.mg_of X G a_token_bought, F_bids_of := F_bids_of, m_bids_of := PySem.W.mg_of X G a_bids_of, F_first_size := F_first_size, m_first_size := PySem.W.mg_of X G a_first_size, F_second_size := F_second_size, m_second_size := PySem.W.mg_of X G a_second_size, F_token_first_told := F_token_first_told, m_token_first_told := PySem.W.mg_of X G a_token_first_told, F_check_token_kinds := F_check_token_kinds, m_check_token_kinds := PySem.W.mg_of X G a_check_token_kinds, F_check_token_row := F_check_token_row, m_check_token_row := PySem.W.mg_of X G a_check_token_row, F_check_holding := F_check_holding, m_check_holding := PySem.W.mg_of X G a_check_holding, F_check_token_bid := F_check_token_bid, m_check_token_bid := PySem.W.mg_of X G a_check_token_bid, F_token_first := F_token_first, m_token_first := PySem.W.mg_of X G a_token_first, F_token_second := F_token_second, m_token_second := PySem.W.mg_of X G a_token_second, F_token_serves := F_token_serves, m_token_serves := PySem.W.mg_of X G a_token_serves, F_token_half_of := F_token_half_of, m_token_half_of := PySem.W.mg_of X G a_token_half_of, F_token_half := F_token_half, m_token_half := PySem.W.mg_of X G a_token_half, F_token_price_of := F_token_price_of, m_token_price_of := PySem.W.mg_of X G a_token_price_of, F_token_price := F_token_price, m_token_price := PySem.W.mg_of X G a_token_price, F_token_due := F_token_due, m_token_due := PySem.W.mg_of X G a_token_due, F_law_draw := F_law_draw, m_law_draw := PySem.W.mg_of X G a_law_draw, F_law_whole := F_law_whole, m_law_whole := PySem.W.mg_of X G a_law_whole, F_law_lot := F_law_lot, m_law_lot := PySem.W.mg_of X G a_law_lot, F_law_due := F_law_due, m_law_due := PySem.W.mg_of X G a_law_due, F_law_marks := F_law_marks, m_law_marks := PySem.W.mg_of X G a_law_marks, F_law_path := F_law_path, m_law_path := PySem.W.mg_of X G a_law_path, F_law_web := F_law_web, m_law_web := PySem.W.mg_of X G a_law_web, F_law_due_at := F_law_due_at, m_law_due_at := PySem.W.mg_of X G a_law_due_at, F_law_low := F_law_low, m_law_low := PySem.W.mg_of X G a_law_low, F_law_high := F_law_high, m_law_high := PySem.W.mg_of X G a_law_high, F_law_made := F_law_made, m_law_made := PySem.W.mg_of X G a_law_made, F_law_token_row := F_law_token_row, m_law_token_row := PySem.W.mg_of X G a_law_token_row, F_law_half_chips := F_law_half_chips, m_law_half_chips := PySem.W.mg_of X G a_law_half_chips, F_law_after := F_law_after, m_law_after := PySem.W.mg_of X G a_law_after, F_law_bids := F_law_bids, m_law_bids := PySem.W.mg_of X G a_law_bids, F_law_own_serves := F_law_own_serves, m_law_own_serves := PySem.W.mg_of X G a_law_own_serves, F_law_size := F_law_size, m_law_size := PySem.W.mg_of X G a_law_size, F_law_one_side := F_law_one_side, m_law_one_side := PySem.W.mg_of X G a_law_one_side, F_law_refused := F_law_refused, m_law_refused := PySem.W.mg_of X G a_law_refused, F_law_bad := F_law_bad, m_law_bad := PySem.W.mg_of X G a_law_bad, F_law_rows := F_law_rows, m_law_rows := PySem.W.mg_of X G a_law_rows, F_Web_init := F_Web_init, m_Web := PySem.W.mg_of X G a_Web, f_Web := g_Web, mk_Web := ⟨q_Web, i_Web, j_Web, k_Web⟩, F_Web_even := F_Web_even, p_Web_even := t_Web_even, F_Web_first := F_Web_first, p_Web_first := t_Web_first, F_Web_second := F_Web_second, p_Web_second := t_Web_second, F_Web_size := F_Web_size, p_Web_size := t_Web_size, a_Web__dues := n_Web__dues, a_Web__ends := n_Web__ends, a_Web__even := n_Web__even, a_Web__first := n_Web__first, a_Web__greatest_due := n_Web__greatest_due, a_Web__marks := n_Web__marks, a_Web__moving := n_Web__moving, a_Web__second := n_Web__second, a_Web__size := n_Web__size, c_GREATEST := v_GREATEST.imp fun t e => PySem.W.mg_of X G e, c_MOST_STANDS := v_MOST_STANDS.imp fun t e => PySem.W.mg_of X G e, c_MOST_SERVING_CHIPS := v_MOST_SERVING_CHIPS.imp fun t e => PySem.W.mg_of X G e, n_bool := PySem.W.mg_none_of X G z_bool, n_enumerate := PySem.W.mg_none_of X G z_enumerate, n_int := PySem.W.mg_none_of X G z_int, n_isinstance := PySem.W.mg_none_of X G z_isinstance, n_len := PySem.W.mg_none_of X G z_len, n_list := PySem.W.mg_none_of X G z_list, n_max := PySem.W.mg_none_of X G z_max, n_min := PySem.W.mg_none_of X G z_min, n_range := PySem.W.mg_none_of X G z_range, n_set := PySem.W.mg_none_of X G z_set, n_sorted := PySem.W.mg_none_of X G z_sorted, n_str := PySem.W.mg_none_of X G z_str, n_tuple := PySem.W.mg_none_of X G z_tuple, mE0 := PySem.W.mg_of X G eA0, xE0 := eX0, kE0 := eK0, bE0 := eB0, tE0 := eT0, mE1 := PySem.W.mg_of X G eA1, xE1 := eX1, kE1 := eK1, bE1 := eB1, tE1 := eT1, mE2 := PySem.W.mg_of X G eA2, xE2 := eX2, kE2 := eK2, bE2 := eB2, tE2 := eT2, mE3 := PySem.W.mg_of X G eA3, xE3 := eX3, kE3 := eK3, bE3 := eB3, tE3 := eT3, mE4 := PySem.W.mg_of X G eA4, xE4 := eX4, kE4 := eK4, bE4 := eB4, tE4 := eT4, mE5 := PySem.W.mg_of X G eA5, xE5 := eX5, kE5 := eK5, bE5 := eB5, tE5 := eT5, apart := apart p }
  exact ⟨PySem.W.fnOf "law" "law" (defArgs s_law) (defBody s_law) (defScope s_law) .none kV doc pm an cdv ct, fun s v => .of_eq rfl, fun base _ _ => ok_law (A := A) (ec := ec) T F_law F_law_pot (PySem.W.mg_of X G a_law_pot)⟩
theorem walk {l : PySem.W.OpenLaw} {q : Program} {loose : List Str} {XP : (Str → Option Value) → Heap → Prop} {YP : World → Heap → Prop} {d : DefRec} {K : Params → PySem.W.Frag} (hn : l.most = some 63) (hdf : d.params.defaults = [])
    (hY : ∀ (w : World) (h : Heap), YP w h → (K w.params).In h)
    (F : ∀ (w : World) (mg : Str → Option Value) (fa : Addr) (h : Heap), (K w.params).In h → h.Ns mainGlobals mg → mg d.name = some (.ref fa) →
      ∃ fd : FuncData, (∀ (s : Shared) (u : Value), BindsTo s fd ⟨[u], []⟩ [("_law_script", u)]) ∧ ∀ base : Heap, (K w.params).In base → base.Ns mainGlobals mg → FnOk l.prog w (K w.params) mg base (L2.CX l.prog w) 10 fa fd ["_law_script"] (spLaw (K w.params))) :
    PySem.W.WalkO q loose XP YP l.row.toRowW d [] (fun f vs => PySem.call f vs) :=
  L2.walk_of (n := 63) (k := 10) (x := "_law_script") (CX := fun w => L2.CX l.prog w) (sp := fun w => spLaw (K w.params)) hn (by decide) hdf ⟨rfl, by decide, by decide⟩ hY F (fun _ _ a ns hl _ hS => ⟨a, ns, rfl, hS, hl, fun _ => rfl⟩) fun w H s e s' z => by
    obtain ⟨_, _, _, _, _, _, _, _, _, _, _, _, h⟩ := z
    exact h
end
end K56
open PySem PySem.W PyProof.Rows
set_option maxRecDepth 100000 in
set_option maxHeartbeats 0 in
theorem PySem.Challenge.cw_pursewebs_k56_token_bids_holds : PySem.Challenge.rw_pursewebs_k56_token_bids.Holds := by
  w_on; o_law; k_head; (case hw => w_witness2)
  k_fill
  refine K56.walk (l := PySem.Challenge.rw_pursewebs_k56_token_bids) rfl rfl (fun w h Y => PySem.W.kIn_of Y) ?F
  case F =>
    intro w mg fa h KX G hmg
    refine' K56.all_mk KX G hmg ?a_is_integer ?b_is_integer ?a_check_whole ?b_check_whole ?a_whole_list ?b_whole_list ?a_check_size ?b_check_size ?a_check_range ?b_check_range ?a_check_least ?b_check_least ?a_check_one_or_two ?b_check_one_or_two ?a_check_most ?b_check_most ?a_as_stands ?b_as_stands ?a_is_due ?b_is_due ?a_due_in_range ?b_due_in_range ?a_due_too_great ?b_due_too_great ?a_check_due ?b_check_due ?a_check_due_range ?b_check_due_range ?a_check_due_size ?b_check_due_size ?a_due_at ?b_due_at ?a_due_number ?b_due_number ?a_check_kinds ?b_check_kinds ?a_check_steps ?b_check_steps ?a_check_parts ?b_check_parts ?a_check_web ?b_check_web ?a_check_stand ?b_check_stand ?a_check_moving ?b_check_moving ?a_check_even ?b_check_even ?a_check_part_range ?b_check_part_range ?a_low_of ?b_low_of ?a_high_of ?b_high_of ?a_least_with ?b_least_with ?a_token_bought ?b_token_bought ?a_bids_of ?b_bids_of ?a_first_size ?b_first_size ?a_second_size ?b_second_size ?a_token_first_told ?b_token_first_told ?a_check_token_kinds ?b_check_token_kinds ?a_check_token_row ?b_check_token_row ?a_check_holding ?b_check_holding ?a_check_token_bid ?b_check_token_bid ?a_token_first ?b_token_first ?a_token_second ?b_token_second ?a_token_serves ?b_token_serves ?a_token_half_of ?b_token_half_of ?a_token_half ?b_token_half ?a_token_price_of ?b_token_price_of ?a_token_price ?b_token_price ?a_token_due ?b_token_due ?a_law_draw ?b_law_draw ?a_law_whole ?b_law_whole ?a_law_lot ?b_law_lot ?a_law_due ?b_law_due ?a_law_marks ?b_law_marks ?a_law_path ?b_law_path ?a_law_web ?b_law_web ?a_law_due_at ?b_law_due_at ?a_law_low ?b_law_low ?a_law_high ?b_law_high ?a_law_made ?b_law_made ?a_law_token_row ?b_law_token_row ?a_law_half_chips ?b_law_half_chips ?a_law_after ?b_law_after ?a_law_bids ?b_law_bids ?a_law_own_serves ?b_law_own_serves ?a_law_size ?b_law_size ?a_law_one_side ?b_law_one_side ?a_law_refused ?b_law_refused ?a_law_bad ?b_law_bad ?a_law_rows ?b_law_rows ?a_Web ?i_Web ?j_Web ?b_Web_init ?q_Web ?k_Web ?g_Web ?t_Web_even ?b_Web_even ?t_Web_first ?b_Web_first ?t_Web_second ?b_Web_second ?t_Web_size ?b_Web_size ?n_Web__dues ?n_Web__ends ?n_Web__even ?n_Web__first ?n_Web__greatest_due ?n_Web__marks ?n_Web__moving ?n_Web__second ?n_Web__size ?v_GREATEST ?v_MOST_STANDS ?v_MOST_SERVING_CHIPS ?z_bool ?z_enumerate ?z_int ?z_isinstance ?z_len ?z_list ?z_max ?z_min ?z_range ?z_set ?z_sorted ?z_str ?z_tuple ?eA0 ?eX0 ?eK0 ?eB0 ?eT0 ?eA1 ?eX1 ?eK1 ?eB1 ?eT1 ?eA2 ?eX2 ?eK2 ?eB2 ?eT2 ?eA3 ?eX3 ?eK3 ?eB3 ?eT3 ?eA4 ?eX4 ?eK4 ?eB4 ?eT4 ?eA5 ?eX5 ?eK5 ?eB5 ?eT5 ?ap00 ?ap01 ?ap02 ?ap03 ?ap04 ?ap05 ?ap10 ?ap11 ?ap12 ?ap13 ?ap14 ?ap15 ?ap20 ?ap21 ?ap22 ?ap23 ?ap24 ?ap25 ?ap30 ?ap31 ?ap32 ?ap33 ?ap34 ?ap35 ?ap40 ?ap41 ?ap42 ?ap43 ?ap44 ?ap45 ?ap50 ?ap51 ?ap52 ?ap53 ?ap54 ?ap55 ?a_law_pot ?a_law ?b_law_pot ?l_law ?c_law ?k_law
    (case a_is_integer => k_is)
    (case b_is_integer => (refine' FX.fnIn_mk ?l ?c ?k; (case l => k_is); (case c => k_is); (case k => k_is)))
    (case a_check_whole => k_is)
    (case b_check_whole => (refine' FX.fnIn_mk ?l ?c ?k; (case l => k_is); (case c => k_is); (case k => k_is)))
    (case a_whole_list => k_is)
    (case b_whole_list => (refine' FX.fnIn_mk ?l ?c ?k; (case l => k_is); (case c => k_is); (case k => k_is)))
    (case a_check_size => k_is)
    (case b_check_size => (refine' FX.fnIn_mk ?l ?c ?k; (case l => k_is); (case c => k_is); (case k => k_is)))
    (case a_check_range => k_is)
    (case b_check_range => (refine' FX.fnIn_mk ?l ?c ?k; (case l => k_is); (case c => k_is); (case k => k_is)))
    (case a_check_least => k_is)
    (case b_check_least => (refine' FX.fnIn_mk ?l ?c ?k; (case l => k_is); (case c => k_is); (case k => k_is)))
    (case a_check_one_or_two => k_is)
    (case b_check_one_or_two => (refine' FX.fnIn_mk ?l ?c ?k; (case l => k_is); (case c => k_is); (case k => k_is)))
    (case a_check_most => k_is)
    (case b_check_most => (refine' FX.fnIn_mk ?l ?c ?k; (case l => k_is); (case c => k_is); (case k => k_is)))
    (case a_as_stands => k_is)
    (case b_as_stands => (refine' FX.fnIn_mk ?l ?c ?k; (case l => k_is); (case c => k_is); (case k => k_is)))
    (case a_is_due => k_is)
    (case b_is_due => (refine' FX.fnIn_mk ?l ?c ?k; (case l => k_is); (case c => k_is); (case k => k_is)))
    (case a_due_in_range => k_is)
    (case b_due_in_range => (refine' FX.fnIn_mk ?l ?c ?k; (case l => k_is); (case c => k_is); (case k => k_is)))
    (case a_due_too_great => k_is)
    (case b_due_too_great => (refine' FX.fnIn_mk ?l ?c ?k; (case l => k_is); (case c => k_is); (case k => k_is)))
    (case a_check_due => k_is)
    (case b_check_due => (refine' FX.fnIn_mk ?l ?c ?k; (case l => k_is); (case c => k_is); (case k => k_is)))
    (case a_check_due_range => k_is)
    (case b_check_due_range => (refine' FX.fnIn_mk ?l ?c ?k; (case l => k_is); (case c => k_is); (case k => k_is)))
    (case a_check_due_size => k_is)
    (case b_check_due_size => (refine' FX.fnIn_mk ?l ?c ?k; (case l => k_is); (case c => k_is); (case k => k_is)))
    (case a_due_at => k_is)
    (case b_due_at => (refine' FX.fnIn_mk ?l ?c ?k; (case l => k_is); (case c => k_is); (case k => k_is)))
    (case a_due_number => k_is)
    (case b_due_number => (refine' FX.fnIn_mk ?l ?c ?k; (case l => k_is); (case c => k_is); (case k => k_is)))
    (case a_check_kinds => k_is)
    (case b_check_kinds => (refine' FX.fnIn_mk ?l ?c ?k; (case l => k_is); (case c => k_is); (case k => k_is)))
    (case a_check_steps => k_is)
    (case b_check_steps => (refine' FX.fnIn_mk ?l ?c ?k; (case l => k_is); (case c => k_is); (case k => k_is)))
    (case a_check_parts => k_is)
    (case b_check_parts => (refine' FX.fnIn_mk ?l ?c ?k; (case l => k_is); (case c => k_is); (case k => k_is)))
    (case a_check_web => k_is)
    (case b_check_web => (refine' FX.fnIn_mk ?l ?c ?k; (case l => k_is); (case c => k_is); (case k => k_is)))
    (case a_check_stand => k_is)
    (case b_check_stand => (refine' FX.fnIn_mk ?l ?c ?k; (case l => k_is); (case c => k_is); (case k => k_is)))
    (case a_check_moving => k_is)
    (case b_check_moving => (refine' FX.fnIn_mk ?l ?c ?k; (case l => k_is); (case c => k_is); (case k => k_is)))
    (case a_check_even => k_is)
    (case b_check_even => (refine' FX.fnIn_mk ?l ?c ?k; (case l => k_is); (case c => k_is); (case k => k_is)))
    (case a_check_part_range => k_is)
    (case b_check_part_range => (refine' FX.fnIn_mk ?l ?c ?k; (case l => k_is); (case c => k_is); (case k => k_is)))
    (case a_low_of => k_is)
    (case b_low_of => (refine' FX.fnIn_mk ?l ?c ?k; (case l => k_is); (case c => k_is); (case k => k_is)))
    (case a_high_of => k_is)
    (case b_high_of => (refine' FX.fnIn_mk ?l ?c ?k; (case l => k_is); (case c => k_is); (case k => k_is)))
    (case a_least_with => k_is)
    (case b_least_with => (refine' FX.fnIn_mk ?l ?c ?k; (case l => k_is); (case c => k_is); (case k => k_is)))
    (case a_token_bought => k_is)
    (case b_token_bought => (refine' FX.fnIn_mk ?l ?c ?k; (case l => k_is); (case c => k_is); (case k => k_is)))
    (case a_bids_of => k_is)
    (case b_bids_of => (refine' FX.fnIn_mk ?l ?c ?k; (case l => k_is); (case c => k_is); (case k => k_is)))
    (case a_first_size => k_is)
    (case b_first_size => (refine' FX.fnIn_mk ?l ?c ?k; (case l => k_is); (case c => k_is); (case k => k_is)))
    (case a_second_size => k_is)
    (case b_second_size => (refine' FX.fnIn_mk ?l ?c ?k; (case l => k_is); (case c => k_is); (case k => k_is)))
    (case a_token_first_told => k_is)
    (case b_token_first_told => (refine' FX.fnIn_mk ?l ?c ?k; (case l => k_is); (case c => k_is); (case k => k_is)))
    (case a_check_token_kinds => k_is)
    (case b_check_token_kinds => (refine' FX.fnIn_mk ?l ?c ?k; (case l => k_is); (case c => k_is); (case k => k_is)))
    (case a_check_token_row => k_is)
    (case b_check_token_row => (refine' FX.fnIn_mk ?l ?c ?k; (case l => k_is); (case c => k_is); (case k => k_is)))
    (case a_check_holding => k_is)
    (case b_check_holding => (refine' FX.fnIn_mk ?l ?c ?k; (case l => k_is); (case c => k_is); (case k => k_is)))
    (case a_check_token_bid => k_is)
    (case b_check_token_bid => (refine' FX.fnIn_mk ?l ?c ?k; (case l => k_is); (case c => k_is); (case k => k_is)))
    (case a_token_first => k_is)
    (case b_token_first => (refine' FX.fnIn_mk ?l ?c ?k; (case l => k_is); (case c => k_is); (case k => k_is)))
    (case a_token_second => k_is)
    (case b_token_second => (refine' FX.fnIn_mk ?l ?c ?k; (case l => k_is); (case c => k_is); (case k => k_is)))
    (case a_token_serves => k_is)
    (case b_token_serves => (refine' FX.fnIn_mk ?l ?c ?k; (case l => k_is); (case c => k_is); (case k => k_is)))
    (case a_token_half_of => k_is)
    (case b_token_half_of => (refine' FX.fnIn_mk ?l ?c ?k; (case l => k_is); (case c => k_is); (case k => k_is)))
    (case a_token_half => k_is)
    (case b_token_half => (refine' FX.fnIn_mk ?l ?c ?k; (case l => k_is); (case c => k_is); (case k => k_is)))
    (case a_token_price_of => k_is)
    (case b_token_price_of => (refine' FX.fnIn_mk ?l ?c ?k; (case l => k_is); (case c => k_is); (case k => k_is)))
    (case a_token_price => k_is)
    (case b_token_price => (refine' FX.fnIn_mk ?l ?c ?k; (case l => k_is); (case c => k_is); (case k => k_is)))
    (case a_token_due => k_is)
    (case b_token_due => (refine' FX.fnIn_mk ?l ?c ?k; (case l => k_is); (case c => k_is); (case k => k_is)))
    (case a_law_draw => k_is)
    (case b_law_draw => (refine' FX.fnIn_mk ?l ?c ?k; (case l => k_is); (case c => k_is); (case k => k_is)))
    (case a_law_whole => k_is)
    (case b_law_whole => (refine' FX.fnIn_mk ?l ?c ?k; (case l => k_is); (case c => k_is); (case k => k_is)))
    (case a_law_lot => k_is)
    (case b_law_lot => (refine' FX.fnIn_mk ?l ?c ?k; (case l => k_is); (case c => k_is); (case k => k_is)))
    (case a_law_due => k_is)
    (case b_law_due => (refine' FX.fnIn_mk ?l ?c ?k; (case l => k_is); (case c => k_is); (case k => k_is)))
    (case a_law_marks => k_is)
    (case b_law_marks => (refine' FX.fnIn_mk ?l ?c ?k; (case l => k_is); (case c => k_is); (case k => k_is)))
    (case a_law_path => k_is)
    (case b_law_path => (refine' FX.fnIn_mk ?l ?c ?k; (case l => k_is); (case c => k_is); (case k => k_is)))
    (case a_law_web => k_is)
    (case b_law_web => (refine' FX.fnIn_mk ?l ?c ?k; (case l => k_is); (case c => k_is); (case k => k_is)))
    (case a_law_due_at => k_is)
    (case b_law_due_at => (refine' FX.fnIn_mk ?l ?c ?k; (case l => k_is); (case c => k_is); (case k => k_is)))
    (case a_law_low => k_is)
    (case b_law_low => (refine' FX.fnIn_mk ?l ?c ?k; (case l => k_is); (case c => k_is); (case k => k_is)))
    (case a_law_high => k_is)
    (case b_law_high => (refine' FX.fnIn_mk ?l ?c ?k; (case l => k_is); (case c => k_is); (case k => k_is)))
    (case a_law_made => k_is)
    (case b_law_made => (refine' FX.fnIn_mk ?l ?c ?k; (case l => k_is); (case c => k_is); (case k => k_is)))
    (case a_law_token_row => k_is)
    (case b_law_token_row => (refine' FX.fnIn_mk ?l ?c ?k; (case l => k_is); (case c => k_is); (case k => k_is)))
    (case a_law_half_chips => k_is)
    (case b_law_half_chips => (refine' FX.fnIn_mk ?l ?c ?k; (case l => k_is); (case c => k_is); (case k => k_is)))
    (case a_law_after => k_is)
    (case b_law_after => (refine' FX.fnIn_mk ?l ?c ?k; (case l => k_is); (case c => k_is); (case k => k_is)))
    (case a_law_bids => k_is)
    (case b_law_bids => (refine' FX.fnIn_mk ?l ?c ?k; (case l => k_is); (case c => k_is); (case k => k_is)))
    (case a_law_own_serves => k_is)
    (case b_law_own_serves => (refine' FX.fnIn_mk ?l ?c ?k; (case l => k_is); (case c => k_is); (case k => k_is)))
    (case a_law_size => k_is)
    (case b_law_size => (refine' FX.fnIn_mk ?l ?c ?k; (case l => k_is); (case c => k_is); (case k => k_is)))
    (case a_law_one_side => k_is)
    (case b_law_one_side => (refine' FX.fnIn_mk ?l ?c ?k; (case l => k_is); (case c => k_is); (case k => k_is)))
    (case a_law_refused => k_is)
    (case b_law_refused => (refine' FX.fnIn_mk ?l ?c ?k; (case l => k_is); (case c => k_is); (case k => k_is)))
    (case a_law_bad => k_is)
    (case b_law_bad => (refine' FX.fnIn_mk ?l ?c ?k; (case l => k_is); (case c => k_is); (case k => k_is)))
    (case a_law_rows => k_is)
    (case b_law_rows => (refine' FX.fnIn_mk ?l ?c ?k; (case l => k_is); (case c => k_is); (case k => k_is)))
    (case a_Web => k_is)
    (case i_Web => k_is)
    (case j_Web => k_is)
    (case b_Web_init => (refine' FX.fnIn_mk ?l ?c ?k; (case l => k_is); (case c => k_is); (case k => k_is)))
    (case q_Web => k_is)
    (case k_Web => k_is)
    (case g_Web => (refine' FX.clsF_at ⟨?x1, ?x2, ?x3, ?x4⟩ ?x5 ?x6 ?x7 ?x8; (case x1 => k_is); (case x2 => k_is); (case x3 => k_is); (case x4 => k_is); (case x5 => k_is); (case x6 => k_is); (case x7 => k_is); (case x8 => k_is)))
    (case t_Web_even => (refine' FX.prop_at ?x1 ?x2 ?x3; (case x1 => k_is); (case x2 => k_is); (case x3 => rfl)))
    (case b_Web_even => (refine' FX.fnIn_mk ?l ?c ?k; (case l => k_is); (case c => k_is); (case k => k_is)))
    (case t_Web_first => (refine' FX.prop_at ?x1 ?x2 ?x3; (case x1 => k_is); (case x2 => k_is); (case x3 => rfl)))
    (case b_Web_first => (refine' FX.fnIn_mk ?l ?c ?k; (case l => k_is); (case c => k_is); (case k => k_is)))
    (case t_Web_second => (refine' FX.prop_at ?x1 ?x2 ?x3; (case x1 => k_is); (case x2 => k_is); (case x3 => rfl)))
    (case b_Web_second => (refine' FX.fnIn_mk ?l ?c ?k; (case l => k_is); (case c => k_is); (case k => k_is)))
    (case t_Web_size => (refine' FX.prop_at ?x1 ?x2 ?x3; (case x1 => k_is); (case x2 => k_is); (case x3 => rfl)))
    (case b_Web_size => (refine' FX.fnIn_mk ?l ?c ?k; (case l => k_is); (case c => k_is); (case k => k_is)))
    (case n_Web__dues => k_is)
    (case n_Web__ends => k_is)
    (case n_Web__even => k_is)
    (case n_Web__first => k_is)
    (case n_Web__greatest_due => k_is)
    (case n_Web__marks => k_is)
    (case n_Web__moving => k_is)
    (case n_Web__second => k_is)
    (case n_Web__size => k_is)
    (case v_GREATEST => exact ⟨_, rfl⟩)
    (case v_MOST_STANDS => exact ⟨_, rfl⟩)
    (case v_MOST_SERVING_CHIPS => exact ⟨_, rfl⟩)
    (case z_bool => k_is)
    (case z_enumerate => k_is)
    (case z_int => k_is)
    (case z_isinstance => k_is)
    (case z_len => k_is)
    (case z_list => k_is)
    (case z_max => k_is)
    (case z_min => k_is)
    (case z_range => k_is)
    (case z_set => k_is)
    (case z_sorted => k_is)
    (case z_str => k_is)
    (case z_tuple => k_is)
    (case eA0 => k_is)
    (case eX0 => k_exc)
    (case eK0 => k_is)
    (case eB0 => k_is)
    (case eT0 => k_is)
    (case eA1 => k_is)
    (case eX1 => k_exc)
    (case eK1 => k_is)
    (case eB1 => k_is)
    (case eT1 => k_is)
    (case eA2 => k_is)
    (case eX2 => k_exc)
    (case eK2 => k_is)
    (case eB2 => k_is)
    (case eT2 => k_is)
    (case eA3 => k_is)
    (case eX3 => k_exc)
    (case eK3 => k_is)
    (case eB3 => k_is)
    (case eT3 => k_is)
    (case eA4 => k_is)
    (case eX4 => k_exc)
    (case eK4 => k_is)
    (case eB4 => k_is)
    (case eT4 => k_is)
    (case eA5 => k_is)
    (case eX5 => k_exc)
    (case eK5 => k_is)
    (case eB5 => k_is)
    (case eT5 => k_is)
    (case ap00 => (refine' FX.exm_at ?x1 ?x2 ?x3 ?x4; (case x1 => k_is); (case x2 => k_is); (case x3 => k_is); (case x4 => first | rfl | k_is)))
    (case ap01 => (refine' FX.exm_at ?x1 ?x2 ?x3 ?x4; (case x1 => k_is); (case x2 => k_is); (case x3 => k_is); (case x4 => first | rfl | k_is)))
    (case ap02 => (refine' FX.exm_at ?x1 ?x2 ?x3 ?x4; (case x1 => k_is); (case x2 => k_is); (case x3 => k_is); (case x4 => first | rfl | k_is)))
    (case ap03 => (refine' FX.exm_at ?x1 ?x2 ?x3 ?x4; (case x1 => k_is); (case x2 => k_is); (case x3 => k_is); (case x4 => first | rfl | k_is)))
    (case ap04 => (refine' FX.exm_at ?x1 ?x2 ?x3 ?x4; (case x1 => k_is); (case x2 => k_is); (case x3 => k_is); (case x4 => first | rfl | k_is)))
    (case ap05 => (refine' FX.exm_at ?x1 ?x2 ?x3 ?x4; (case x1 => k_is); (case x2 => k_is); (case x3 => k_is); (case x4 => first | rfl | k_is)))
    (case ap10 => (refine' FX.exm_at ?x1 ?x2 ?x3 ?x4; (case x1 => k_is); (case x2 => k_is); (case x3 => k_is); (case x4 => first | rfl | k_is)))
    (case ap11 => (refine' FX.exm_at ?x1 ?x2 ?x3 ?x4; (case x1 => k_is); (case x2 => k_is); (case x3 => k_is); (case x4 => first | rfl | k_is)))
    (case ap12 => (refine' FX.exm_at ?x1 ?x2 ?x3 ?x4; (case x1 => k_is); (case x2 => k_is); (case x3 => k_is); (case x4 => first | rfl | k_is)))
    (case ap13 => (refine' FX.exm_at ?x1 ?x2 ?x3 ?x4; (case x1 => k_is); (case x2 => k_is); (case x3 => k_is); (case x4 => first | rfl | k_is)))
    (case ap14 => (refine' FX.exm_at ?x1 ?x2 ?x3 ?x4; (case x1 => k_is); (case x2 => k_is); (case x3 => k_is); (case x4 => first | rfl | k_is)))
    (case ap15 => (refine' FX.exm_at ?x1 ?x2 ?x3 ?x4; (case x1 => k_is); (case x2 => k_is); (case x3 => k_is); (case x4 => first | rfl | k_is)))
    (case ap20 => (refine' FX.exm_at ?x1 ?x2 ?x3 ?x4; (case x1 => k_is); (case x2 => k_is); (case x3 => k_is); (case x4 => first | rfl | k_is)))
    (case ap21 => (refine' FX.exm_at ?x1 ?x2 ?x3 ?x4; (case x1 => k_is); (case x2 => k_is); (case x3 => k_is); (case x4 => first | rfl | k_is)))
    (case ap22 => (refine' FX.exm_at ?x1 ?x2 ?x3 ?x4; (case x1 => k_is); (case x2 => k_is); (case x3 => k_is); (case x4 => first | rfl | k_is)))
    (case ap23 => (refine' FX.exm_at ?x1 ?x2 ?x3 ?x4; (case x1 => k_is); (case x2 => k_is); (case x3 => k_is); (case x4 => first | rfl | k_is)))
    (case ap24 => (refine' FX.exm_at ?x1 ?x2 ?x3 ?x4; (case x1 => k_is); (case x2 => k_is); (case x3 => k_is); (case x4 => first | rfl | k_is)))
    (case ap25 => (refine' FX.exm_at ?x1 ?x2 ?x3 ?x4; (case x1 => k_is); (case x2 => k_is); (case x3 => k_is); (case x4 => first | rfl | k_is)))
    (case ap30 => (refine' FX.exm_at ?x1 ?x2 ?x3 ?x4; (case x1 => k_is); (case x2 => k_is); (case x3 => k_is); (case x4 => first | rfl | k_is)))
    (case ap31 => (refine' FX.exm_at ?x1 ?x2 ?x3 ?x4; (case x1 => k_is); (case x2 => k_is); (case x3 => k_is); (case x4 => first | rfl | k_is)))
    (case ap32 => (refine' FX.exm_at ?x1 ?x2 ?x3 ?x4; (case x1 => k_is); (case x2 => k_is); (case x3 => k_is); (case x4 => first | rfl | k_is)))
    (case ap33 => (refine' FX.exm_at ?x1 ?x2 ?x3 ?x4; (case x1 => k_is); (case x2 => k_is); (case x3 => k_is); (case x4 => first | rfl | k_is)))
    (case ap34 => (refine' FX.exm_at ?x1 ?x2 ?x3 ?x4; (case x1 => k_is); (case x2 => k_is); (case x3 => k_is); (case x4 => first | rfl | k_is)))
    (case ap35 => (refine' FX.exm_at ?x1 ?x2 ?x3 ?x4; (case x1 => k_is); (case x2 => k_is); (case x3 => k_is); (case x4 => first | rfl | k_is)))
    (case ap40 => (refine' FX.exm_at ?x1 ?x2 ?x3 ?x4; (case x1 => k_is); (case x2 => k_is); (case x3 => k_is); (case x4 => first | rfl | k_is)))
    (case ap41 => (refine' FX.exm_at ?x1 ?x2 ?x3 ?x4; (case x1 => k_is); (case x2 => k_is); (case x3 => k_is); (case x4 => first | rfl | k_is)))
    (case ap42 => (refine' FX.exm_at ?x1 ?x2 ?x3 ?x4; (case x1 => k_is); (case x2 => k_is); (case x3 => k_is); (case x4 => first | rfl | k_is)))
    (case ap43 => (refine' FX.exm_at ?x1 ?x2 ?x3 ?x4; (case x1 => k_is); (case x2 => k_is); (case x3 => k_is); (case x4 => first | rfl | k_is)))
    (case ap44 => (refine' FX.exm_at ?x1 ?x2 ?x3 ?x4; (case x1 => k_is); (case x2 => k_is); (case x3 => k_is); (case x4 => first | rfl | k_is)))
    (case ap45 => (refine' FX.exm_at ?x1 ?x2 ?x3 ?x4; (case x1 => k_is); (case x2 => k_is); (case x3 => k_is); (case x4 => first | rfl | k_is)))
    (case ap50 => (refine' FX.exm_at ?x1 ?x2 ?x3 ?x4; (case x1 => k_is); (case x2 => k_is); (case x3 => k_is); (case x4 => first | rfl | k_is)))
    (case ap51 => (refine' FX.exm_at ?x1 ?x2 ?x3 ?x4; (case x1 => k_is); (case x2 => k_is); (case x3 => k_is); (case x4 => first | rfl | k_is)))
    (case ap52 => (refine' FX.exm_at ?x1 ?x2 ?x3 ?x4; (case x1 => k_is); (case x2 => k_is); (case x3 => k_is); (case x4 => first | rfl | k_is)))
    (case ap53 => (refine' FX.exm_at ?x1 ?x2 ?x3 ?x4; (case x1 => k_is); (case x2 => k_is); (case x3 => k_is); (case x4 => first | rfl | k_is)))
    (case ap54 => (refine' FX.exm_at ?x1 ?x2 ?x3 ?x4; (case x1 => k_is); (case x2 => k_is); (case x3 => k_is); (case x4 => first | rfl | k_is)))
    (case ap55 => (refine' FX.exm_at ?x1 ?x2 ?x3 ?x4; (case x1 => k_is); (case x2 => k_is); (case x3 => k_is); (case x4 => first | rfl | k_is)))
    (case a_law_pot => k_is)
    (case a_law => k_is)
    (case b_law_pot => (refine' FX.fnIn_mk ?l ?c ?k; (case l => k_is); (case c => k_is); (case k => k_is)))
    (case l_law => k_is)
    (case c_law => k_is)
    (case k_law => k_is)
