import PyProof.Rows.All
import Wide.All
import OpenK.AllK
import Wide.FinOn
import HandS.ForMost
import HandS.ForExc
import HandS.TryMany
import HandS.Star
import HandS.Strs
import HandS.SetFor
import HandS.IsInst
import HandS.Property
import HandS.Conv
import HandS.Small
import HandS.RevRange
import PySem.Challenge.RW_pursewebs_k05_price_is_the_least_purse_t
set_option Elab.async false
set_option linter.all false
set_option maxRecDepth 100000
set_option maxHeartbeats 4000000
/-! A pure reading of programs over nested lists: data D, a pot of ints that may be drawn from, local lists that may grow (cells); each construct of the text gets a function, and one lemma says that the layer's reading follows it. -/
namespace Den
open PySem L2

inductive Ty where
  | non | bl | int | str | lst | tup
  deriving DecidableEq
def Ty.name : Ty → String
  | .non => "NoneType"
  | .bl => "bool"
  | .int => "int"
  | .str => "str"
  | .lst => "list"
  | .tup => "tuple"
inductive D where
  | non | bl (b : Bool) | int (i : Int) | str (x : Str) | lst (ds : List D) | tup (ds : List D) | ins (C : Addr) (ns : List Str) (ds : List D) | pot | ty (n : Ty) | cls (C : Addr)

mutual
/-- the value v is the datum d, as far as the standing part G of the heap tells -/
inductive At (P : Addr) (G : Hp) : V → D → Prop
  | non : At P G .non .non
  | bl (b : Bool) : At P G (.bl b) (.bl b)
  | int (i : Int) : At P G (.int i) (.int i)
  | str (x : Str) : At P G (.str x) (.str x)
  | lst {p : Addr} {vs : List V} {ds : List D} (h : G p = some (.lst vs)) (a : AtL P G vs ds) : At P G (.ref p) (.lst ds)
  | tup {p : Addr} {vs : List V} {ds : List D} (h : G p = some (.tup vs)) (a : AtL P G vs ds) : At P G (.ref p) (.tup ds)
  | ins {p dx C : Addr} {ns : List Str} {vs : List V} {ds : List D} (h : G p = some (.ins C dx (ns.zip vs))) (a : AtL P G vs ds) : At P G (.ref p) (.ins C ns ds)
  | pot : At P G (.ref P) .pot
  | ty (n : Ty) : At P G (.ty n.name) (.ty n)
  | cls (C : Addr) : At P G (.ref C) (.cls C)
inductive AtL (P : Addr) (G : Hp) : List V → List D → Prop
  | nil : AtL P G [] []
  | cons {v : V} {d : D} {vs : List V} {ds : List D} (h : At P G v d) (t : AtL P G vs ds) : AtL P G (v :: vs) (d :: ds)
end

def Ex (H H' : Hp) : Prop := ∀ a o, H a = some o → H' a = some o
theorem Ex.refl (H : Hp) : Ex H H := fun _ _ h => h
theorem Ex.trans {H H1 H2 : Hp} (a : Ex H H1) (b : Ex H1 H2) : Ex H H2 := fun x o h => b x o (a x o h)
theorem Ex.new {H : Hp} {p : Addr} {o : HO} (h : H p = none) : Ex H (upd H p o) := fun a u e => by
  rw [upd_ne (ne_of_none e h)]
  exact e

mutual
theorem At.mono {P : Addr} {G G' : Hp} (e : Ex G G') : ∀ {v : V} {d : D}, At P G v d → At P G' v d
  | _, _, .non => .non
  | _, _, .bl b => .bl b
  | _, _, .int i => .int i
  | _, _, .str x => .str x
  | _, _, .lst h a => .lst (e _ _ h) (AtL.mono e a)
  | _, _, .tup h a => .tup (e _ _ h) (AtL.mono e a)
  | _, _, .ins h a => .ins (e _ _ h) (AtL.mono e a)
  | _, _, .pot => .pot
  | _, _, .ty n => .ty n
  | _, _, .cls C => .cls C
theorem AtL.mono {P : Addr} {G G' : Hp} (e : Ex G G') : ∀ {vs : List V} {ds : List D}, AtL P G vs ds → AtL P G' vs ds
  | _, _, .nil => .nil
  | _, _, .cons h t => .cons (At.mono e h) (AtL.mono e t)
end
section
variable {P : Addr} {G : Hp}
theorem AtL.length : ∀ {vs : List V} {ds : List D}, AtL P G vs ds → vs.length = ds.length
  | _, _, .nil => rfl
  | _, _, .cons _ t => by simp [AtL.length t]
theorem AtL.get : ∀ {vs : List V} {ds : List D} {i : Nat} {d : D}, AtL P G vs ds → ds[i]? = some d → ∃ v, vs[i]? = some v ∧ At P G v d
  | _, _, _, _, .nil, e => by simp at e
  | _, _, 0, _, .cons h _, e => by simp at e; subst e; exact ⟨_, rfl, h⟩
  | _, _, i + 1, d, .cons _ t, e => by
    obtain ⟨v, h1, h2⟩ := AtL.get (i := i) (d := d) t (by simpa using e)
    exact ⟨v, by simpa using h1, h2⟩
theorem AtL.getV : ∀ {vs : List V} {ds : List D} {i : Nat} {v : V}, AtL P G vs ds → vs[i]? = some v → ∃ d, ds[i]? = some d ∧ At P G v d
  | _, _, _, _, .nil, e => by simp at e
  | _, _, 0, _, .cons h _, e => by simp at e; subst e; exact ⟨_, rfl, h⟩
  | _, _, i + 1, v, .cons _ t, e => by
    obtain ⟨d, h1, h2⟩ := AtL.getV (i := i) (v := v) t (by simpa using e)
    exact ⟨d, by simpa using h1, h2⟩
theorem AtL.append : ∀ {vs ws : List V} {ds es : List D}, AtL P G vs ds → AtL P G ws es → AtL P G (vs ++ ws) (ds ++ es)
  | _, _, _, _, .nil, s => s
  | _, _, _, _, .cons h t, s => .cons h (AtL.append t s)
theorem AtL.take : ∀ {vs : List V} {ds : List D} (n : Nat), AtL P G vs ds → AtL P G (vs.take n) (ds.take n)
  | _, _, 0, _ => .nil
  | _, _, _ + 1, .nil => .nil
  | _, _, n + 1, .cons h t => .cons h (AtL.take n t)
theorem AtL.drop : ∀ {vs : List V} {ds : List D} (n : Nat), AtL P G vs ds → AtL P G (vs.drop n) (ds.drop n)
  | _, _, 0, a => a
  | _, _, _ + 1, .nil => .nil
  | _, _, n + 1, .cons h t => AtL.drop n t
theorem AtL.set {v : V} {d : D} (h : At P G v d) : ∀ {vs : List V} {ds : List D} (i : Nat), AtL P G vs ds → AtL P G (vs.set i v) (ds.set i d)
  | _, _, _, .nil => .nil
  | _, _, 0, .cons _ t => .cons h t
  | _, _, i + 1, .cons q t => .cons q (AtL.set h i t)
theorem AtL.ints : ∀ {ns : List Int}, AtL P G (ns.map V.int) (ns.map D.int)
  | [] => .nil
  | n :: ns => .cons (.int n) AtL.ints
theorem AtL.of_ints : ∀ {vs : List V} {ns : List Int}, AtL P G vs (ns.map D.int) → vs = ns.map V.int
  | vs, [], h => by cases h; rfl
  | vs, n :: ns, h => by
    cases h with
    | cons h t =>
      cases h
      rw [AtL.of_ints t]
      rfl
end

/-- from (G, H) on: the standing part grows, what stood stands (but the pot), what is new was free -/
structure Stp (P : Addr) (G H G' H' : Hp) : Prop where
  gg : Ex G G'
  gh : Ex G' H'
  keep : ∀ q o, H q = some o → q ≠ P → H' q = some o
  there : ∀ q, H' q = none → H q = none
  new : ∀ p o, G' p = some o → G p = some o ∨ H p = none
theorem Stp.refl {P : Addr} {G H : Hp} (gh : Ex G H) : Stp P G H G H := ⟨Ex.refl G, gh, fun _ _ h _ => h, fun _ h => h, fun _ _ h => .inl h⟩
theorem Stp.trans {P : Addr} {G H G1 H1 G2 H2 : Hp} (a : Stp P G H G1 H1) (b : Stp P G1 H1 G2 H2) : Stp P G H G2 H2 :=
  ⟨a.gg.trans b.gg, b.gh, fun q o h n => b.keep q o (a.keep q o h n) n, fun q h => a.there q (b.there q h), fun p o h => (b.new p o h).elim (fun z => a.new p o z) fun z => .inr (a.there p z)⟩
/-- a new object, standing from now on -/
theorem Stp.lay {P : Addr} {G H : Hp} {p : Addr} {o : HO} (gh : Ex G H) (h : H p = none) : Stp P G H (upd G p o) (upd H p o) := by
  refine ⟨fun a u e => ?_, fun a u e => ?_, fun q u e _ => ?_, fun q e => ?_, fun a u e => ?_⟩
  · rw [upd_ne (ne_of_none (gh a u e) h)]; exact e
  · by_cases z : a = p
    · subst z; rw [upd_same] at e; rw [upd_same]; exact e
    · rw [upd_ne z] at e; rw [upd_ne z]; exact gh a u e
  · rw [upd_ne (ne_of_none e h)]; exact e
  · by_cases z : q = p
    · subst z; exact h
    · rw [upd_ne z] at e; exact e
  · by_cases z : a = p
    · subst z; exact .inr h
    · rw [upd_ne z] at e; exact .inl e
/-- a new object that does not stand yet -/
theorem Stp.lay0 {P : Addr} {G H : Hp} {p : Addr} {o : HO} (gh : Ex G H) (h : H p = none) : Stp P G H G (upd H p o) := by
  refine ⟨Ex.refl G, fun a u e => ?_, fun q u e _ => ?_, fun q e => ?_, fun a u e => .inl e⟩
  · rw [upd_ne (ne_of_none (gh a u e) h)]; exact gh a u e
  · rw [upd_ne (ne_of_none e h)]; exact e
  · by_cases z : q = p
    · subst z; exact h
    · rw [upd_ne z] at e; exact e

/-- what a slot holds: a datum, a list of one's own, an instance that is being made -/
inductive L where
  | dat (d : D) | cell (ds : List D) | obj (a C : Addr) (ns : List Str) (ds : List D)
abbrev Loc := List (Option L)

structure Cfg where
  K : PySem.W.Frag
  P : Addr
  ec : Nat → Addr

def SlotAt (P : Addr) (H0 G H : Hp) : Option (Option V) → L → Prop
  | some (some v), .dat d => At P G v d
  | some (some (.ref p)), .cell ds => ∃ vs, H p = some (.lst vs) ∧ AtL P G vs ds ∧ G p = none ∧ H0 p = none
  | some (some (.ref p)), .obj a C ns ds => p = a ∧ ∃ vs dx, H p = some (.ins C dx (ns.zip vs)) ∧ AtL P G vs ds ∧ G p = none ∧ H0 p = none ∧ p ≠ P
  | _, _ => False
def owned : L → Bool
  | .dat _ => false
  | _ => true

structure Rel (c : Cfg) (G0 H0 G H : Hp) (σ : St) (l : Loc) (pot : List Int) : Prop where
  stp : Stp c.P G0 H0 G H
  pot : H c.P = some (.lst (pot.map V.int))
  gP : G c.P = none
  hP : H0 c.P ≠ none
  len : σ.length = l.length
  slot : ∀ (i : Nat) (x : L), l[i]? = some (some x) → SlotAt c.P H0 G H σ[i]? x
  dist : ∀ (i j : Nat) (x y : L), l[i]? = some (some x) → l[j]? = some (some y) → owned x = true → owned y = true → i ≠ j → σ[i]? ≠ σ[j]?

inductive R (α : Type) where
  | ok (a : α) (pot : List Int) | err (n : Nat) (pot : List Int) | bad
def R.bind {α β : Type} : R α → (α → List Int → R β) → R β
  | .ok a p, k => k a p
  | .err n p, _ => .err n p
  | .bad, _ => .bad
abbrev M (α : Type) := Loc → List Int → R α

section
variable {c : Cfg} {G0 H0 G H G' H' : Hp} {σ : St} {l : Loc} {pot pot' : List Int}
theorem SlotAt.step {x : L} {o : Option (Option V)} (hp : H c.P ≠ none) (hh : H0 c.P ≠ none) (s : Stp c.P G H G' H') (a : SlotAt c.P H0 G H o x) : SlotAt c.P H0 G' H' o x := by
  have pres : ∀ {p : Addr} {u : HO}, H p = some u → G p = none → G' p = none := fun {p u} h1 h2 => by
    cases e : G' p with
    | none => rfl
    | some w =>
      rcases s.new p w e with z | z
      · rw [h2] at z; cases z
      · rw [h1] at z; cases z
  match o, x, a with
  | some (some v), .dat d, a => exact At.mono s.gg a
  | some (some (.ref p)), .cell ds, ⟨vs, h1, h2, h3, h4⟩ =>
    exact ⟨vs, s.keep p _ h1 (fun z => hh (by rw [← z]; exact h4)), AtL.mono s.gg h2, pres h1 h3, h4⟩
  | some (some (.ref p)), .obj a C ns ds, ⟨ea, vs, dx, h1, h2, h3, h4, h5⟩ => exact ⟨ea, vs, dx, s.keep p _ h1 h5, AtL.mono s.gg h2, pres h1 h3, h4, h5⟩
theorem Rel.hp (r : Rel c G0 H0 G H σ l pot) : H c.P ≠ none := by rw [r.pot]; exact fun z => nomatch z
/-- the state behind an expression -/
theorem Rel.step (r : Rel c G0 H0 G H σ l pot) (s : Stp c.P G H G' H') (hp : H' c.P = some (.lst (pot'.map V.int))) : Rel c G0 H0 G' H' σ l pot' := by
  refine ⟨r.stp.trans s, hp, ?_, r.hP, r.len, fun i x e => (r.slot i x e).step r.hp r.hP s, r.dist⟩
  cases e : G' c.P with
  | none => rfl
  | some w =>
    rcases s.new _ w e with z | z
    · rw [r.gP] at z; cases z
    · exact absurd z r.hp
end

/-- what is wanted behind a reading that comes to r -/
def Post (c : Cfg) (E : St → XK) {α β : Type} (rel : Hp → α → β → Prop) (G0 H0 G H : Hp) (σ : St) (l : Loc) : R β → (α → Hp → Prop) → Prop
  | .ok b p, Q => ∀ a G' H', Stp c.P G H G' H' → Rel c G0 H0 G' H' σ l p → rel G' a b → Q a H'
  | .err n p, _ => ∀ G' H', Ex G G' → Rel c G0 H0 G' H' σ l p → E σ (.ref (c.ec n)) none H'
  | .bad, _ => False
/-- what an expression's (a test's, an argument list's) reading owes to its function -/
def Sn (c : Cfg) (E : St → XK) {α β : Type} (rel : Hp → α → β → Prop) (t : St → Hp → (α → Hp → Prop) → Prop) (e : M β) : Prop :=
  ∀ G0 H0 G H σ l pot, Rel c G0 H0 G H σ l pot → ∀ Q : α → Hp → Prop, Post c E rel G0 H0 G H σ l (e l pot) Q → t σ H Q
abbrev rD (c : Cfg) : Hp → V → D → Prop := fun G v d => At c.P G v d
abbrev rB : Hp → Bool → Bool → Prop := fun _ a b => a = b
abbrev rA (c : Cfg) : Hp → List V → List D → Prop := fun G v d => AtL c.P G v d
abbrev SE (c : Cfg) (E : St → XK) (t : TE) (e : M D) : Prop := Sn c E (rD c) t e
abbrev ST (c : Cfg) (E : St → XK) (t : TT) (e : M Bool) : Prop := Sn c E rB t e
abbrev SA (c : Cfg) (E : St → XK) (t : TA) (e : M (List D)) : Prop := Sn c E (rA c) t e
def mbind {α β : Type} (a : M α) (k : α → M β) : M β := fun l p => (a l p).bind fun x p' => k x l p'
def mret {α : Type} (a : α) : M α := fun _ p => .ok a p
def mlift {α : Type} : Option α → M α
  | some a => mret a
  | none => fun _ _ => .bad

section
variable {c : Cfg} {E : St → XK} {α β : Type} {rel : Hp → α → β → Prop} {G0 H0 G H G' H' : Hp} {σ : St} {l : Loc} {pot pot' : List Int}
theorem Post.mono {r : R β} {Q : α → Hp → Prop} (p : Post c E rel G0 H0 G H σ l r Q) (s : Stp c.P G H G' H') : Post c E rel G0 H0 G' H' σ l r Q := by
  cases r with
  | ok b q => exact fun a G2 H2 s2 r2 ra => p a G2 H2 (s.trans s2) r2 ra
  | err n q => exact fun G2 H2 e2 r2 => p G2 H2 (s.gg.trans e2) r2
  | bad => exact p
theorem Post.ok {b : β} {Q : α → Hp → Prop} {a : α} (p : Post c E rel G0 H0 G H σ l (.ok b pot) Q) (r : Rel c G0 H0 G H σ l pot) (h : rel G a b) : Q a H := p a G H (Stp.refl r.stp.gh) r h
theorem Sn.go {γ δ : Type} {rel' : Hp → γ → δ → Prop} {t1 : St → Hp → (γ → Hp → Prop) → Prop} {e1 : M δ} (h1 : Sn c E rel' t1 e1) (r : Rel c G0 H0 G H σ l pot) {k : δ → M β} {Q : α → Hp → Prop} {X : γ → Hp → Prop}
    (post : Post c E rel G0 H0 G H σ l (mbind e1 k l pot) Q)
    (h2 : ∀ a b p G' H', Stp c.P G H G' H' → Rel c G0 H0 G' H' σ l p → rel' G' a b → Post c E rel G0 H0 G' H' σ l (k b l p) Q → X a H') : t1 σ H X := by
  refine h1 G0 H0 G H σ l pot r _ ?_
  unfold mbind at post
  cases e : e1 l pot with
  | ok b p =>
    rw [e] at post
    exact fun a G' H' s r' ra => h2 a b p G' H' s r' ra (Post.mono post s)
  | err n p =>
    rw [e] at post
    exact post
  | bad =>
    rw [e] at post
    exact post
end
end Den

namespace Den
open PySem L2
section
variable {c : Cfg} {E : St → XK}

/-! ### names and constants -/
def mvar (i : Nat) : M D := fun l p => match l[i]? with
  | some (some (.dat d)) => .ok d p
  | _ => .bad
theorem se_var {i : Nat} : SE c E (tVar i) (mvar i) := by
  intro G0 H0 G H σ l pot r Q post
  unfold mvar at post
  split at post
  · rename_i d e
    have a := r.slot i _ e
    cases e2 : σ[i]? with
    | none => rw [e2] at a; exact a.elim
    | some o =>
      cases o with
      | none => rw [e2] at a; exact a.elim
      | some v =>
        rw [e2] at a
        exact ⟨v, e2, Post.ok post r a⟩
  · exact post.elim
theorem se_c {v : V} {d : D} (h : ∀ P G, At P G v d) : SE c E (tC v) (mret d) := fun G0 H0 G H σ l pot r Q post => Post.ok post r (h _ _)
theorem se_int {i : Int} : SE c E (tC (.int i)) (mret (.int i)) := se_c fun _ _ => .int i
theorem se_str {x : Str} : SE c E (tC (.str x)) (mret (.str x)) := se_c fun _ _ => .str x
theorem se_bl {b : Bool} : SE c E (tC (.bl b)) (mret (.bl b)) := se_c fun _ _ => .bl b
theorem se_non : SE c E (tC .non) (mret .non) := se_c fun _ _ => .non

/-! ### operations on values -/
/-- behind an operation: perhaps something new, the pot as it was -/
def OpS (c : Cfg) (t : Hp → VK → Prop) (G H : Hp) (d : D) : Prop := ∀ Q : VK, (∀ v G' H', Stp c.P G H G' H' → H' c.P = H c.P → At c.P G' v d → Q v H') → t H Q
structure S2 (c : Cfg) (r : R2) (f : D → D → Option D) : Prop where
  run : ∀ G H x y dx dy d, Ex G H → H c.P ≠ none → At c.P G x dx → At c.P G y dy → f dx dy = some d → OpS c (r x y) G H d
structure S1 (c : Cfg) (r : V → Hp → VK → Prop) (f : D → Option D) : Prop where
  run : ∀ G H x dx d, Ex G H → H c.P ≠ none → At c.P G x dx → f dx = some d → OpS c (r x) G H d
structure SN (c : Cfg) (r : List V → Hp → VK → Prop) (f : List D → Option D) : Prop where
  run : ∀ G H xs ds d, Ex G H → H c.P ≠ none → AtL c.P G xs ds → f ds = some d → OpS c (r xs) G H d
def op2 (f : D → D → Option D) (a b : M D) : M D := mbind a fun x => mbind b fun y => mlift (f x y)
def op1 (f : D → Option D) (a : M D) : M D := mbind a fun x => mlift (f x)
def opn (f : List D → Option D) (a : M (List D)) : M D := mbind a fun x => mlift (f x)
theorem post_op {G0 H0 G H : Hp} {σ : St} {l : Loc} {pot : List Int} {o : Option D} {t : Hp → VK → Prop} {Q : VK} (r : Rel c G0 H0 G H σ l pot) (post : Post c E (rD c) G0 H0 G H σ l (mlift o l pot) Q)
    (h : ∀ d, o = some d → OpS c t G H d) : t H Q := by
  cases o with
  | none => exact post.elim
  | some d => exact h d rfl Q fun v G' H' s hp a => post v G' H' s (r.step s (hp.trans r.pot)) a
theorem se_op2 {r : R2} {f : D → D → Option D} {ta tb : TE} {a b : M D} (hr : S2 c r f) (ha : SE c E ta a) (hb : SE c E tb b) : SE c E (tOp r ta tb) (op2 f a b) := by
  intro G0 H0 G H σ l pot rl Q post
  refine Sn.go ha rl post fun x dx p G1 H1 s1 r1 hx post1 => ?_
  refine Sn.go hb r1 post1 fun y dy p2 G2 H2 s2 r2 hy post2 => ?_
  exact post_op (t := r x y) r2 post2 fun d e => hr.run G2 H2 x y dx dy d r2.stp.gh r2.hp (At.mono s2.gg hx) hy e
theorem se_op1 {r : V → Hp → VK → Prop} {f : D → Option D} {ta : TE} {a : M D} (hr : S1 c r f) (ha : SE c E ta a) : SE c E (tUn r ta) (op1 f a) := by
  intro G0 H0 G H σ l pot rl Q post
  refine Sn.go ha rl post fun x dx p G1 H1 s1 r1 hx post1 => ?_
  exact post_op (t := r x) r1 post1 fun d e => hr.run G1 H1 x dx d r1.stp.gh r1.hp hx e
theorem se_cb {r : List V → Hp → VK → Prop} {f : List D → Option D} {ta : TA} {a : M (List D)} (hr : SN c r f) (ha : SA c E ta a) : SE c E (tCB r ta) (opn f a) := by
  intro G0 H0 G H σ l pot rl Q post
  refine Sn.go ha rl post fun x dx p G1 H1 s1 r1 hx post1 => ?_
  exact post_op (t := r x) r1 post1 fun d e => hr.run G1 H1 x dx d r1.stp.gh r1.hp hx e
/-! arguments -/
def anil : M (List D) := mret []
def acons (a : M D) (b : M (List D)) : M (List D) := mbind a fun x => mbind b fun ys => mret (x :: ys)
theorem sa_nil : SA c E tNil anil := fun G0 H0 G H σ l pot r Q post => Post.ok post r .nil
theorem sa_cons {te : TE} {t : TA} {a : M D} {b : M (List D)} (ha : SE c E te a) (hb : SA c E t b) : SA c E (tCons te t) (acons a b) := by
  intro G0 H0 G H σ l pot rl Q post
  refine Sn.go ha rl post fun x dx p G1 H1 s1 r1 hx post1 => ?_
  refine Sn.go hb r1 post1 fun ys dys p2 G2 H2 s2 r2 hy post2 => ?_
  exact Post.ok post2 r2 (.cons (At.mono s2.gg hx) hy)
def seqOf : D → Option (List D)
  | .lst ds => some ds
  | .tup ds => some ds
  | _ => none
theorem seq_at {P : Addr} {G : Hp} {x : V} {d : D} {ds : List D} (h : At P G x d) (e : seqOf d = some ds) : ∃ p vs, x = .ref p ∧ (G p = some (.lst vs) ∨ G p = some (.tup vs)) ∧ AtL P G vs ds := by
  cases h with
  | lst h a => cases e; exact ⟨_, _, rfl, .inl h, a⟩
  | tup h a => cases e; exact ⟨_, _, rfl, .inr h, a⟩
  | _ => cases e
theorem sqLT {K : PySem.W.Frag} {G H : Hp} {p : Addr} {vs : List V} (e : Ex G H) (h : G p = some (.lst vs) ∨ G p = some (.tup vs)) : SqL K H p vs ∨ SqT K H p vs := h.elim (fun z => .inl (.inl (.inl (e _ _ z)))) fun z => .inr (.inl (.inl (e _ _ z)))
def astar (a : M D) (b : M (List D)) : M (List D) := mbind a fun x => mbind (mlift (seqOf x)) fun ds => mbind b fun ys => mret (ds ++ ys)
theorem post_lift {α β : Type} {rel : Hp → α → β → Prop} {G0 H0 G H : Hp} {σ : St} {l : Loc} {pot : List Int} {γ : Type} {o : Option γ} {k : γ → M β} {Q : α → Hp → Prop} (post : Post c E rel G0 H0 G H σ l (mbind (mlift o) k l pot) Q) :
    ∃ g, o = some g ∧ Post c E rel G0 H0 G H σ l (k g l pot) Q := by
  cases o with
  | none => exact post.elim
  | some g => exact ⟨g, rfl, post⟩
theorem sa_star {te : TE} {t : TA} {a : M D} {b : M (List D)} (ha : SE c E te a) (hb : SA c E t b) : SA c E (StX.tStar c.K te t) (astar a b) := by
  intro G0 H0 G H σ l pot rl Q post
  refine Sn.go ha rl post fun x dx p G1 H1 s1 r1 hx post1 => ?_
  obtain ⟨ds, e, post2⟩ := post_lift post1
  obtain ⟨q, vs, rfl, h, a⟩ := seq_at hx e
  refine ⟨_, _, rfl, (sqLT r1.stp.gh h).symm, ?_⟩
  refine Sn.go hb r1 post2 fun ys dys p2 G2 H2 s2 r2 hy post2 => ?_
  exact Post.ok post2 r2 (AtL.append (AtL.mono s2.gg a) hy)

/-! ### the operations -/
theorem ops_pure {t : Hp → VK → Prop} {G H : Hp} {d : D} {v : V} (gh : Ex G H) (a : At c.P G v d) (h : ∀ Q : VK, Q v H → t H Q) : OpS c t G H d := fun Q q => h Q (q v G H (Stp.refl gh) rfl a)
theorem ops_new {t : Hp → VK → Prop} {G H : Hp} {d : D} (o : HO) (gh : Ex G H) (hP : H c.P ≠ none) (a : ∀ p, H p = none → At c.P (upd G p o) (.ref p) d) (h : ∀ Q : VK, (∀ p, H p = none → Q (.ref p) (upd H p o)) → t H Q) : OpS c t G H d := fun Q q =>
  h Q fun p hp => q _ _ _ (Stp.lay gh hp) (upd_ne (fun z => hP (by rw [z]; exact hp))) (a p hp)
theorem at_new_l {P : Addr} {G H : Hp} {p : Addr} {vs : List V} {ds : List D} (gh : Ex G H) (h : H p = none) (a : AtL P G vs ds) : At P (upd G p (.lst vs)) (.ref p) (.lst ds) := .lst upd_same (AtL.mono (fun b o e => by rw [upd_ne (ne_of_none (gh b o e) h)]; exact e) a)
theorem at_new_t {P : Addr} {G H : Hp} {p : Addr} {vs : List V} {ds : List D} (gh : Ex G H) (h : H p = none) (a : AtL P G vs ds) : At P (upd G p (.tup vs)) (.ref p) (.tup ds) := .tup upd_same (AtL.mono (fun b o e => by rw [upd_ne (ne_of_none (gh b o e) h)]; exact e) a)
def fI (g : Int → Int → Option D) : D → D → Option D
  | .int i, .int j => g i j
  | _, _ => none
theorem fI_at {g : Int → Int → Option D} {P : Addr} {G : Hp} {x y : V} {dx dy d : D} (hx : At P G x dx) (hy : At P G y dy) (e : fI g dx dy = some d) : ∃ i j, x = .int i ∧ y = .int j ∧ g i j = some d := by
  cases hx with
  | int i =>
    cases hy with
    | int j => exact ⟨i, j, rfl, rfl, e⟩
    | _ => cases e
  | _ => cases e
def fAdd : D → D → Option D := fI fun i j => some (.int (i + j))
def fSub : D → D → Option D := fI fun i j => some (.int (i - j))
def fMul : D → D → Option D := fI fun i j => if i.natAbs < 18446744073709551616 ∨ j.natAbs < 18446744073709551616 then some (.int (i * j)) else none
def fDiv : D → D → Option D := fI fun i j => if 0 < j ∧ j.natAbs < 1073741824 then some (.int (i / j)) else none
def fMod : D → D → Option D := fI fun i j => if 0 < j then some (.int (i % j)) else none
def fPow : D → D → Option D := fI fun i j => if 0 ≤ j ∧ j.natAbs ≤ 1000000 ∧ i.natAbs < 18446744073709551616 then some (.int (i ^ j.toNat)) else none
def fLt : D → D → Option D := fI fun i j => some (.bl (decide (i < j)))
def fLe : D → D → Option D := fI fun i j => some (.bl (decide (i ≤ j)))
def fGt : D → D → Option D := fI fun i j => some (.bl (decide (j < i)))
def fGe : D → D → Option D := fI fun i j => some (.bl (decide (j ≤ i)))
theorem s2_add : S2 c (rI0 fun i j => .int (i + j)) fAdd := ⟨fun G H x y dx dy d gh _ hx hy e => by
  obtain ⟨i, j, rfl, rfl, e⟩ := fI_at hx hy e
  cases e
  exact ops_pure gh (.int _) fun Q q => ⟨i, j, rfl, rfl, q⟩⟩
theorem s2_sub : S2 c (rI0 fun i j => .int (i - j)) fSub := ⟨fun G H x y dx dy d gh _ hx hy e => by
  obtain ⟨i, j, rfl, rfl, e⟩ := fI_at hx hy e
  cases e
  exact ops_pure gh (.int _) fun Q q => ⟨i, j, rfl, rfl, q⟩⟩
theorem s2_mul : S2 c (rI CMul fun i j => .int (i * j)) fMul := ⟨fun G H x y dx dy d gh _ hx hy e => by
  obtain ⟨i, j, rfl, rfl, e⟩ := fI_at hx hy e
  split at e
  · rename_i z
    cases e
    exact ops_pure gh (.int _) fun Q q => ⟨i, j, rfl, rfl, (by unfold CMul; omega), q⟩
  · cases e⟩
theorem s2_div : S2 c (rI CDiv fun i j => .int (i / j)) fDiv := ⟨fun G H x y dx dy d gh _ hx hy e => by
  obtain ⟨i, j, rfl, rfl, e⟩ := fI_at hx hy e
  split at e
  · rename_i z
    cases e
    exact ops_pure gh (.int _) fun Q q => ⟨i, j, rfl, rfl, (by unfold CDiv; omega), q⟩
  · cases e⟩
theorem s2_mod : S2 c (rI (fun _ j => 0 < j) fun i j => .int (i % j)) fMod := ⟨fun G H x y dx dy d gh _ hx hy e => by
  obtain ⟨i, j, rfl, rfl, e⟩ := fI_at hx hy e
  split at e
  · rename_i z
    cases e
    exact ops_pure gh (.int _) fun Q q => ⟨i, j, rfl, rfl, z, q⟩
  · cases e⟩
theorem s2_pow : S2 c (rI CPow fun i j => .int (i ^ j.toNat)) fPow := ⟨fun G H x y dx dy d gh _ hx hy e => by
  obtain ⟨i, j, rfl, rfl, e⟩ := fI_at hx hy e
  split at e
  · rename_i z
    cases e
    exact ops_pure gh (.int _) fun Q q => ⟨i, j, rfl, rfl, (by unfold CPow; omega), q⟩
  · cases e⟩
theorem s2_lt : S2 c (rI0 fun i j => .bl (decide (i < j))) fLt := ⟨fun G H x y dx dy d gh _ hx hy e => by
  obtain ⟨i, j, rfl, rfl, e⟩ := fI_at hx hy e
  cases e
  exact ops_pure gh (.bl _) fun Q q => ⟨i, j, rfl, rfl, q⟩⟩
theorem s2_le : S2 c (rI0 fun i j => .bl (decide (i ≤ j))) fLe := ⟨fun G H x y dx dy d gh _ hx hy e => by
  obtain ⟨i, j, rfl, rfl, e⟩ := fI_at hx hy e
  cases e
  exact ops_pure gh (.bl _) fun Q q => ⟨i, j, rfl, rfl, q⟩⟩
theorem s2_gt : S2 c (rI0 fun i j => .bl (decide (j < i))) fGt := ⟨fun G H x y dx dy d gh _ hx hy e => by
  obtain ⟨i, j, rfl, rfl, e⟩ := fI_at hx hy e
  cases e
  exact ops_pure gh (.bl _) fun Q q => ⟨i, j, rfl, rfl, q⟩⟩
theorem s2_ge : S2 c (rI0 fun i j => .bl (decide (j ≤ i))) fGe := ⟨fun G H x y dx dy d gh _ hx hy e => by
  obtain ⟨i, j, rfl, rfl, e⟩ := fI_at hx hy e
  cases e
  exact ops_pure gh (.bl _) fun Q q => ⟨i, j, rfl, rfl, q⟩⟩
def fNeg : D → Option D
  | .int i => some (.int (-i))
  | _ => none
theorem s1_neg : S1 c (rU fun i => .int (-i)) fNeg := ⟨fun G H x dx d gh _ hx e => by
  cases hx with
  | int i => cases e; exact ops_pure gh (.int _) fun Q q => ⟨i, rfl, q⟩
  | _ => cases e⟩
/-- == of the scalars -/
def sc : D → Option V
  | .non => some .non
  | .int i => some (.int i)
  | .str x => some (.str x)
  | .bl b => some (.bl b)
  | _ => none
theorem sc_at {P : Addr} {G : Hp} {x : V} {d : D} {v : V} (h : At P G x d) (e : sc d = some v) : x = v := by
  cases h with
  | non => cases e; rfl
  | bl b => cases e; rfl
  | int i => cases e; rfl
  | str s => cases e; rfl
  | _ => cases e
def fEq (a b : D) : Option D := match sc a, sc b with
  | some v, some w => if scal v w = true then some (.bl (decide (v = w))) else none
  | _, _ => none
def fNe (a b : D) : Option D := match sc a, sc b with
  | some v, some w => if scal v w = true then some (.bl (!decide (v = w))) else none
  | _, _ => none
theorem s2_eq : S2 c rEq fEq := ⟨fun G H x y dx dy d gh _ hx hy e => by
  unfold fEq at e
  split at e
  · rename_i v w e1 e2
    have q1 := sc_at hx e1
    have q2 := sc_at hy e2
    subst q1 q2
    split at e
    · rename_i z
      cases e
      exact ops_pure gh (.bl _) fun Q q => ⟨z, q⟩
    · cases e
  · cases e⟩
theorem s2_ne : S2 c rNe fNe := ⟨fun G H x y dx dy d gh _ hx hy e => by
  unfold fNe at e
  split at e
  · rename_i v w e1 e2
    have q1 := sc_at hx e1
    have q2 := sc_at hy e2
    subst q1 q2
    split at e
    · rename_i z
      cases e
      exact ops_pure gh (.bl _) fun Q q => ⟨z, q⟩
    · cases e
  · cases e⟩
def isNon : D → Bool
  | .non => true
  | _ => false
theorem isNon_at {P : Addr} {G : Hp} {x : V} {d : D} (h : At P G x d) : decide (x = .non) = isNon d := by
  cases h <;> rfl
def fIsN (a b : D) : Option D := if isNon b then some (.bl (isNon a)) else none
def fNotN (a b : D) : Option D := if isNon b then some (.bl (!isNon a)) else none
theorem s2_isN : S2 c (fun x y H Q => y = .non ∧ Q (.bl (decide (x = .non))) H) fIsN := ⟨fun G H x y dx dy d gh _ hx hy e => by
  unfold fIsN at e
  split at e
  · rename_i z
    cases e
    rw [← isNon_at hy] at z
    exact ops_pure gh (.bl _) fun Q q => ⟨of_decide_eq_true z, by rw [isNon_at hx]; exact q⟩
  · cases e⟩
theorem s2_notN : S2 c (fun x y H Q => y = .non ∧ Q (.bl (!decide (x = .non))) H) fNotN := ⟨fun G H x y dx dy d gh _ hx hy e => by
  unfold fNotN at e
  split at e
  · rename_i z
    cases e
    rw [← isNon_at hy] at z
    exact ops_pure gh (.bl _) fun Q q => ⟨of_decide_eq_true z, by rw [isNon_at hx]; exact q⟩
  · cases e⟩

/-! ### and, or, not; a if t else b -/
def mand (a b : M Bool) : M Bool := mbind a fun x => if x = true then b else mret false
def mor (a b : M Bool) : M Bool := mbind a fun x => if x = true then mret true else b
def mnot (a : M Bool) : M Bool := mbind a fun x => mret (!x)
def mif {α : Type} (t : M Bool) (a b : M α) : M α := mbind t fun x => if x = true then a else b
def boolOf : D → Option Bool
  | .bl b => some b
  | _ => none
theorem bool_at {P : Addr} {G : Hp} {x : V} {d : D} {b : Bool} (h : At P G x d) (e : boolOf d = some b) : x = .bl b := by
  cases h with
  | bl b => cases e; rfl
  | _ => cases e
def mtest (a : M D) : M Bool := mbind a fun x => mlift (boolOf x)
theorem st_test {t : TE} {a : M D} (ha : SE c E t a) : ST c E (tTest t) (mtest a) := by
  intro G0 H0 G H σ l pot rl Q post
  refine Sn.go ha rl post fun x dx p G1 H1 s1 r1 hx post1 => ?_
  cases e : boolOf dx with
  | none => rw [e] at post1; exact post1.elim
  | some b =>
    rw [e] at post1
    exact ⟨b, bool_at hx e, Post.ok post1 r1 rfl⟩
theorem st_B {t : TE} {a : M D} (ha : SE c E t a) : ST c E (tB t) (mtest a) := st_test ha
theorem st_and {t u : TT} {a b : M Bool} (ha : ST c E t a) (hb : ST c E u b) : ST c E (tAnd t u) (mand a b) := by
  intro G0 H0 G H σ l pot rl Q post
  refine Sn.go ha rl post fun x dx p G1 H1 s1 r1 hx post1 => ?_
  subst hx
  cases x with
  | true => rw [if_pos rfl]; exact hb _ _ _ _ _ _ _ r1 Q post1
  | false => rw [if_neg Bool.false_ne_true]; exact Post.ok post1 r1 rfl
theorem st_or {t u : TT} {a b : M Bool} (ha : ST c E t a) (hb : ST c E u b) : ST c E (tOr t u) (mor a b) := by
  intro G0 H0 G H σ l pot rl Q post
  refine Sn.go ha rl post fun x dx p G1 H1 s1 r1 hx post1 => ?_
  subst hx
  cases x with
  | true => rw [if_pos rfl]; exact Post.ok post1 r1 rfl
  | false => rw [if_neg Bool.false_ne_true]; exact hb _ _ _ _ _ _ _ r1 Q post1
theorem st_not {t : TT} {a : M Bool} (ha : ST c E t a) : ST c E (tNot t) (mnot a) := by
  intro G0 H0 G H σ l pot rl Q post
  refine Sn.go ha rl post fun x dx p G1 H1 s1 r1 hx post1 => ?_
  subst hx
  exact Post.ok post1 r1 rfl
def vand (a b : M D) : M D := mbind (mtest a) fun x => if x = true then b else mret (.bl false)
def vor (a b : M D) : M D := mbind (mtest a) fun x => if x = true then mret (.bl true) else b
def vnot (a : M D) : M D := mbind (mtest a) fun x => mret (.bl (!x))
theorem se_and {ta tb : TE} {a b : M D} (ha : SE c E ta a) (hb : SE c E tb b) : SE c E (tAndV ta tb) (vand a b) := by
  intro G0 H0 G H σ l pot rl Q post
  refine Sn.go (X := fun x H1 => ∃ c, x = .bl c ∧ if c = true then tb σ H1 Q else Q (.bl false) H1) ha rl (k := fun x => mbind (mlift (boolOf x)) fun x => if x = true then b else mret (.bl false)) (by unfold vand mtest at post; unfold mbind at post ⊢; cases e : a l pot <;> simp only [e, R.bind] at post ⊢ <;> exact post) fun x dx p G1 H1 s1 r1 hx post1 => ?_
  obtain ⟨k, e, post2⟩ := post_lift post1
  refine ⟨k, bool_at hx e, ?_⟩
  cases k with
  | true => rw [if_pos rfl]; exact hb _ _ _ _ _ _ _ r1 Q post2
  | false => rw [if_neg Bool.false_ne_true]; exact Post.ok post2 r1 (.bl false)
theorem se_or {ta tb : TE} {a b : M D} (ha : SE c E ta a) (hb : SE c E tb b) : SE c E (tOrV ta tb) (vor a b) := by
  intro G0 H0 G H σ l pot rl Q post
  refine Sn.go (X := fun x H1 => ∃ c, x = .bl c ∧ if c = true then Q (.bl true) H1 else tb σ H1 Q) ha rl (k := fun x => mbind (mlift (boolOf x)) fun x => if x = true then mret (.bl true) else b) (by unfold vor mtest at post; unfold mbind at post ⊢; cases e : a l pot <;> simp only [e, R.bind] at post ⊢ <;> exact post) fun x dx p G1 H1 s1 r1 hx post1 => ?_
  obtain ⟨k, e, post2⟩ := post_lift post1
  refine ⟨k, bool_at hx e, ?_⟩
  cases k with
  | true => rw [if_pos rfl]; exact Post.ok post2 r1 (.bl true)
  | false => rw [if_neg Bool.false_ne_true]; exact hb _ _ _ _ _ _ _ r1 Q post2
theorem se_not {ta : TE} {a : M D} (ha : SE c E ta a) : SE c E (tNotV ta) (vnot a) := by
  intro G0 H0 G H σ l pot rl Q post
  refine Sn.go (β := D) (rel := rD c) (Q := Q) (X := fun x H1 => ∃ c, x = V.bl c ∧ Q (V.bl (!c)) H1) ha rl (k := fun x => mbind (mlift (boolOf x)) fun x => mret (D.bl (!x))) (by unfold vnot mtest at post; unfold mbind at post ⊢; cases e : a l pot <;> simp only [e, R.bind] at post ⊢ <;> exact post) fun x dx p G1 H1 s1 r1 hx post1 => ?_
  obtain ⟨k, e, post2⟩ := post_lift post1
  exact ⟨k, bool_at hx e, Post.ok post2 r1 (.bl _)⟩
theorem se_if {t : TT} {ta tb : TE} {q : M Bool} {a b : M D} (hq : ST c E t q) (ha : SE c E ta a) (hb : SE c E tb b) : SE c E (tIf t ta tb) (mif q a b) := by
  intro G0 H0 G H σ l pot rl Q post
  refine Sn.go hq rl post fun x dx p G1 H1 s1 r1 hx post1 => ?_
  subst hx
  cases x with
  | true => rw [if_pos rfl]; exact ha _ _ _ _ _ _ _ r1 Q post1
  | false => rw [if_neg Bool.false_ne_true]; exact hb _ _ _ _ _ _ _ r1 Q post1
/-- truth -/
def truOf : D → Option Bool
  | .non => some false
  | .bl b => some b
  | .int i => some (i != 0)
  | .lst ds => some (!ds.isEmpty)
  | .tup ds => some (!ds.isEmpty)
  | _ => none
theorem isEmpty_at {P : Addr} {G : Hp} {vs : List V} {ds : List D} (a : AtL P G vs ds) : vs.isEmpty = ds.isEmpty := by
  cases a <;> rfl
theorem tru_at {K : PySem.W.Frag} {P : Addr} {G H : Hp} {x : V} {d : D} {b : Bool} (gh : Ex G H) (h : At P G x d) (e : truOf d = some b) : TruV K x H b := by
  cases h with
  | non => cases e; rfl
  | bl b => cases e; rfl
  | int i => cases e; rfl
  | lst h a => cases e; exact .inl ⟨_, .inl (.inl (gh _ _ h)), by rw [isEmpty_at a]⟩
  | tup h a => cases e; exact .inr (.inl ⟨_, .inl (.inl (gh _ _ h)), by rw [isEmpty_at a]⟩)
  | _ => cases e
def mtru (a : M D) : M Bool := mbind a fun x => mlift (truOf x)
theorem st_tru {t : TE} {a : M D} (ha : SE c E t a) : ST c E (fun σ H Q => t σ H fun x H' => ∃ k, TruV c.K x H' k ∧ Q k H') (mtru a) := by
  intro G0 H0 G H σ l pot rl Q post
  refine Sn.go ha rl post fun x dx p G1 H1 s1 r1 hx post1 => ?_
  cases e : truOf dx with
  | none => rw [e] at post1; exact post1.elim
  | some b =>
    rw [e] at post1
    exact ⟨b, tru_at r1.stp.gh hx e, Post.ok post1 r1 rfl⟩

/-! ### built-ins -/
def rLenS (K : PySem.W.Frag) : List V → Hp → VK → Prop := fun xs H Q => ∃ p ys, xs = [.ref p] ∧ (SqL K H p ys ∨ SqT K H p ys) ∧ Q (.int ys.length) H
def fLen : List D → Option D
  | [.lst ds] => some (.int ds.length)
  | [.tup ds] => some (.int ds.length)
  | _ => none
theorem sn_len : SN c (rLenS c.K) fLen := ⟨fun G H xs ds d gh _ hx e => by
  cases hx with
  | nil => cases e
  | cons h t =>
    cases h with
    | lst h a =>
      cases t with
      | nil => cases e; exact ops_pure gh (.int _) fun Q q => ⟨_, _, rfl, .inl (.inl (.inl (gh _ _ h))), by rw [AtL.length a]; exact q⟩
      | cons _ _ => cases e
    | tup h a =>
      cases t with
      | nil => cases e; exact ops_pure gh (.int _) fun Q q => ⟨_, _, rfl, .inr (.inl (.inl (gh _ _ h))), by rw [AtL.length a]; exact q⟩
      | cons _ _ => cases e
    | _ => cases e⟩
theorem atl1 {P : Addr} {G : Hp} {xs : List V} {d : D} (h : AtL P G xs [d]) : ∃ x, xs = [x] ∧ At P G x d := by
  cases h with
  | cons h t => cases t; exact ⟨_, rfl, h⟩
theorem atl2 {P : Addr} {G : Hp} {xs : List V} {d e : D} (h : AtL P G xs [d, e]) : ∃ x y, xs = [x, y] ∧ At P G x d ∧ At P G y e := by
  cases h with
  | cons h t => obtain ⟨y, rfl, hy⟩ := atl1 t; exact ⟨_, _, rfl, h, hy⟩
theorem at_int {P : Addr} {G : Hp} {x : V} {i : Int} (h : At P G x (.int i)) : x = .int i := by cases h; rfl
theorem at_bl {P : Addr} {G : Hp} {x : V} {i : Bool} (h : At P G x (.bl i)) : x = .bl i := by cases h; rfl
theorem at_str {P : Addr} {G : Hp} {x : V} {i : Str} (h : At P G x (.str i)) : x = .str i := by cases h; rfl
theorem at_lst {P : Addr} {G : Hp} {x : V} {ds : List D} (h : At P G x (.lst ds)) : ∃ p vs, x = .ref p ∧ G p = some (.lst vs) ∧ AtL P G vs ds := by cases h; exact ⟨_, _, rfl, by assumption, by assumption⟩
theorem at_tup {P : Addr} {G : Hp} {x : V} {ds : List D} (h : At P G x (.tup ds)) : ∃ p vs, x = .ref p ∧ G p = some (.tup vs) ∧ AtL P G vs ds := by cases h; exact ⟨_, _, rfl, by assumption, by assumption⟩
def fMax2 : List D → Option D
  | [.int i, .int j] => some (.int (if j > i then j else i))
  | _ => none
def fMin2 : List D → Option D
  | [.int i, .int j] => some (.int (if j < i then j else i))
  | _ => none
theorem sn_max2 : SN c (fun xs H Q => ∃ i j, xs = [.int i, .int j] ∧ Q (.int (if j > i then j else i)) H) fMax2 := ⟨fun G H xs ds d gh _ hx e => by
  unfold fMax2 at e
  split at e
  · obtain ⟨x, y, rfl, hx, hy⟩ := atl2 hx
    rw [at_int hx, at_int hy]
    cases e
    exact ops_pure gh (.int _) fun Q q => ⟨_, _, rfl, q⟩
  · cases e⟩
theorem sn_min2 : SN c (fun xs H Q => ∃ i j, xs = [.int i, .int j] ∧ Q (.int (if j < i then j else i)) H) fMin2 := ⟨fun G H xs ds d gh _ hx e => by
  unfold fMin2 at e
  split at e
  · obtain ⟨x, y, rfl, hx, hy⟩ := atl2 hx
    rw [at_int hx, at_int hy]
    cases e
    exact ops_pure gh (.int _) fun Q q => ⟨_, _, rfl, q⟩
  · cases e⟩
def fAbs : List D → Option D
  | [.int i] => some (.int (if i < 0 then -i else i))
  | _ => none
theorem sn_abs : SN c (fun xs H Q => ∃ i, xs = [.int i] ∧ Q (.int (if i < 0 then -i else i)) H) fAbs := ⟨fun G H xs ds d gh _ hx e => by
  unfold fAbs at e
  split at e
  · obtain ⟨x, rfl, hx1⟩ := atl1 hx
    rw [at_int hx1]
    cases e
    exact ops_pure gh (.int _) fun Q q => ⟨_, rfl, q⟩
  · cases e⟩
def fInt : List D → Option D
  | [.int i] => some (.int i)
  | [.bl b] => some (.int (if b then 1 else 0))
  | _ => none
theorem sn_int : SN c (fun xs H Q => (∃ i, xs = [.int i] ∧ Q (.int i) H) ∨ ∃ k, xs = [.bl k] ∧ Q (.int (if k then 1 else 0)) H) fInt := ⟨fun G H xs ds d gh _ hx e => by
  unfold fInt at e
  split at e
  · obtain ⟨x, rfl, hx1⟩ := atl1 hx
    rw [at_int hx1]
    cases e
    exact ops_pure gh (.int _) fun Q q => .inl ⟨_, rfl, q⟩
  · obtain ⟨x, rfl, hx1⟩ := atl1 hx
    rw [at_bl hx1]
    cases e
    exact ops_pure gh (.int _) fun Q q => .inr ⟨_, rfl, q⟩
  · cases e⟩
def fStr : List D → Option D
  | [.int i] => if i.natAbs.log2 < 1920 then some (.str (toString i : String)) else none
  | _ => none
theorem sn_str : SN c (fun xs H Q => ∃ i, xs = [.int i] ∧ i.natAbs.log2 < 1920 ∧ Q (.str (toString i : String)) H) fStr := ⟨fun G H xs ds d gh _ hx e => by
  unfold fStr at e
  split at e
  · obtain ⟨x, rfl, hx1⟩ := atl1 hx
    rw [at_int hx1]
    split at e
    · cases e
      exact ops_pure gh (.str _) fun Q q => ⟨_, rfl, by assumption, q⟩
    · cases e
  · cases e⟩
def fList : List D → Option D
  | [d] => (seqOf d).map D.lst
  | _ => none
theorem sn_list : SN c (fun xs H Q => ∃ p ys, xs = [.ref p] ∧ (SqL c.K H p ys ∨ SqT c.K H p ys) ∧ ∀ l, H l = none → Q (.ref l) (upd H l (.lst ys))) fList := ⟨fun G H xs ds d gh hP hx e => by
  unfold fList at e
  split at e
  · obtain ⟨x, rfl, hx1⟩ := atl1 hx
    rename_i d0
    cases e1 : seqOf d0 with
    | none => rw [e1] at e; cases e
    | some es =>
      rw [e1] at e
      cases e
      obtain ⟨p, vs, rfl, h, a⟩ := seq_at hx1 e1
      exact ops_new _ gh hP (fun q hq => at_new_l gh hq a) fun Q k => ⟨p, vs, rfl, sqLT gh h, k⟩
  · cases e⟩
def fTuple : List D → Option D
  | [.lst ds] => some (.tup ds)
  | [.tup ds] => some (.tup ds)
  | _ => none
theorem sn_tuple : SN c (fun xs H Q => ∃ p ys, xs = [.ref p] ∧ ((SqL c.K H p ys ∧ ∀ l, H l = none → Q (.ref l) (upd H l (.tup ys))) ∨ (SqT c.K H p ys ∧ Q (.ref p) H))) fTuple := ⟨fun G H xs ds d gh hP hx e => by
  unfold fTuple at e
  split at e
  · obtain ⟨x, rfl, hx1⟩ := atl1 hx
    obtain ⟨p, vs, rfl, h, a⟩ := at_lst hx1
    cases e
    exact ops_new _ gh hP (fun q hq => at_new_t gh hq a) fun Q k => ⟨p, vs, rfl, .inl ⟨.inl (.inl (gh _ _ h)), k⟩⟩
  · obtain ⟨x, rfl, hx1⟩ := atl1 hx
    obtain ⟨p, vs, rfl, h, a⟩ := at_tup hx1
    cases e
    exact ops_pure gh (.tup h a) fun Q k => ⟨p, vs, rfl, .inr ⟨.inl (.inl (gh _ _ h)), k⟩⟩
  · cases e⟩
/-- the ints of a list -/
def intsOf : List D → Option (List Int)
  | [] => some []
  | .int i :: ds => (intsOf ds).map (i :: ·)
  | _ :: _ => none
theorem ints_at {P : Addr} {G : Hp} : ∀ {vs : List V} {ds : List D} {ns : List Int}, AtL P G vs ds → intsOf ds = some ns → vs = ns.map V.int
  | _, [], _, h, e => by cases h; cases e; rfl
  | _, d :: ds, ns, h, e => by
    cases h with
    | cons h t =>
      unfold intsOf at e
      split at e
      · cases ‹_ :: _ = []›
      · rename_i i ds' q
        cases q
        cases h
        cases e1 : intsOf ds with
        | none => rw [e1] at e; cases e
        | some ms => rw [e1] at e; cases e; rw [ints_at t e1]; rfl
      · cases e
def minL : Int → List Int → Int
  | m, [] => m
  | m, n :: ns => minL (if n < m then n else m) ns
def maxL : Int → List Int → Int
  | m, [] => m
  | m, n :: ns => maxL (if m < n then n else m) ns
theorem minL_le : ∀ (ns : List Int) (m : Int), minL m ns ≤ m ∧ ∀ y ∈ ns, minL m ns ≤ y
  | [], m => ⟨Int.le_refl _, fun _ h => nomatch h⟩
  | n :: ns, m => by
    obtain ⟨h1, h2⟩ := minL_le ns (if n < m then n else m)
    unfold minL
    refine ⟨?_, fun y hy => ?_⟩
    · split at h1 <;> rename_i z
      · rw [if_pos z] at *; omega
      · rw [if_neg z] at *; omega
    · rcases List.mem_cons.mp hy with rfl | hy
      · split at h1 <;> rename_i z
        · rw [if_pos z] at *; omega
        · rw [if_neg z] at *; omega
      · exact h2 y hy
theorem minL_mem : ∀ (ns : List Int) (m : Int), minL m ns ∈ m :: ns
  | [], m => List.mem_cons_self
  | n :: ns, m => by
    have h := minL_mem ns (if n < m then n else m)
    unfold minL
    split at h
    · rename_i z
      rw [if_pos z]
      exact List.mem_cons_of_mem _ h
    · rename_i z
      rw [if_neg z]
      rcases List.mem_cons.mp h with e | h
      · rw [e]; exact List.mem_cons_self
      · exact List.mem_cons_of_mem _ (List.mem_cons_of_mem _ h)
theorem le_maxL : ∀ (ns : List Int) (m : Int), m ≤ maxL m ns ∧ ∀ y ∈ ns, y ≤ maxL m ns
  | [], m => ⟨Int.le_refl _, fun _ h => nomatch h⟩
  | n :: ns, m => by
    obtain ⟨h1, h2⟩ := le_maxL ns (if m < n then n else m)
    unfold maxL
    refine ⟨?_, fun y hy => ?_⟩
    · split at h1 <;> rename_i z
      · rw [if_pos z] at *; omega
      · rw [if_neg z] at *; omega
    · rcases List.mem_cons.mp hy with rfl | hy
      · split at h1 <;> rename_i z
        · rw [if_pos z] at *; omega
        · rw [if_neg z] at *; omega
      · exact h2 y hy
theorem maxL_mem : ∀ (ns : List Int) (m : Int), maxL m ns ∈ m :: ns
  | [], m => List.mem_cons_self
  | n :: ns, m => by
    have h := maxL_mem ns (if m < n then n else m)
    unfold maxL
    split at h
    · rename_i z
      rw [if_pos z]
      exact List.mem_cons_of_mem _ h
    · rename_i z
      rw [if_neg z]
      rcases List.mem_cons.mp h with e | h
      · rw [e]; exact List.mem_cons_self
      · exact List.mem_cons_of_mem _ (List.mem_cons_of_mem _ h)
def leastOf : List Int → Option D
  | [] => none
  | n :: ns => some (.int (minL n ns))
def mostOf : List Int → Option D
  | [] => none
  | n :: ns => some (.int (maxL n ns))
def fMinL : List D → Option D
  | [.lst ds] => (intsOf ds).bind leastOf
  | _ => none
def fMaxL : List D → Option D
  | [.lst ds] => (intsOf ds).bind mostOf
  | _ => none
theorem sn_minL : SN c (rMin c.K) fMinL := ⟨fun G H xs ds d gh _ hx e => by
  unfold fMinL at e
  split at e
  · obtain ⟨x, rfl, hx1⟩ := atl1 hx
    obtain ⟨p, vs, rfl, h, a⟩ := at_lst hx1
    rename_i es
    cases e1 : intsOf es with
    | none => rw [e1] at e; cases e
    | some ns =>
      rw [e1] at e
      have ev := ints_at a e1
      subst ev
      cases ns with
      | nil => cases e
      | cons n ns =>
        cases e
        refine ops_pure gh (.int _) fun Q q => ⟨p, n :: ns, rfl, .inl (.inl (gh _ _ h)), Nat.succ_pos _, fun m hm hl => ?_⟩
        have h1 := hl _ (minL_mem ns n)
        have h2 : minL n ns ≤ m := by
          rcases List.mem_cons.mp hm with rfl | hm
          · exact (minL_le ns m).1
          · exact (minL_le ns n).2 m hm
        rw [Int.le_antisymm h1 h2]
        exact q
  · cases e⟩
theorem sn_maxL : SN c (rMax c.K) fMaxL := ⟨fun G H xs ds d gh _ hx e => by
  unfold fMaxL at e
  split at e
  · obtain ⟨x, rfl, hx1⟩ := atl1 hx
    obtain ⟨p, vs, rfl, h, a⟩ := at_lst hx1
    rename_i es
    cases e1 : intsOf es with
    | none => rw [e1] at e; cases e
    | some ns =>
      rw [e1] at e
      have ev := ints_at a e1
      subst ev
      cases ns with
      | nil => cases e
      | cons n ns =>
        cases e
        refine ops_pure gh (.int _) fun Q q => ⟨p, n :: ns, rfl, .inl (.inl (gh _ _ h)), Nat.succ_pos _, fun m hm hl => ?_⟩
        have h1 := hl _ (maxL_mem ns n)
        have h2 : m ≤ maxL n ns := by
          rcases List.mem_cons.mp hm with rfl | hm
          · exact (le_maxL ns m).1
          · exact (le_maxL ns n).2 m hm
        rw [Int.le_antisymm h2 h1]
        exact q
  · cases e⟩
end
end Den

namespace Den
open PySem L2
section
variable {c : Cfg} {E : St → XK}

/-! ### subscripts, in -/
theorem atI_at {P : Addr} {G : Hp} {vs : List V} {ds : List D} {i : Int} {d : D} (a : AtL P G vs ds) (e : atI ds i = some d) : ∃ v, atI vs i = some v ∧ At P G v d := by
  unfold atI at e ⊢
  rw [AtL.length a]
  cases e1 : ixN ds.length i with
  | none => rw [e1] at e; cases e
  | some j =>
    rw [e1] at e
    exact AtL.get a e
def fIx : D → D → Option D
  | .lst ds, .int i => atI ds i
  | .tup ds, .int i => atI ds i
  | _, _ => none
theorem s2_ix : S2 c (rIx c.K) fIx := ⟨fun G H x y dx dy d gh _ hx hy e => by
  unfold fIx at e
  split at e
  · obtain ⟨p, vs, rfl, h, a⟩ := at_lst hx
    obtain ⟨v, e1, av⟩ := atI_at a e
    rw [at_int hy]
    exact ops_pure gh av fun Q q => .inl ⟨p, vs, _, v, rfl, rfl, .inl (.inl (gh _ _ h)), e1, q⟩
  · obtain ⟨p, vs, rfl, h, a⟩ := at_tup hx
    obtain ⟨v, e1, av⟩ := atI_at a e
    rw [at_int hy]
    exact ops_pure gh av fun Q q => .inr (.inl ⟨p, vs, _, v, rfl, rfl, .inl (.inl (gh _ _ h)), e1, q⟩)
  · cases e⟩
def scL : List D → Option (List V)
  | [] => some []
  | d :: ds => match sc d, scL ds with
    | some v, some vs => some (v :: vs)
    | _, _ => none
theorem sc_flat {d : D} {v : V} (e : sc d = some v) : flatV v = true := by
  cases d <;> first | (cases e; rfl) | cases e
theorem scL_at {P : Addr} {G : Hp} : ∀ {vs : List V} {ds : List D} {ws : List V}, AtL P G vs ds → scL ds = some ws → vs = ws ∧ ws.all flatV = true
  | _, [], _, .nil, e => by cases e; exact ⟨rfl, rfl⟩
  | _, d :: ds, ws, .cons h t, e => by
    unfold scL at e
    split at e
    · rename_i v vs e1 e2
      cases e
      obtain ⟨q1, q2⟩ := scL_at t e2
      refine ⟨by rw [sc_at h e1, q1], ?_⟩
      rw [List.all_cons, sc_flat e1, q2]
      rfl
    · cases e
def fInB (neg : Bool) (x y : D) : Option D := match sc x, (seqOf y).bind scL with
  | some v, some vs => some (.bl (if neg then !inV v vs else inV v vs))
  | _, _ => none
theorem s2_in {neg : Bool} : S2 c (rIn c.K neg) (fInB neg) := ⟨fun G H x y dx dy d gh _ hx hy e => by
  unfold fInB at e
  split at e
  · rename_i v vs e1 e2
    cases e
    cases e3 : seqOf dy with
    | none => rw [e3] at e2; cases e2
    | some ds =>
      rw [e3] at e2
      obtain ⟨p, ws, rfl, h, a⟩ := seq_at hy e3
      obtain ⟨q1, q2⟩ := scL_at a e2
      subst q1
      rw [sc_at hx e1]
      exact ops_pure gh (.bl _) fun Q q => ⟨p, ws, rfl, sqLT gh h, sc_flat e1, q2, q⟩
  · cases e⟩

/-! ### new lists -/
def PostN (c : Cfg) (E : St → XK) (G0 H0 G H : Hp) (σ : St) (l : Loc) : R (List D) → VK → Prop
  | .ok ds p, Q => ∀ q vs G' H', Stp c.P G H G' H' → Rel c G0 H0 G' H' σ l p → H' q = some (.lst vs) → AtL c.P G' vs ds → G' q = none → H q = none → Q (.ref q) H'
  | .err n p, _ => ∀ G' H', Ex G G' → Rel c G0 H0 G' H' σ l p → E σ (.ref (c.ec n)) none H'
  | .bad, _ => False
/-- an expression that makes a new list -/
def SEN (c : Cfg) (E : St → XK) (t : TE) (e : M (List D)) : Prop :=
  ∀ G0 H0 G H σ l pot, Rel c G0 H0 G H σ l pot → ∀ Q : VK, PostN c E G0 H0 G H σ l (e l pot) Q → t σ H Q
theorem PostN.mono {G0 H0 G H G' H' : Hp} {σ : St} {l : Loc} {r : R (List D)} {Q : VK} (p : PostN c E G0 H0 G H σ l r Q) (s : Stp c.P G H G' H') : PostN c E G0 H0 G' H' σ l r Q := by
  cases r with
  | ok b q => exact fun a vs G2 H2 s2 r2 h1 h2 h3 h4 => p a vs G2 H2 (s.trans s2) r2 h1 h2 h3 (s.there _ h4)
  | err n q => exact fun G2 H2 e2 r2 => p G2 H2 (s.gg.trans e2) r2
  | bad => exact p
theorem Sn.goN {γ δ : Type} {rel' : Hp → γ → δ → Prop} {G0 H0 G H : Hp} {σ : St} {l : Loc} {pot : List Int} {t1 : St → Hp → (γ → Hp → Prop) → Prop} {e1 : M δ} (h1 : Sn c E rel' t1 e1) (r : Rel c G0 H0 G H σ l pot) {k : δ → M (List D)} {Q : VK} {X : γ → Hp → Prop}
    (post : PostN c E G0 H0 G H σ l (mbind e1 k l pot) Q)
    (h2 : ∀ a b p G' H', Stp c.P G H G' H' → Rel c G0 H0 G' H' σ l p → rel' G' a b → PostN c E G0 H0 G' H' σ l (k b l p) Q → X a H') : t1 σ H X := by
  refine h1 G0 H0 G H σ l pot r _ ?_
  unfold mbind at post
  cases e : e1 l pot with
  | ok b p =>
    rw [e] at post
    exact fun a G' H' s r' ra => h2 a b p G' H' s r' ra (PostN.mono post s)
  | err n p =>
    rw [e] at post
    exact post
  | bad =>
    rw [e] at post
    exact post
theorem Rel.freeze {G0 H0 G H : Hp} {σ : St} {l : Loc} {pot : List Int} {q : Addr} {o : HO} (r : Rel c G0 H0 G H σ l pot) (h : H q = some o) (hq : H0 q = none) (hP : q ≠ c.P) (nc : ∀ (i : Nat) (x : L), l[i]? = some (some x) → owned x = true → σ[i]? ≠ some (some (.ref q))) :
    G q = none → Rel c G0 H0 (upd G q o) H σ l pot := by
  intro hG
  have eg : Ex G (upd G q o) := Ex.new hG
  refine ⟨⟨r.stp.gg.trans eg, fun a u e => ?_, r.stp.keep, r.stp.there, fun a u e => ?_⟩, r.pot, ?_, r.hP, r.len, fun i x e => ?_, r.dist⟩
  · by_cases z : a = q
    · subst z; rw [upd_same] at e; cases e; exact h
    · rw [upd_ne z] at e; exact r.stp.gh a u e
  · by_cases z : a = q
    · subst z; exact .inr hq
    · rw [upd_ne z] at e; exact r.stp.new a u e
  · rw [upd_ne (Ne.symm hP)]; exact r.gP
  · have a := r.slot i x e
    have ne := nc i x e
    match ho : σ[i]?, x, a with
    | some (some v), .dat d, a => exact At.mono eg a
    | some (some (.ref p)), .cell ds, ⟨vs, h1, h2, h3, h4⟩ =>
      have np : p ≠ q := fun z => ne rfl (by rw [ho, z])
      exact ⟨vs, h1, AtL.mono eg h2, by rw [upd_ne np]; exact h3, h4⟩
    | some (some (.ref p)), .obj ea C ns ds, ⟨hea, vs, dx, h1, h2, h3, h4, h5⟩ =>
      have np : p ≠ q := fun z => ne rfl (by rw [ho, z])
      exact ⟨hea, vs, dx, h1, AtL.mono eg h2, by rw [upd_ne np]; exact h3, h4, h5⟩
/-- no own slot is at an address that is free -/
theorem Rel.own_ne {G0 H0 G H : Hp} {σ : St} {l : Loc} {pot : List Int} {q : Addr} (r : Rel c G0 H0 G H σ l pot) (h : H q = none) : ∀ (i : Nat) (x : L), l[i]? = some (some x) → owned x = true → σ[i]? ≠ some (some (.ref q)) := fun i x e ho z => by
  have a := r.slot i x e
  rw [z] at a
  cases x with
  | dat d => cases ho
  | cell ds => obtain ⟨vs, h1, _⟩ := a; rw [h] at h1; cases h1
  | obj ea C ns ds => obtain ⟨_, vs, dx, h1, _⟩ := a; rw [h] at h1; cases h1
def mfreeze (a : M (List D)) : M D := mbind a fun ds => mret (.lst ds)
theorem se_new {t : TE} {e : M (List D)} (h : SEN c E t e) : SE c E t (mfreeze e) := by
  intro G0 H0 G H σ l pot r Q post
  refine h G0 H0 G H σ l pot r Q ?_
  unfold mfreeze mbind at post
  cases e1 : e l pot with
  | bad => rw [e1] at post; exact post
  | err n p => rw [e1] at post; exact post
  | ok ds p =>
    rw [e1] at post
    intro q vs G' H' s r' h1 h2 h3 h4
    have h0 : H0 q = none := r.stp.there q h4
    have hP : q ≠ c.P := fun z => r.hP (by rw [← z]; exact h0)
    have r2 : Rel c G0 H0 (upd G' q (.lst vs)) H' σ l p := Rel.freeze r' h1 h0 hP (fun i x e ho => r.own_ne h4 i x e ho) h3
    exact post (.ref q) _ H' ⟨s.gg.trans (Ex.new h3), r2.stp.gh, s.keep, s.there, fun a u e => by
      by_cases z : a = q
      · subst z; exact .inr h4
      · rw [upd_ne z] at e; exact s.new a u e⟩ r2 (.lst upd_same (AtL.mono (Ex.new h3) h2))

/-- a list display, a tuple display -/
def mshort (a : M (List D)) : M (List D) := mbind a fun ds => if ds.length ≤ 1000 then mret ds else fun _ _ => .bad
def mtupd (a : M (List D)) : M D := mbind (mshort a) fun ds => mret (.tup ds)
theorem sz1000 {n : Nat} (h : n ≤ 1000) : n ≤ sizeLine := Nat.le_trans h (by decide)
theorem sen_of {G0 H0 G H : Hp} {σ : St} {l : Loc} {pot : List Int} {vs : List V} {ds : List D} {Q : VK} (r : Rel c G0 H0 G H σ l pot) (a : AtL c.P G vs ds) (post : PostN c E G0 H0 G H σ l (.ok ds pot) Q) (p : Addr) (hp : H p = none) : Q (.ref p) (upd H p (.lst vs)) := by
  have s : Stp c.P G H G (upd H p (.lst vs)) := Stp.lay0 r.stp.gh hp
  have hP : c.P ≠ p := fun z => r.hp (by rw [z]; exact hp)
  have hG : G p = none := by
    cases e : G p with
    | none => rfl
    | some u => have := r.stp.gh p u e; rw [hp] at this; cases this
  exact post p vs G _ s (r.step s ((upd_ne hP).trans r.pot)) upd_same a hG hp
theorem sen_lst {t : TA} {a : M (List D)} (ha : SA c E t a) : SEN c E (tLst t) (mshort a) := by
  intro G0 H0 G H σ l pot r Q post
  refine Sn.goN ha r post fun x dx p G1 H1 s1 r1 hx post1 => ?_
  split at post1
  · rename_i z
    exact ⟨by rw [AtL.length hx]; exact sz1000 z, sen_of r1 hx post1⟩
  · exact post1.elim
theorem se_tup {t : TA} {a : M (List D)} (ha : SA c E t a) : SE c E (tTup t) (mtupd a) := by
  intro G0 H0 G H σ l pot r Q post
  refine Sn.go (β := D) (rel := rD c) (Q := Q) ha r (k := fun ds => mbind (if ds.length ≤ 1000 then mret ds else fun _ _ => .bad) fun ds => mret (D.tup ds)) (by unfold mtupd mshort at post; unfold mbind at post ⊢; cases e : a l pot <;> simp only [e, R.bind] at post ⊢ <;> exact post) fun x dx p G1 H1 s1 r1 hx post1 => ?_
  split at post1
  · rename_i z
    refine ⟨by rw [AtL.length hx]; exact sz1000 z, fun q hq => ?_⟩
    have s : Stp c.P G1 H1 (upd G1 q (.tup x)) (upd H1 q (.tup x)) := Stp.lay r1.stp.gh hq
    have hP : c.P ≠ q := fun z => r1.hp (by rw [z]; exact hq)
    exact post1 _ _ _ s (r1.step s ((upd_ne hP).trans r1.pot)) (at_new_t r1.stp.gh hq hx)
  · exact post1.elim
/-- list(x), new -/
def fSeq1 : List D → Option (List D)
  | [d] => seqOf d
  | _ => none
def mlistN (a : M (List D)) : M (List D) := mbind a fun ds => mlift (fSeq1 ds)
theorem sen_list {t : TA} {a : M (List D)} (ha : SA c E t a) : SEN c E (tCB (fun xs H Q => ∃ p ys, xs = [.ref p] ∧ (SqL c.K H p ys ∨ SqT c.K H p ys) ∧ ∀ l, H l = none → Q (.ref l) (upd H l (.lst ys))) t) (mlistN a) := by
  intro G0 H0 G H σ l pot r Q post
  refine Sn.goN ha r post fun x dx p G1 H1 s1 r1 hx post1 => ?_
  cases e : fSeq1 dx with
  | none => rw [e] at post1; exact post1.elim
  | some es =>
    rw [e] at post1
    unfold fSeq1 at e
    split at e
    · obtain ⟨y, rfl, hy⟩ := atl1 hx
      obtain ⟨q, vs, rfl, h, a⟩ := seq_at hy e
      exact ⟨q, vs, rfl, sqLT r1.stp.gh h, sen_of r1 a post1⟩
    · cases e
/-- xs + ys of lists; xs * k -/
def fCat : D → D → Option D
  | .lst a, .lst b => if a.length + b.length ≤ 1000 then some (.lst (a ++ b)) else none
  | _, _ => none
theorem s2_cat : S2 c rCat fCat := ⟨fun G H x y dx dy d gh hP hx hy e => by
  unfold fCat at e
  split at e
  · split at e
    · rename_i z
      obtain ⟨p, vs, rfl, h, a⟩ := at_lst hx
      obtain ⟨q, ws, rfl, h', b⟩ := at_lst hy
      cases e
      exact ops_new _ gh hP (fun u hu => at_new_l gh hu (AtL.append a b)) fun Q k => ⟨p, q, vs, ws, rfl, rfl, gh _ _ h, gh _ _ h', by rw [AtL.length a, AtL.length b]; exact sz1000 z, k⟩
    · cases e
  · cases e⟩
def fRep : D → D → Option D
  | .lst [d], .int k => if 0 ≤ k ∧ k ≤ 1000 then some (.lst (List.replicate k.toNat d)) else none
  | _, _ => none
theorem atl_rep {P : Addr} {G : Hp} {v : V} {d : D} (h : At P G v d) : ∀ n, AtL P G (List.replicate n v) (List.replicate n d)
  | 0 => .nil
  | n + 1 => .cons h (atl_rep h n)
theorem rep_flat {α : Type} (v : α) : ∀ n, (List.replicate n [v]).flatten = List.replicate n v
  | 0 => rfl
  | n + 1 => by rw [List.replicate_succ, List.flatten_cons, rep_flat v n]; rfl
theorem s2_rep : S2 c rRep fRep := ⟨fun G H x y dx dy d gh hP hx hy e => by
  unfold fRep at e
  split at e
  · split at e
    · rename_i z
      obtain ⟨p, vs, rfl, h, a⟩ := at_lst hx
      obtain ⟨v, rfl, hv⟩ := atl1 a
      rw [at_int hy]
      cases e
      refine ops_new (.lst (List.replicate _ v)) gh hP (fun u hu => at_new_l gh hu (atl_rep hv _)) fun Q k => ⟨p, _, [v], rfl, rfl, gh _ _ h, by omega, by omega, ?_, ?_⟩
      · show 1 * _ ≤ sizeLine
        refine sz1000 ?_
        omega
      · rw [rep_flat]
        exact k
    · cases e
  · cases e⟩

/-! ### slices -/
abbrev SO (c : Cfg) (E : St → XK) (t : TO) (e : M (Option Int)) : Prop := Sn c E (fun _ (a b : Option Int) => a = b) t e
def onone : M (Option Int) := mret none
def intOf : D → Option Int
  | .int i => some i
  | _ => none
def osome (a : M D) : M (Option Int) := mbind a fun d => mlift ((intOf d).map some)
theorem so_none : SO c E tNoPart onone := fun G0 H0 G H σ l pot r Q post => Post.ok post r rfl
theorem so_some {t : TE} {a : M D} (ha : SE c E t a) : SO c E (tPart t) (osome a) := by
  intro G0 H0 G H σ l pot r Q post
  refine Sn.go ha r post fun x dx p G1 H1 s1 r1 hx post1 => ?_
  cases dx with
  | int i => rw [at_int hx]; exact ⟨i, rfl, Post.ok post1 r1 rfl⟩
  | _ => exact post1.elim
def cutD (xs : List D) (lo hi : Option Int) : List D := (xs.drop (HT.sIx xs.length 0 lo)).take (HT.sIx xs.length xs.length hi - HT.sIx xs.length 0 lo)
theorem cut_at {P : Addr} {G : Hp} {vs : List V} {ds : List D} (a : AtL P G vs ds) (lo hi : Option Int) : AtL P G (cutV vs lo hi) (cutD ds lo hi) := by
  unfold cutV cutD
  rw [AtL.length a]
  exact AtL.take _ (AtL.drop _ a)
def lstOf : D → Option (List D)
  | .lst ds => some ds
  | _ => none
def mcut (a : M D) (lo hi : M (Option Int)) : M (List D) := mbind a fun d => mbind lo fun i => mbind hi fun j => mlift ((lstOf d).map fun ds => cutD ds i j)
theorem sen_cut {t : TE} {tl th : TO} {a : M D} {lo hi : M (Option Int)} (ha : SE c E t a) (hl : SO c E tl lo) (hh : SO c E th hi) : SEN c E (tSl (rSlL c.K) t tl th) (mcut a lo hi) := by
  intro G0 H0 G H σ l pot r Q post
  refine Sn.goN ha r post fun x dx p G1 H1 s1 r1 hx post1 => ?_
  refine Sn.goN hl r1 post1 fun i di p2 G2 H2 s2 r2 hi post2 => ?_
  refine Sn.goN hh r2 post2 fun j dj p3 G3 H3 s3 r3 hj post3 => ?_
  subst hi hj
  cases dx with
  | lst ds =>
    obtain ⟨q, vs, rfl, h, a⟩ := at_lst (At.mono (s2.gg.trans s3.gg) hx)
    exact ⟨q, vs, rfl, .inl (.inl (r3.stp.gh _ _ h)), sen_of r3 (cut_at a i j) post3⟩
  | _ => exact post3.elim

/-! ### calls of the text's own defs -/
abbrev RF := List D → List Int → R D
def spD (c : Cfg) (f : RF) : Sp := fun vs H Q E => ∃ G ds pot, AtL c.P G vs ds ∧ Ex G H ∧ G c.P = none ∧ H c.P = some (.lst (pot.map V.int)) ∧ (match f ds pot with
  | .ok d p => ∀ v G' H', Stp c.P G H G' H' → H' c.P = some (.lst (p.map V.int)) → At c.P G' v d → Q v H'
  | .err m p => ∀ H', Stp c.P G H G H' → H' c.P = some (.lst (p.map V.int)) → E (.ref (c.ec m)) none H'
  | .bad => False)
def mcall (f : RF) (a : M (List D)) : M D := mbind a fun ds _ p => f ds p
theorem spD_of {f : RF} {G0 H0 G H : Hp} {σ : St} {l : Loc} {pot : List Int} {Q : VK} {vs : List V} {ds : List D} (r : Rel c G0 H0 G H σ l pot) (a : AtL c.P G vs ds)
    (post : Post c E (rD c) G0 H0 G H σ l (f ds pot) Q) : spD c f vs H Q (E σ) := by
  refine ⟨G, ds, pot, a, r.stp.gh, r.gP, r.pot, ?_⟩
  cases e : f ds pot with
  | ok d p =>
    rw [e] at post
    exact fun v G' H' s hp av => post v G' H' s (r.step s hp) av
  | err m p =>
    rw [e] at post
    exact fun H' s hp => post G H' (Ex.refl G) (r.step s hp)
  | bad =>
    rw [e] at post
    exact post
theorem se_call {f : RF} {t : TA} {a : M (List D)} (ha : SA c E t a) : SE c E (tCallS (spD c f) E t) (mcall f a) := by
  intro G0 H0 G H σ l pot r Q post
  refine Sn.go ha r post fun x dx p G1 H1 s1 r1 hx post1 => ?_
  exact spD_of r1 hx post1
end
end Den

namespace Den
open PySem L2
/-! ### set(t), sorted(set(t)) -/
section
variable {X : Cx}
def rSetI (K : PySem.W.Frag) (w : World) : List V → Hp → VK → Prop := fun xs H Q => ∃ (p : Addr) (ns : List Int), xs = [.ref p] ∧ SqT K H p (ns.map V.int) ∧ ns.length ≤ 1000 ∧
  ∀ q n, H q = none → n ≤ ns.length → Q (.ref q) (upd H q (SetO w q (fun j => decide (j ∈ ns)) n))
theorem cr_setI (hc : X.calm = true) : CallR X (.type "set") (rSetI X.K X.w) := by
  intro pins s σ H xs us Q I r h
  obtain ⟨p, ns, rfl, hs, hl, q⟩ := h
  obtain ⟨its, rv, ht, hz⟩ := I.tuple hs
  rw [Vals.ref1 r]
  refine call_set_tupI ns (I.ok.hd hc) ht (by simpa using ints_of_vals rv) (Nat.lt_of_le_of_lt (Nat.succ_le_succ hl) (by decide +kernel)) fun h' tk n R hn k => ?_
  have hnw : H s.heap.objs.size = none := I.hok.fresh (Nat.le_refl _)
  exact ⟨.ref _, _, I.laid (t' := tk) k (Nat.le_refl _) (setO_new R), rfl, q _ n hnw hn⟩
end

def insS (k : Int) : List Int → List Int
  | [] => [k]
  | n :: ns => if k < n then k :: n :: ns else if k = n then n :: ns else n :: insS k ns
def sortSet : List Int → List Int
  | [] => []
  | n :: ns => insS n (sortSet ns)
theorem mem_insS {k j : Int} : ∀ {ns : List Int}, j ∈ insS k ns ↔ j = k ∨ j ∈ ns
  | [] => by simp [insS]
  | n :: ns => by
    unfold insS
    split
    · simp
    · split
      · rename_i h; subst h; simp
      · simp only [List.mem_cons, mem_insS (ns := ns)]
        constructor
        · rintro (h | h | h) <;> simp [h]
        · rintro (h | h | h) <;> simp [h]
theorem mem_sortSet {j : Int} : ∀ {ns : List Int}, j ∈ sortSet ns ↔ j ∈ ns
  | [] => Iff.rfl
  | n :: ns => by unfold sortSet; rw [mem_insS, mem_sortSet (ns := ns), List.mem_cons]
theorem insS_srt {k : Int} : ∀ {ns : List Int}, ns.Pairwise (· < ·) → (insS k ns).Pairwise (· < ·)
  | [], _ => by simp [insS]
  | n :: ns, h => by
    unfold insS
    cases h with
    | cons h1 h2 =>
      split
      · rename_i z
        exact .cons (fun a ha => by
          rcases List.mem_cons.mp ha with rfl | ha
          · exact z
          · exact Int.lt_trans z (h1 a ha)) (.cons h1 h2)
      · split
        · exact .cons h1 h2
        · rename_i z1 z2
          exact .cons (fun a ha => by
            rcases mem_insS.mp ha with rfl | ha
            · omega
            · exact h1 a ha) (insS_srt h2)
theorem sortSet_srt : ∀ (ns : List Int), (sortSet ns).Pairwise (· < ·)
  | [] => .nil
  | n :: ns => insS_srt (sortSet_srt ns)
theorem srt_eq : ∀ {a b : List Int}, a.Pairwise (· < ·) → b.Pairwise (· < ·) → (∀ k : Int, k ∈ a ↔ k ∈ b) → a = b
  | [], [], _, _, _ => rfl
  | [], y :: ys, _, _, h => absurd ((h y).mpr List.mem_cons_self) (fun z => nomatch z)
  | x :: xs, [], _, _, h => absurd ((h x).mp List.mem_cons_self) (fun z => nomatch z)
  | x :: xs, y :: ys, .cons h1 h2, .cons g1 g2, h => by
    have exy : x = y := by
      rcases List.mem_cons.mp ((h x).mp List.mem_cons_self) with e | e
      · exact e
      · rcases List.mem_cons.mp ((h y).mpr List.mem_cons_self) with e' | e'
        · exact e'.symm
        · have := g1 x e; have := h1 y e'; omega
    subst exy
    rw [srt_eq h2 g2 fun k => ?_]
    constructor
    · intro hk
      rcases List.mem_cons.mp ((h k).mp (List.mem_cons_of_mem _ hk)) with e | e
      · subst e; exact absurd (h1 k hk) (Int.lt_irrefl _)
      · exact e
    · intro hk
      rcases List.mem_cons.mp ((h k).mpr (List.mem_cons_of_mem _ hk)) with e | e
      · subst e; exact absurd (g1 k hk) (Int.lt_irrefl _)
      · exact e
def fSortSet : D → Option D
  | .tup ds => (intsOf ds).bind fun ns => if ns.length < 64 then some (.lst ((sortSet ns).map .int)) else none
  | _ => none
section
variable {c : Cfg} {E : St → XK}
theorem se_sortSet {w : World} {t : TE} {a : M D} (ha : SE c E t a) : SE c E (tCB (rSortedSet w) (tCons (tCB (rSetI c.K w) (tCons t tNil)) tNil)) (op1 fSortSet a) := by
  intro G0 H0 G H σ l pot r Q post
  show t σ H (fun v H1 => rSetI c.K w [v] H1 fun u H2 => rSortedSet w [u] H2 Q)
  refine Sn.go ha r post fun x dx p G1 H1 s1 r1 hx post1 => ?_
  cases dx with
  | tup ds =>
    obtain ⟨q, vs, rfl, h, a⟩ := at_tup hx
    cases e : intsOf ds with
    | none => simp only [fSortSet, e] at post1; exact post1.elim
    | some ns =>
      have ev := ints_at a e
      subst ev
      by_cases z : ns.length < 64
      · simp only [fSortSet, e, Option.bind_some, if_pos z] at post1
        refine ⟨q, ns, rfl, .inl (.inl (r1.stp.gh _ _ h)), by omega, fun u n hu hn => ?_⟩
        have s2 : Stp c.P G1 H1 G1 (upd H1 u (SetO w u (fun j => decide (j ∈ ns)) n)) := Stp.lay0 r1.stp.gh hu
        have hP : c.P ≠ u := fun z => r1.hp (by rw [z]; exact hu)
        have r2 := r1.step s2 ((upd_ne hP).trans r1.pot)
        refine ⟨u, _, n, rfl, upd_same, by omega, fun ms y hm hk _ hy => ?_⟩
        have em : ms = sortSet ns := srt_eq hm (sortSet_srt ns) fun k => by rw [hk, mem_sortSet]; simp
        subst em
        have hPy : c.P ≠ y := fun z => r2.hp (by rw [z]; exact hy)
        have s3 := Stp.lay (P := c.P) (o := .lst ((sortSet ns).map V.int)) r2.stp.gh hy
        exact post1 _ _ _ (s2.trans s3) (r2.step s3 ((upd_ne hPy).trans r2.pot)) (at_new_l r2.stp.gh hy AtL.ints)
      · simp only [fSortSet, e, Option.bind_some, if_neg z] at post1
        exact post1.elim
  | _ => exact post1.elim

/-! ### isinstance -/
/-- what is known of an own class -/
structure ClsF (K : PySem.W.Frag) (C : Addr) : Prop where
  cl : Cls K C
  ha : PySem.W.findIn K (.ref C) "__class__" = some (some (.builtin "object.__class__"))
  hn : PySem.W.specialIn K (.builtin "object.__class__") "__get__" = some (some (.builtin "getset_descriptor.__get__"))
  htk : PySem.W.takesIn K (.builtin "object.__class__") = some true
  hm : PySem.W.mroIn K C (.type "object") = some true
  self : PySem.W.kitOne K (.ref C) (.ref C) = some true
  nl : PySem.W.kitOne K (.type "list") (.ref C) = some false
  nt : PySem.W.kitOne K (.type "tuple") (.ref C) = some false
  ni : PySem.W.kitOne K (.type "int") (.ref C) = some false
  nb : PySem.W.kitOne K (.type "bool") (.ref C) = some false
  ns : PySem.W.kitOne K (.type "str") (.ref C) = some false
  nn : PySem.W.kitOne K (.type "NoneType") (.ref C) = some false
def tyN : D → Option Ty
  | .non => some .non
  | .bl _ => some .bl
  | .int _ => some .int
  | .str _ => some .str
  | .lst _ => some .lst
  | .tup _ => some .tup
  | _ => none
def isTy : Ty → Ty → Bool
  | .non, .non => true
  | .bl, .bl => true
  | .bl, .int => true
  | .int, .int => true
  | .str, .str => true
  | .lst, .lst => true
  | .tup, .tup => true
  | _, _ => false
theorem kit_is (K : PySem.W.Frag) (a b : Ty) : PySem.W.kitOne K (.type a.name) (.type b.name) = some (isTy a b) := by
  cases a <;> cases b <;> exact kit_ty (by decide +kernel)
theorem ty_at {K : PySem.W.Frag} {P : Addr} {G H : Hp} {x : V} {d : D} {n : Ty} (gh : Ex G H) (h : At P G x d) (e : tyN d = some n) : TyX K H x (.type n.name) := by
  cases h with
  | non => cases e; exact .base .non
  | bl b => cases e; exact .base (.bl b)
  | int i => cases e; exact .base (.int i)
  | str s => cases e; exact .base (.str s)
  | lst h a => cases e; exact .base (.lst (gh _ _ h))
  | tup h a => cases e; exact .base (.tup (gh _ _ h))
  | _ => cases e
def fIs1 : List D → Option D
  | [d, .ty t] => (tyN d).map fun n => .bl (isTy n t)
  | _ => none
theorem sn_is1 : SN c (rIsi c.K) fIs1 := ⟨fun G H xs ds d gh _ hx e => by
  unfold fIs1 at e
  split at e
  · obtain ⟨x, y, rfl, hx1, hy⟩ := atl2 hx
    rename_i dx t
    cases e1 : tyN dx with
    | none => rw [e1] at e; cases e
    | some n =>
      rw [e1] at e
      cases e
      cases hy
      exact ops_pure gh (.bl _) fun Q q => ⟨x, .ty t.name, _, _, _, rfl, .ty t.name, ty_at gh hx1 e1, kit_is _ n t, q⟩
  · cases e⟩
def fIs2 : List D → Option D
  | [d, .tup [.ty t, .ty u]] => (tyN d).map fun n => .bl (isTy n t || isTy n u)
  | _ => none
theorem sn_is2 : SN c (rIsiT c.K) fIs2 := ⟨fun G H xs ds d gh _ hx e => by
  unfold fIs2 at e
  split at e
  · obtain ⟨x, y, rfl, hx1, hy⟩ := atl2 hx
    rename_i dx t u
    cases e1 : tyN dx with
    | none => rw [e1] at e; cases e
    | some n =>
      rw [e1] at e
      cases e
      obtain ⟨p, vs, rfl, h, al⟩ := at_tup hy
      obtain ⟨v1, v2, rfl, h1, h2⟩ := atl2 al
      cases h1
      cases h2
      refine ops_pure gh (.bl _) fun Q q => ⟨x, p, _, _, _, _, rfl, gh _ _ h, .cons (.ty _) (.cons (.ty _) .nil), ty_at gh hx1 e1, ?_, q⟩
      refine kitAny_cons (kit_is _ n t) (fun ha => ?_) fun ha => by rw [ha]; rfl
      refine kitAny_cons (kit_is _ n u) (fun hb => ?_) fun hb => by rw [hb]; cases isTy n t <;> rfl
      rw [ha, hb]
      rfl
  · cases e⟩
def fIsC (C : Addr) : List D → Option D
  | [d, .cls C'] => if C' = C then (match d with
    | .ins C1 _ _ => if C1 = C then some (.bl true) else none
    | d => (tyN d).map fun _ => .bl false) else none
  | _ => none
theorem sn_isC {C : Addr} (F : ClsF c.K C) : SN c (rIsi c.K) (fIsC C) := ⟨fun G H xs ds d gh _ hx e => by
  unfold fIsC at e
  split at e
  · obtain ⟨x, y, rfl, hx1, hy⟩ := atl2 hx
    rename_i dx C'
    split at e
    · rename_i z
      subst z
      cases hy
      have tyCase : ∀ {n : Ty}, tyN dx = some n → PySem.W.kitOne c.K (.type n.name) (.ref C') = some false → d = .bl false → OpS c (rIsi c.K [x, .ref C']) G H d := fun {n : Ty} e1 e2 e3 => by
        subst e3
        exact ops_pure gh (.bl false) fun Q q => ⟨x, .ref C', _, _, false, rfl, .own C', ty_at gh hx1 e1, e2, q⟩
      cases dx with
      | ins C1 ns es =>
        dsimp only at e
        split at e
        · rename_i z
          subst z
          cases e
          cases hx1 with
          | ins h a => exact ops_pure gh (.bl true) fun Q q => ⟨_, .ref C1, _, _, true, rfl, .own C1, .base (.ins (gh _ _ h) F.cl F.ha F.hn F.htk F.hm), F.self, q⟩
        · cases e
      | non => cases e; exact tyCase rfl F.nn rfl
      | bl b => cases e; exact tyCase rfl F.nb rfl
      | int i => cases e; exact tyCase rfl F.ni rfl
      | str s => cases e; exact tyCase rfl F.ns rfl
      | lst l => cases e; exact tyCase rfl F.nl rfl
      | tup l => cases e; exact tyCase rfl F.nt rfl
      | pot => cases e
      | ty n => cases e
      | cls C => cases e
    · cases e
  · cases e⟩
end
end Den

namespace Den
open PySem L2
section
variable {c : Cfg} {E : St → XK}
/-! ### slots -/
theorem Rel.set {G0 H0 G H : Hp} {σ : St} {l : Loc} {pot : List Int} {i : Nat} {v : V} {d : D} (r : Rel c G0 H0 G H σ l pot) (a : At c.P G v d) (hi : i < l.length) : Rel c G0 H0 G H (σ.set i (some v)) (l.set i (some (.dat d))) pot := by
  have hσ : i < σ.length := by rw [r.len]; exact hi
  refine ⟨r.stp, r.pot, r.gP, r.hP, by rw [List.length_set, List.length_set, r.len], fun j x e => ?_, fun j k x y e1 e2 o1 o2 ne => ?_⟩
  · by_cases z : j = i
    · subst z
      rw [List.getElem?_set_self hi] at e
      cases e
      rw [List.getElem?_set_self hσ]
      exact a
    · rw [List.getElem?_set_ne (Ne.symm z)] at e ⊢
      exact r.slot j x e
  · have nj : j ≠ i := fun z => by
      subst z
      rw [List.getElem?_set_self hi] at e1
      cases e1
      cases o1
    have nk : k ≠ i := fun z => by
      subst z
      rw [List.getElem?_set_self hi] at e2
      cases e2
      cases o2
    rw [List.getElem?_set_ne (Ne.symm nj)] at e1 ⊢
    rw [List.getElem?_set_ne (Ne.symm nk)] at e2 ⊢
    exact r.dist j k x y e1 e2 o1 o2 ne
theorem Rel.wiped {G0 H0 G H : Hp} {σ : St} {l : Loc} {pot : List Int} {i : Nat} (r : Rel c G0 H0 G H σ l pot) : Rel c G0 H0 G H (σ.set i none) (l.set i none) pot := by
  refine ⟨r.stp, r.pot, r.gP, r.hP, by rw [List.length_set, List.length_set, r.len], fun j x e => ?_, fun j k x y e1 e2 o1 o2 ne => ?_⟩
  · by_cases z : j = i
    · subst z
      by_cases hj : j < l.length
      · rw [List.getElem?_set_self hj] at e
        cases e
      · rw [List.getElem?_eq_none (by simpa using hj)] at e
        cases e
    · rw [List.getElem?_set_ne (Ne.symm z)] at e ⊢
      exact r.slot j x e
  · have nn : ∀ (m : Nat) (x : L), (l.set i none)[m]? = some (some x) → m ≠ i := fun m x e z => by
      subst z
      by_cases hj : m < l.length
      · rw [List.getElem?_set_self hj] at e
        cases e
      · rw [List.getElem?_eq_none (by simpa using hj)] at e
        cases e
    have nj := nn j x e1
    have nk := nn k y e2
    rw [List.getElem?_set_ne (Ne.symm nj)] at e1 ⊢
    rw [List.getElem?_set_ne (Ne.symm nk)] at e2 ⊢
    exact r.dist j k x y e1 e2 o1 o2 ne
/-- a new list of one's own goes to a slot -/
theorem Rel.own {G0 H0 G H : Hp} {σ : St} {l : Loc} {pot : List Int} {i : Nat} {p : Addr} {vs : List V} {ds : List D} (r : Rel c G0 H0 G H σ l pot) (h : H p = some (.lst vs)) (a : AtL c.P G vs ds) (hg : G p = none) (h0 : H0 p = none) (nc : ∀ (j : Nat) (x : L), l[j]? = some (some x) → owned x = true → σ[j]? ≠ some (some (.ref p))) (hi : i < l.length) :
    Rel c G0 H0 G H (σ.set i (some (.ref p))) (l.set i (some (.cell ds))) pot := by
  have hσ : i < σ.length := by rw [r.len]; exact hi
  refine ⟨r.stp, r.pot, r.gP, r.hP, by rw [List.length_set, List.length_set, r.len], fun j x e => ?_, fun j k x y e1 e2 o1 o2 ne => ?_⟩
  · by_cases z : j = i
    · subst z
      rw [List.getElem?_set_self hi] at e
      cases e
      rw [List.getElem?_set_self hσ]
      exact ⟨vs, h, a, hg, h0⟩
    · rw [List.getElem?_set_ne (Ne.symm z)] at e ⊢
      exact r.slot j x e
  · by_cases zj : j = i
    · subst zj
      have nk : k ≠ j := fun z => ne z.symm
      rw [List.getElem?_set_ne (Ne.symm nk)] at e2 ⊢
      rw [List.getElem?_set_self hσ]
      exact fun z => nc k y e2 o2 z.symm
    · rw [List.getElem?_set_ne (Ne.symm zj)] at e1 ⊢
      by_cases zk : k = i
      · subst zk
        rw [List.getElem?_set_self hσ]
        exact nc j x e1 o1
      · rw [List.getElem?_set_ne (Ne.symm zk)] at e2 ⊢
        exact r.dist j k x y e1 e2 o1 o2 ne
/-- a list of one's own changes -/
theorem Rel.write {G0 H0 G H : Hp} {σ : St} {l : Loc} {pot : List Int} {i : Nat} {p : Addr} {vs : List V} {ds es : List D} (r : Rel c G0 H0 G H σ l pot) (hc : l[i]? = some (some (.cell es))) (hσ : σ[i]? = some (some (.ref p))) (a : AtL c.P G vs ds) :
    Rel c G0 H0 G (upd H p (.lst vs)) σ (l.set i (some (.cell ds))) pot := by
  have q := r.slot i _ hc
  rw [hσ] at q
  obtain ⟨ws, h1, h2, h3, h4⟩ := q
  have hi : i < l.length := (List.getElem?_eq_some_iff.mp hc).1
  have hP : c.P ≠ p := fun z => r.hP (by rw [z]; exact h4)
  refine ⟨⟨r.stp.gg, fun b o e => ?_, fun b o e n => ?_, fun b e => ?_, r.stp.new⟩, (upd_ne hP).trans r.pot, r.gP, r.hP, by rw [List.length_set, r.len], fun j x e => ?_, fun j k x y e1 e2 o1 o2 ne => ?_⟩
  · rw [upd_ne (fun z => by subst z; rw [h3] at e; cases e)]; exact r.stp.gh b o e
  · rw [upd_ne (fun z => by subst z; rw [h4] at e; cases e)]; exact r.stp.keep b o e n
  · by_cases z : b = p
    · subst z; exact h4
    · rw [upd_ne z] at e; exact r.stp.there b e
  · by_cases z : j = i
    · subst z
      rw [List.getElem?_set_self hi] at e
      cases e
      rw [hσ]
      exact ⟨vs, upd_same, a, h3, h4⟩
    · rw [List.getElem?_set_ne (Ne.symm z)] at e
      have a2 := r.slot j x e
      match ho : σ[j]?, x, a2 with
      | some (some v), .dat d, a2 => exact a2
      | some (some (.ref q)), .cell ds', ⟨ws', g1, g2, g3, g4⟩ =>
        have nq : q ≠ p := fun w => r.dist j i _ _ e hc rfl rfl z (by rw [ho, hσ, w])
        exact ⟨ws', (upd_ne nq).trans g1, g2, g3, g4⟩
      | some (some (.ref q)), .obj ea C ns ds', ⟨hea, ws', dx, g1, g2, g3, g4, g5⟩ =>
        have nq : q ≠ p := fun w => r.dist j i _ _ e hc rfl rfl z (by rw [ho, hσ, w])
        exact ⟨hea, ws', dx, (upd_ne nq).trans g1, g2, g3, g4, g5⟩
  · have back : ∀ (m : Nat) (x : L), (l.set i (some (.cell ds)))[m]? = some (some x) → owned x = true → ∃ y, l[m]? = some (some y) ∧ owned y = true := fun m x e o => by
      by_cases z : m = i
      · subst z; exact ⟨_, hc, rfl⟩
      · rw [List.getElem?_set_ne (Ne.symm z)] at e; exact ⟨x, e, o⟩
    obtain ⟨x', e1', o1'⟩ := back j x e1 o1
    obtain ⟨y', e2', o2'⟩ := back k y e2 o2
    exact r.dist j k x' y' e1' e2' o1' o2' ne
/-- a list of one's own stands from now on -/
theorem Rel.give {G0 H0 G H : Hp} {σ : St} {l : Loc} {pot : List Int} {i : Nat} {ds : List D} (r : Rel c G0 H0 G H σ l pot) (hc : l[i]? = some (some (.cell ds))) :
    ∃ G', Ex G G' ∧ Rel c G0 H0 G' H σ (l.set i (some (.dat (.lst ds)))) pot := by
  have q := r.slot i _ hc
  have hi : i < l.length := (List.getElem?_eq_some_iff.mp hc).1
  cases ho : σ[i]? with
  | none => rw [ho] at q; exact q.elim
  | some o =>
    cases o with
    | none => rw [ho] at q; exact q.elim
    | some v =>
      cases v with
      | ref p =>
        rw [ho] at q
        obtain ⟨vs, h1, h2, h3, h4⟩ := q
        have hP : p ≠ c.P := fun z => r.hP (by rw [← z]; exact h4)
        have r1 : Rel c G0 H0 G H σ (l.set i none) pot := by
          refine ⟨r.stp, r.pot, r.gP, r.hP, by rw [List.length_set, r.len], fun j x e => ?_, fun j k x y e1 e2 o1 o2 ne => ?_⟩
          · by_cases z : j = i
            · subst z; rw [List.getElem?_set_self hi] at e; cases e
            · rw [List.getElem?_set_ne (Ne.symm z)] at e; exact r.slot j x e
          · have nn : ∀ (m : Nat) (x : L), (l.set i none)[m]? = some (some x) → m ≠ i := fun m x e z => by
              subst z; rw [List.getElem?_set_self hi] at e; cases e
            have nj := nn j x e1
            have nk := nn k y e2
            rw [List.getElem?_set_ne (Ne.symm nj)] at e1
            rw [List.getElem?_set_ne (Ne.symm nk)] at e2
            exact r.dist j k x y e1 e2 o1 o2 ne
        have r2 := Rel.freeze r1 h1 h4 hP (fun j x e o z => by
          have nj : j ≠ i := fun w => by subst w; rw [List.getElem?_set_self hi] at e; cases e
          rw [List.getElem?_set_ne (Ne.symm nj)] at e
          exact r.dist j i _ _ e hc o rfl nj (by rw [z, ho])) h3
        have r3 := Rel.set (i := i) r2 (v := .ref p) (d := .lst ds) (.lst upd_same (AtL.mono (Ex.new h3) h2)) (by rw [List.length_set]; exact hi)
        have e1 : σ.set i (some (.ref p)) = σ := by
          have hσ : i < σ.length := by rw [r.len]; exact hi
          refine List.ext_getElem? fun j => ?_
          by_cases z : j = i
          · subst z; rw [List.getElem?_set_self hσ, ho]
          · rw [List.getElem?_set_ne (Ne.symm z)]
        rw [e1, List.set_set] at r3
        exact ⟨_, Ex.new h3, r3⟩
      | _ => rw [ho] at q; exact q.elim

/-! ### statements -/
inductive O where
  | nx (l : Loc) (p : List Int) | rt (d : D) (p : List Int) | bk (l : Loc) (p : List Int) | ct (l : Loc) (p : List Int) | err (n : Nat) (l : Loc) (p : List Int) | bad
abbrev MS := Loc → List Int → O
def PostS (c : Cfg) (E : St → XK) (G0 H0 G : Hp) (De : Ends) : O → Prop
  | .nx l' p => ∀ G' H' σ', Ex G G' → Rel c G0 H0 G' H' σ' l' p → De.nx σ' H'
  | .rt d p => ∀ v G' H' σ' l', Ex G G' → Rel c G0 H0 G' H' σ' l' p → At c.P G' v d → De.rt v H'
  | .bk l' p => ∀ G' H' σ', Ex G G' → Rel c G0 H0 G' H' σ' l' p → De.bk σ' H'
  | .ct l' p => ∀ G' H' σ', Ex G G' → Rel c G0 H0 G' H' σ' l' p → De.ct σ' H'
  | .err n l' p => ∀ G' H' σ', Ex G G' → Rel c G0 H0 G' H' σ' l' p → E σ' (.ref (c.ec n)) none H'
  | .bad => False
def SS (c : Cfg) (E : St → XK) (ts : TS) (s : MS) : Prop := ∀ G0 H0 G H σ l pot, Rel c G0 H0 G H σ l pot → ∀ De, PostS c E G0 H0 G De (s l pot) → ts De σ H
theorem PostS.mono {G0 H0 G G1 : Hp} {De : Ends} {o : O} (p : PostS c E G0 H0 G De o) (e : Ex G G1) : PostS c E G0 H0 G1 De o := by
  cases o with
  | nx l' q => exact fun G' H' σ' e' r => p G' H' σ' (e.trans e') r
  | rt d q => exact fun v G' H' σ' l' e' r a => p v G' H' σ' l' (e.trans e') r a
  | bk l' q => exact fun G' H' σ' e' r => p G' H' σ' (e.trans e') r
  | ct l' q => exact fun G' H' σ' e' r => p G' H' σ' (e.trans e') r
  | err n l' q => exact fun G' H' σ' e' r => p G' H' σ' (e.trans e') r
  | bad => exact p
def sbind {α : Type} (a : M α) (k : α → MS) : MS := fun l p => match a l p with
  | .ok x p' => k x l p'
  | .err n p' => .err n l p'
  | .bad => .bad
theorem Sn.goS {γ δ : Type} {rel' : Hp → γ → δ → Prop} {G0 H0 G H : Hp} {σ : St} {l : Loc} {pot : List Int} {t1 : St → Hp → (γ → Hp → Prop) → Prop} {e1 : M δ} (h1 : Sn c E rel' t1 e1) (r : Rel c G0 H0 G H σ l pot) {k : δ → MS} {De : Ends} {X : γ → Hp → Prop}
    (post : PostS c E G0 H0 G De (sbind e1 k l pot))
    (h2 : ∀ a b p G' H', Stp c.P G H G' H' → Rel c G0 H0 G' H' σ l p → rel' G' a b → PostS c E G0 H0 G' De (k b l p) → X a H') : t1 σ H X := by
  refine h1 G0 H0 G H σ l pot r _ ?_
  unfold sbind at post
  cases e : e1 l pot with
  | ok b p =>
    rw [e] at post
    exact fun a G' H' s r' ra => h2 a b p G' H' s r' ra (PostS.mono post s.gg)
  | err n p =>
    rw [e] at post
    exact fun G' H' e' r' => post G' H' σ e' r'
  | bad =>
    rw [e] at post
    exact post
theorem PostS.of {G0 H0 G H : Hp} {De : Ends} {σ : St} {l : Loc} {p : List Int} (post : PostS c E G0 H0 G De (.nx l p)) (r : Rel c G0 H0 G H σ l p) : De.nx σ H := post G H σ (Ex.refl G) r
def sskip : MS := fun l p => .nx l p
theorem ss_next : SS c E tNext sskip := fun G0 H0 G H σ l pot r De post => PostS.of post r
def sseq (a b : MS) : MS := fun l p => match a l p with
  | .nx l' p' => b l' p'
  | o => o
theorem ss_seq {t u : TS} {a b : MS} (ha : SS c E t a) (hb : SS c E u b) : SS c E (tSeq t u) (sseq a b) := by
  intro G0 H0 G H σ l pot r De post
  refine ha G0 H0 G H σ l pot r _ ?_
  unfold sseq at post
  cases e : a l pot with
  | nx l' p' =>
    rw [e] at post
    exact fun G' H' σ' e' r' => hb _ _ _ _ _ _ _ r' De (PostS.mono post e')
  | rt d p' => rw [e] at post; exact post
  | bk l' p' => rw [e] at post; exact post
  | ct l' p' => rw [e] at post; exact post
  | err n l' p' => rw [e] at post; exact post
  | bad => rw [e] at post; exact post
def sif (t : M Bool) (a b : MS) : MS := sbind t fun x => if x = true then a else b
theorem ss_if {t : TT} {ta tb : TS} {q : M Bool} {a b : MS} (hq : ST c E t q) (ha : SS c E ta a) (hb : SS c E tb b) : SS c E (tIfS t ta tb) (sif q a b) := by
  intro G0 H0 G H σ l pot r De post
  refine Sn.goS hq r post fun x dx p G1 H1 s1 r1 hx post1 => ?_
  subst hx
  cases x with
  | true => rw [if_pos rfl]; exact ha _ _ _ _ _ _ _ r1 De post1
  | false => rw [if_neg Bool.false_ne_true]; exact hb _ _ _ _ _ _ _ r1 De post1
def sret (a : M D) : MS := sbind a fun x _ p => .rt x p
theorem ss_ret {t : TE} {a : M D} (ha : SE c E t a) : SS c E (tRet t) (sret a) := by
  intro G0 H0 G H σ l pot r De post
  refine Sn.goS ha r post fun x dx p G1 H1 s1 r1 hx post1 => ?_
  exact post1 x G1 H1 σ l (Ex.refl G1) r1 hx
def sdrop (a : M D) : MS := sbind a fun _ l p => .nx l p
theorem ss_drop {t : TE} {a : M D} (ha : SE c E t a) : SS c E (tDrop t) (sdrop a) := by
  intro G0 H0 G H σ l pot r De post
  refine Sn.goS ha r post fun x dx p G1 H1 s1 r1 hx post1 => ?_
  exact PostS.of post1 r1
def sbreak : MS := fun l p => .bk l p
theorem ss_break : SS c E tBreak sbreak := fun G0 H0 G H σ l pot r De post => post G H σ (Ex.refl G) r
def snever : MS := fun _ _ => .bad
theorem ss_never : SS c E tNever snever := fun G0 H0 G H σ l pot r De post => post
/-- targets -/
def SG (c : Cfg) (g : TG) (tg : D → Loc → Option Loc) : Prop := ∀ G0 H0 G H σ l l' pot x d, Rel c G0 H0 G H σ l pot → At c.P G x d → tg d l = some l' → ∀ Q : St → Hp → Prop, (∀ σ', Rel c G0 H0 G H σ' l' pot → Q σ' H) → g x σ H Q
def gset (i : Nat) : D → Loc → Option Loc := fun d l => if i < l.length then some (l.set i (some (.dat d))) else none
theorem sg_name {i : Nat} : SG c (gName i) (gset i) := by
  intro G0 H0 G H σ l l' pot x d r a e Q q
  unfold gset at e
  split at e
  · rename_i z
    cases e
    exact q _ (r.set a z)
  · cases e
def gset2 (i j : Nat) : D → Loc → Option Loc := fun d l => match d with
  | .tup [a, b] => (gset i a l).bind (gset j b)
  | _ => none
theorem sg_pair {i j : Nat} : SG c (gTup c.K 2 (gCons (gName i) (gCons (gName j) gNil))) (gset2 i j) := by
  intro G0 H0 G H σ l l' pot x d r a e Q q
  unfold gset2 at e
  split at e
  · rename_i d1 d2
    obtain ⟨p, vs, rfl, h, al⟩ := at_tup a
    obtain ⟨v1, v2, rfl, h1, h2⟩ := atl2 al
    refine ⟨p, _, rfl, .inl (.inl (r.stp.gh _ _ h)), rfl, v1, _, rfl, ?_⟩
    cases e1 : gset i d1 l with
    | none => rw [e1] at e; cases e
    | some l1 =>
      rw [e1] at e
      refine sg_name (c := c) (i := i) G0 H0 G H σ l l1 pot v1 d1 r h1 e1 _ fun σ1 r1 => ⟨v2, _, rfl, ?_⟩
      exact sg_name (c := c) (i := j) G0 H0 G H σ1 l1 l' pot v2 d2 r1 h2 e _ fun σ2 r2 => ⟨rfl, q σ2 r2⟩
  · cases e
def sasg (a : M D) (tg : D → Loc → Option Loc) : MS := sbind a fun x l p => match tg x l with
  | some l' => .nx l' p
  | none => .bad
theorem ss_asg {t : TE} {g : TG} {a : M D} {tg : D → Loc → Option Loc} (ha : SE c E t a) (hg : SG c g tg) : SS c E (tAsg t g) (sasg a tg) := by
  intro G0 H0 G H σ l pot r De post
  refine Sn.goS ha r post fun x dx p G1 H1 s1 r1 hx post1 => ?_
  cases e : tg dx l with
  | none => simp only [e] at post1; exact post1.elim
  | some l' =>
    simp only [e] at post1
    exact hg G0 H0 G1 H1 σ l l' p x dx r1 hx e _ fun σ' r' => PostS.of post1 r'
/-- x = a new list, one's own -/
def sown (a : M (List D)) (i : Nat) : MS := sbind a fun ds l p => if i < l.length then .nx (l.set i (some (.cell ds))) p else .bad
theorem ss_own {t : TE} {a : M (List D)} {i : Nat} (ha : SEN c E t a) : SS c E (tAsg t (gName i)) (sown a i) := by
  intro G0 H0 G H σ l pot r De post
  refine ha G0 H0 G H σ l pot r _ ?_
  unfold sown sbind at post
  cases e : a l pot with
  | bad => rw [e] at post; exact post
  | err n p => rw [e] at post; exact fun G' H' e' r' => post G' H' σ e' r'
  | ok ds p =>
    rw [e] at post
    intro q vs G' H' s r' h1 h2 h3 h4
    dsimp only at post
    split at post
    · rename_i z
      exact PostS.of (PostS.mono post s.gg) (r'.own h1 h2 h3 (r.stp.there q h4) (fun j x e o => r.own_ne h4 j x e o) z)
    · exact post.elim
/-- ahead of a statement: a list of one's own stands from now on -/
def sgive (i : Nat) (s : MS) : MS := fun l p => match l[i]? with
  | some (some (.cell ds)) => s (l.set i (some (.dat (.lst ds)))) p
  | _ => s l p
theorem ss_give {i : Nat} {t : TS} {s : MS} (hs : SS c E t s) : SS c E t (sgive i s) := by
  intro G0 H0 G H σ l pot r De post
  unfold sgive at post
  split at post
  · rename_i ds e
    obtain ⟨G', eg, r'⟩ := r.give e
    exact hs _ _ _ _ _ _ _ r' De (PostS.mono post eg)
  · exact hs _ _ _ _ _ _ _ r De post
/-- xs.append(e), xs one's own -/
def sappend (i : Nat) (a : M D) : MS := fun l p => match l[i]? with
  | some (some (.cell ds)) => if ds.length < 1000 then sbind a (fun x l p => .nx (l.set i (some (.cell (ds ++ [x])))) p) l p else .bad
  | _ => .bad
theorem cell_at {G0 H0 G H : Hp} {σ : St} {l : Loc} {pot : List Int} {i : Nat} {ds : List D} (r : Rel c G0 H0 G H σ l pot) (hc : l[i]? = some (some (.cell ds))) :
    ∃ p vs, σ[i]? = some (some (.ref p)) ∧ H p = some (.lst vs) ∧ AtL c.P G vs ds := by
  have q := r.slot i _ hc
  cases ho : σ[i]? with
  | none => rw [ho] at q; exact q.elim
  | some o =>
    cases o with
    | none => rw [ho] at q; exact q.elim
    | some v =>
      cases v with
      | ref p =>
        rw [ho] at q
        obtain ⟨vs, h1, h2, h3, h4⟩ := q
        exact ⟨p, vs, rfl, h1, h2⟩
      | _ => rw [ho] at q; exact q.elim
theorem ss_append {i : Nat} {t : TE} {a : M D} (ha : SE c E t a) : SS c E (tDrop (tBM c.K "list" rAppend (tVar i) (tCons t tNil))) (sappend i a) := by
  intro G0 H0 G H σ l pot r De post
  unfold sappend at post
  split at post
  · rename_i ds hc
    split at post
    · rename_i z
      obtain ⟨p, vs, hσ, h1, h2⟩ := cell_at r hc
      refine ⟨.ref p, hσ, .inl ⟨rfl, _, .inl (.inl h1)⟩, ?_⟩
      refine Sn.goS ha r post fun x dx p' G1 H1 s1 r1 hx post1 => ?_
      obtain ⟨p2, vs2, hσ2, g1, g2⟩ := cell_at r1 hc
      rw [hσ] at hσ2
      cases hσ2
      refine ⟨p, vs2, x, rfl, rfl, g1, by rw [AtL.length g2]; exact Nat.lt_of_lt_of_le z (by decide), ?_⟩
      exact PostS.of post1 (r1.write hc hσ (AtL.append g2 (.cons hx .nil)))
    · exact post.elim
  · exact post.elim
/-! ### the pot -/
def potOf : D → Option Unit
  | .pot => some ()
  | _ => none
theorem Stp.pot {P : Addr} {G H : Hp} {o : HO} (gh : Ex G H) (hG : G P = none) (hH : H P ≠ none) : Stp P G H G (upd H P o) := by
  refine ⟨Ex.refl G, fun b u e => ?_, fun b u e n => ?_, fun b e => ?_, fun b u e => .inl e⟩
  · rw [upd_ne (fun z => by subst z; rw [hG] at e; cases e)]; exact gh b u e
  · rw [upd_ne n]; exact e
  · by_cases z : b = P
    · subst z; rw [upd_same] at e; cases e
    · rw [upd_ne z] at e; exact e
def mpop (a : M D) : M D := mbind a fun x l p => match x with
  | .pot => match p[p.length - 1]? with
    | some n => .ok (.int n) p.dropLast
    | none => .bad
  | _ => .bad
theorem se_pop {t : TE} {a : M D} (ha : SE c E t a) : SE c E (tBM0 c.K "list" rPop t) (mpop a) := by
  intro G0 H0 G H σ l pot r Q post
  refine Sn.go ha r post fun x dx p G1 H1 s1 r1 hx post1 => ?_
  cases dx with
  | pot =>
    cases hx
    refine ⟨.inl ⟨rfl, _, .inl (.inl r1.pot)⟩, ?_⟩
    dsimp only at post1
    cases e : p[p.length - 1]? with
    | none => rw [e] at post1; exact post1.elim
    | some n =>
      rw [e] at post1
      refine ⟨c.P, _, .int n, rfl, rfl, r1.pot, by simpa using e, ?_⟩
      have s := Stp.pot (o := .lst ((p.map V.int).dropLast)) r1.stp.gh r1.gP r1.hp
      exact post1 _ _ _ s (r1.step s (by rw [upd_same, List.map_dropLast])) (.int n)
  | _ => exact post1.elim
def mlenp (a : M D) : M D := mbind a fun x l p => match x with
  | .pot => .ok (.int p.length) p
  | _ => .bad
theorem se_lenp {t : TE} {a : M D} (ha : SE c E t a) : SE c E (tCB (rLenS c.K) (tCons t tNil)) (mlenp a) := by
  intro G0 H0 G H σ l pot r Q post
  show t σ H (fun x H1 => rLenS c.K [x] H1 Q)
  refine Sn.go ha r post fun x dx p G1 H1 s1 r1 hx post1 => ?_
  cases dx with
  | pot =>
    cases hx
    refine ⟨c.P, _, rfl, .inl (.inl (.inl r1.pot)), ?_⟩
    rw [List.length_map]
    exact post1 _ _ _ (Stp.refl r1.stp.gh) r1 (.int _)
  | _ => exact post1.elim

/-! ### what is walked -/
structure Walks (c : Cfg) (J : It) (ds : List D) (G : Hp) : Prop where
  stop : ∀ i H, Ex G H → i = ds.length → J.stop i H
  go : ∀ i H, Ex G H → i < ds.length → J.go i H
  yld : ∀ i H x H', Ex G H → i < ds.length → H c.P ≠ none → J.yld i H x H' → ∀ G2, Ex G G2 → Ex G2 H → ∃ d G3, ds[i]? = some d ∧ Stp c.P G2 H G3 H' ∧ H' c.P = H c.P ∧ At c.P G3 x d
theorem walks_list {G : Hp} {a : Addr} {vs : List V} {ds : List D} (h : G a = some (.lst vs)) (al : AtL c.P G vs ds) : Walks c (Itl c.K a) ds G := by
  refine ⟨fun i H e z => ⟨vs, .inl (.inl (e _ _ h)), ?_⟩, fun i H e z => ?_, fun i H x H' e z hP y G2 e2 e3 => ?_⟩
  · rw [AtL.length al]; exact Nat.le_of_eq z.symm
  · have z' : i < vs.length := by rw [AtL.length al]; exact z
    exact ⟨vs, vs[i], .inl (.inl (e _ _ h)), List.getElem?_eq_getElem z'⟩
  · obtain ⟨rfl, y⟩ := y
    obtain ⟨d, ed, ad⟩ := AtL.getV al (y vs (.inl (.inl (e _ _ h))))
    exact ⟨d, G2, ed, Stp.refl e3, rfl, At.mono e2 ad⟩
theorem walks_tup {G : Hp} {a : Addr} {vs : List V} {ds : List D} (h : G a = some (.tup vs)) (al : AtL c.P G vs ds) : Walks c (Itt c.K a) ds G := by
  refine ⟨fun i H e z => ⟨vs, .inl (.inl (e _ _ h)), ?_⟩, fun i H e z => ?_, fun i H x H' e z hP y G2 e2 e3 => ?_⟩
  · rw [AtL.length al]; exact Nat.le_of_eq z.symm
  · have z' : i < vs.length := by rw [AtL.length al]; exact z
    exact ⟨vs, vs[i], .inl (.inl (e _ _ h)), List.getElem?_eq_getElem z'⟩
  · obtain ⟨rfl, y⟩ := y
    obtain ⟨d, ed, ad⟩ := AtL.getV al (y vs (.inl (.inl (e _ _ h))))
    exact ⟨d, G2, ed, Stp.refl e3, rfl, At.mono e2 ad⟩
def rngD (lo : Int) (n : Nat) : List D := (List.range n).map fun (i : Nat) => D.int (lo + (i : Int))
theorem walks_rng {G : Hp} {lo : Int} {n : Nat} : Walks c (Itr lo n) (rngD lo n) G := by
  have hl : (rngD lo n).length = n := by simp [rngD]
  refine ⟨fun i H e z => by rw [hl] at z; exact Nat.le_of_eq z.symm, fun i H e z => by rw [hl] at z; exact z, fun i H x H' e z hP y G2 e2 e3 => ?_⟩
  obtain ⟨rfl, rfl⟩ := y
  rw [hl] at z
  exact ⟨.int (lo + (i : Int)), G2, by simp [rngD, z], Stp.refl e3, rfl, .int _⟩
def enumD : Nat → List D → List D
  | _, [] => []
  | i, d :: ds => .tup [.int (i : Int), d] :: enumD (i + 1) ds
theorem enumD_get : ∀ (ds : List D) (k i : Nat) (d : D), ds[i]? = some d → (enumD k ds)[i]? = some (.tup [.int ((k + i : Nat) : Int), d])
  | [], _, _, _, e => by simp at e
  | d :: ds, k, 0, _, e => by simp at e; subst e; simp [enumD]
  | _ :: ds, k, i + 1, d, e => by
    have h := enumD_get ds (k + 1) i d (by simpa using e)
    have e2 : k + 1 + i = k + (i + 1) := by omega
    rw [e2] at h
    simpa [enumD] using h
theorem enumD_len : ∀ (ds : List D) (k : Nat), (enumD k ds).length = ds.length
  | [], _ => rfl
  | d :: ds, k => by simp [enumD, enumD_len ds]
theorem walks_enum {G : Hp} {a : Addr} {vs : List V} {ds : List D} (h : G a = some (.lst vs)) (al : AtL c.P G vs ds) : Walks c (Ite c.K a) (enumD 0 ds) G := by
  refine ⟨fun i H e z => ⟨vs, .inl (.inl (e _ _ h)), ?_⟩, fun i H e z => ?_, fun i H x H' e z hP y G2 e2 e3 => ?_⟩
  · rw [AtL.length al]; rw [enumD_len] at z; exact Nat.le_of_eq z.symm
  · have z' : i < vs.length := by rw [AtL.length al]; rw [enumD_len] at z; exact z
    exact ⟨vs, vs[i], .inl (.inl (e _ _ h)), List.getElem?_eq_getElem z'⟩
  · obtain ⟨T, v, rfl, hT, rfl, y⟩ := y
    obtain ⟨d, ed, ad⟩ := AtL.getV al (y vs (.inl (.inl (e _ _ h))))
    have g := enumD_get ds 0 i d ed
    rw [Nat.zero_add] at g
    exact ⟨_, _, g, Stp.lay e3 hT, upd_ne (fun z => hP (by rw [z]; exact hT)), at_new_t e3 hT (.cons (.int _) (.cons (At.mono e2 ad) .nil))⟩
/-- an iterable's reading -/
def SI (c : Cfg) (E : St → XK) (wi : TI) (a : M (List D)) : Prop := Sn c E (fun G J ds => Walks c J ds G) wi a
theorem si_list {t : TE} {a : M D} (ha : SE c E t a) : SI c E (iList c.K t) (mbind a fun x => mlift (lstOf x)) := by
  intro G0 H0 G H σ l pot r Q post
  refine Sn.go ha r post fun x dx p G1 H1 s1 r1 hx post1 => ?_
  cases dx with
  | lst ds =>
    obtain ⟨q, vs, rfl, h, al⟩ := at_lst hx
    exact ⟨q, rfl, ⟨vs, .inl (.inl (r1.stp.gh _ _ h))⟩, Post.ok post1 r1 (walks_list h al)⟩
  | _ => exact post1.elim
def tupOf : D → Option (List D)
  | .tup ds => some ds
  | _ => none
theorem si_tup {t : TE} {a : M D} (ha : SE c E t a) : SI c E (iTup c.K t) (mbind a fun x => mlift (tupOf x)) := by
  intro G0 H0 G H σ l pot r Q post
  refine Sn.go ha r post fun x dx p G1 H1 s1 r1 hx post1 => ?_
  cases dx with
  | tup ds =>
    obtain ⟨q, vs, rfl, h, al⟩ := at_tup hx
    exact ⟨q, rfl, ⟨vs, .inl (.inl (r1.stp.gh _ _ h))⟩, Post.ok post1 r1 (walks_tup h al)⟩
  | _ => exact post1.elim
theorem post_lift0 {α β : Type} {rel : Hp → α → β → Prop} {G0 H0 G H : Hp} {σ : St} {l : Loc} {pot : List Int} {o : Option β} {Q : α → Hp → Prop} (post : Post c E rel G0 H0 G H σ l (mlift o l pot) Q) :
    ∃ g, o = some g ∧ Post c E rel G0 H0 G H σ l (.ok g pot) Q := by
  cases o with
  | none => exact post.elim
  | some g => exact ⟨g, rfl, post⟩
def rng1 : List D → Option (List D)
  | [.int j] => if j.natAbs < 4611686018427387904 then some (rngD 0 j.toNat) else none
  | _ => none
theorem si_rng1 {t : TA} {a : M (List D)} (ha : SA c E t a) : SI c E (iRng1 t) (mbind a fun x => mlift (rng1 x)) := by
  intro G0 H0 G H σ l pot r Q post
  refine Sn.go ha r post fun x dx p G1 H1 s1 r1 hx post1 => ?_
  obtain ⟨ds, e, post2⟩ := post_lift0 post1
  unfold rng1 at e
  split at e
  · split at e
    · rename_i z
      cases e
      obtain ⟨y, rfl, hy⟩ := atl1 hx
      rw [at_int hy]
      exact ⟨_, rfl, by omega, by omega, Post.ok post2 r1 walks_rng⟩
    · cases e
  · cases e
def rng2 : List D → Option (List D)
  | [.int i, .int j] => if i.natAbs < 4611686018427387904 ∧ j.natAbs < 4611686018427387904 then some (rngD i (j - i).toNat) else none
  | _ => none
theorem si_rng2 {t : TA} {a : M (List D)} (ha : SA c E t a) : SI c E (iRng2 t) (mbind a fun x => mlift (rng2 x)) := by
  intro G0 H0 G H σ l pot r Q post
  refine Sn.go ha r post fun x dx p G1 H1 s1 r1 hx post1 => ?_
  obtain ⟨ds, e, post2⟩ := post_lift0 post1
  unfold rng2 at e
  split at e
  · split at e
    · rename_i z
      cases e
      obtain ⟨y, y2, rfl, hy, hy2⟩ := atl2 hx
      rw [at_int hy, at_int hy2]
      exact ⟨_, _, rfl, by omega, Post.ok post2 r1 walks_rng⟩
    · cases e
  · cases e
def enum1 : List D → Option (List D)
  | [.lst ds] => some (enumD 0 ds)
  | _ => none
theorem si_enum {t : TA} {a : M (List D)} (ha : SA c E t a) : SI c E (iEnum c.K t) (mbind a fun x => mlift (enum1 x)) := by
  intro G0 H0 G H σ l pot r Q post
  refine Sn.go ha r post fun x dx p G1 H1 s1 r1 hx post1 => ?_
  obtain ⟨ds, e, post2⟩ := post_lift0 post1
  unfold enum1 at e
  split at e
  · cases e
    obtain ⟨y, rfl, hy⟩ := atl1 hx
    obtain ⟨q, vs, rfl, h, al⟩ := at_lst hy
    exact ⟨q, vs, rfl, .inl (.inl (r1.stp.gh _ _ h)), Post.ok post2 r1 (walks_enum h al)⟩
  · cases e
/-- for x in ..: body -/
def loop (tg : D → Loc → Option Loc) (body : MS) : List D → MS
  | [] => sskip
  | d :: ds => fun l p => match tg d l with
    | none => .bad
    | some l1 => match body l1 p with
      | .nx l' p' => loop tg body ds l' p'
      | .ct l' p' => loop tg body ds l' p'
      | .bk l' p' => .nx l' p'
      | o => o
def sfor (a : M (List D)) (tg : D → Loc → Option Loc) (body : MS) : MS := sbind a fun ds => loop tg body ds
theorem ss_for {wi : TI} {g : TG} {tb : TS} {a : M (List D)} {tg : D → Loc → Option Loc} {body : MS} (ha : SI c E wi a) (hg : SG c g tg) (hb : SS c E tb body) : SS c E (tFor wi g tb) (sfor a tg body) := by
  intro G0 H0 G H σ l pot r De post
  refine Sn.goS ha r post fun J ds p G1 H1 s1 r1 w post1 => ?_
  refine ⟨fun i m σ H => m = ds.length - i ∧ i ≤ ds.length ∧ ∃ G l p, Ex G1 G ∧ Rel c G0 H0 G H σ l p ∧ PostS c E G0 H0 G De (loop tg body (ds.drop i) l p), ⟨_, rfl, Nat.zero_le _, G1, l, p, Ex.refl _, r1, post1⟩, ?_⟩
  rintro i m σ H ⟨rfl, hi, G, l, p, eg, r, post⟩
  by_cases hlt : i < ds.length
  · refine .inr ⟨w.go i H (eg.trans r.stp.gh) hlt, fun σ' H' => ∃ G l p, Ex G1 G ∧ Rel c G0 H0 G H' σ' l p ∧ PostS c E G0 H0 G De (loop tg body (ds.drop (i + 1)) l p), fun σ' H' ⟨G, l, p, a, b, q⟩ => ⟨_, by omega, rfl, hlt, G, l, p, a, b, q⟩, fun x H' y => ?_⟩
    obtain ⟨d, G3, ed, s3, hP, ad⟩ := w.yld i H x H' (eg.trans r.stp.gh) hlt r.hp y G eg r.stp.gh
    have r3 := r.step s3 (hP.trans r.pot)
    have edr : ds.drop i = d :: ds.drop (i + 1) := by
      obtain ⟨h1, h2⟩ := List.getElem?_eq_some_iff.mp ed
      rw [List.drop_eq_getElem_cons h1, h2]
    rw [edr] at post
    unfold loop at post
    cases e1 : tg d l with
    | none => simp only [e1] at post; exact post.elim
    | some l1 =>
      simp only [e1] at post
      refine hg G0 H0 G3 H' σ l l1 p x d r3 ad e1 _ fun σ' r4 => ?_
      refine hb _ _ _ _ _ _ _ r4 _ ?_
      have post := PostS.mono post s3.gg
      cases e2 : body l1 p with
      | nx l' p' =>
        simp only [e2] at post
        exact fun G' H' σ' e' r' => ⟨G', l', p', (eg.trans s3.gg).trans e', r', PostS.mono post e'⟩
      | ct l' p' =>
        simp only [e2] at post
        exact fun G' H' σ' e' r' => ⟨G', l', p', (eg.trans s3.gg).trans e', r', PostS.mono post e'⟩
      | bk l' p' => simp only [e2] at post; exact post
      | rt d p' => simp only [e2] at post; exact post
      | err n l' p' => simp only [e2] at post; exact post
      | bad => simp only [e2] at post; exact post
  · have e : i = ds.length := by omega
    refine .inl ⟨w.stop i H (eg.trans r.stp.gh) e, ?_⟩
    rw [e, List.drop_length] at post
    exact PostS.of post r
end
end Den

namespace Den
open PySem L2
/-! ### calls -/
section
variable {X : Cx} {CX : CXT} {k : Nat} {f : Addr} {sp : Sp} {E : St → XK} {x : Str} {p pos sp_ : Pos} {e : Expr} {es : List Expr} {t : TA} {te : TE}
theorem run_fnRS {pins : List (Addr × Obj)} {σ : St} {H : Hp} {s : Shared} {Q : VK} {us : List Value} {vs : List V} (F : FnR X.prog X.w X.K X.mg X.base CX k f sp) (hr : Room k X.A) (hx : PassesAt CX X σ (E σ))
    (I : Inv X pins σ H s) (r : Vals vs us) (h : sp vs H Q (E σ)) : wpAny (model X.prog X.w) X.A (call (.ref f) us) (EP X pins σ Q) X.xe s := by
  refine wpAny_call (codeAny_mono (F X.A X.stack s H us vs Q (E σ) hr I.env0 r h) fun r s' hq => ?_)
  cases r with
  | error e => exact hx pins H s e s' I hq
  | ok fl =>
    cases fl with
    | ret u => exact I.after hq
    | next => exact False.elim hq
    | brk => exact False.elim hq
    | cont => exact False.elim hq
theorem pe_callRS (F : FnR X.prog X.w X.K X.mg X.base CX k f sp) (hr : Room k X.A) (hg : Gl X x) (hm : X.mg x = some (.ref f)) (hk : PySem.W.keepIn X.K (.ref f) = true) (hx : ∀ σ, PassesAt CX X σ (E σ))
    (ha : PA X (e :: es) t) (hdb : (x == ("__debug__" : Str)) = false := by decide) (he : starEach (e :: es) X.env = (false, eval e X.env) :: starEach es X.env := by rfl) (hpl : (backTo pos (starEach es X.env)).any (·.1) = false := by rfl) :
    PE X (.Call (.Name x p) (e :: es) [] pos) (tCallS sp E t) := by
  refine ⟨fun pins s σ H Q I h => ?_⟩
  refine wpAny_Call_Name_kw (ld_glob I hg hm ?_ hdb)
  refine PySem.W.callWith_K (h₀ := X.base) I.ok.mod.kin hk (thn (ha.run pos pins s σ H _ I h) fun us s1 ⟨vs, H1, I1, r, q⟩ => ⟨I1.kIn, ?_⟩) he hpl
  exact run_fnRS F hr (hx σ) I1 r q
/-- x(*y) -/
def tCallStar (K : PySem.W.Frag) (sp : Sp) (E : St → XK) (te : TE) : TE := fun σ H Q => te σ H fun y H1 => ∃ a xs, y = V.ref a ∧ (SqT K H1 a xs ∨ SqL K H1 a xs) ∧ sp xs H1 Q (E σ)
theorem pe_callStar (F : FnR X.prog X.w X.K X.mg X.base CX k f sp) (hr : Room k X.A) (hk : PySem.W.keepIn X.K (.ref f) = true) (hg : Gl X x) (hm : X.mg x = some (.ref f)) (hx : ∀ σ, PassesAt CX X σ (E σ)) (he : PE X e te) (hd : (x == ("__debug__" : Str)) = false := by decide)
    (hst : starEach [.Starred e sp_] X.env = [(true, eval e X.env)] := by rfl) : PE X (.Call (.Name x p) [.Starred e sp_] [] pos) (tCallStar X.K sp E te) := by
  refine ⟨fun pins s σ H Q I h => ?_⟩
  refine wpAny_Call_Name_kw (ld_glob I hg hm ?_ hd)
  refine PySem.W.callWith_S (h₀ := X.base) I.ok.mod.kin hk (thn (he.run pins s σ H _ I h) fun v s1 ⟨y, H1, I1, ry, a, xs, ey, hxs, q⟩ => ?_) hst
  subst ey
  obtain rfl : v = Value.ref a := ry
  exact StX.star_any I1 hxs fun us s2 I2 rv => ⟨I2.kIn, run_fnRS F hr (hx σ) I2 rv q⟩
theorem passE {W : XK} (tk : Takes X (fun cls d _ H => W cls d H)) : ∀ σ, PassesAt (L2.CX X.prog X.w) X σ ((fun _ => W : St → XK) σ) := fun σ => passAt tk σ
theorem passNo : ∀ σ, PassesAt (L2.CX X.prog X.w) X σ ((fun _ => E0 : St → XK) σ) := fun σ pins H s e s' I h => passL pins σ H s e s' I h
end
section
variable {c : Cfg} {E : St → XK}
def mstar (f : RF) (a : M D) : M D := mbind a fun x => mbind (mlift (seqOf x)) fun ds _ p => f ds p
theorem se_star {f : RF} {t : TE} {a : M D} (ha : SE c E t a) : SE c E (tCallStar c.K (spD c f) E t) (mstar f a) := by
  intro G0 H0 G H σ l pot r Q post
  refine Sn.go ha r post fun x dx p G1 H1 s1 r1 hx post1 => ?_
  obtain ⟨ds, e, post2⟩ := post_lift post1
  obtain ⟨q, vs, rfl, h, al⟩ := seq_at hx e
  exact ⟨q, vs, rfl, (sqLT r1.stp.gh h).symm, spD_of r1 al post2⟩

/-! ### comprehensions -/
theorem Stp.poke {P : Addr} {G1 H1 G H : Hp} {q : Addr} {o : HO} (s : Stp P G1 H1 G H) (h1 : H1 q = none) (hG : G q = none) : Stp P G1 H1 G (upd H q o) := by
  refine ⟨s.gg, fun b u e => ?_, fun b u e n => ?_, fun b e => ?_, s.new⟩
  · rw [upd_ne (fun z => by subst z; rw [hG] at e; cases e)]; exact s.gh b u e
  · rw [upd_ne (ne_of_none e h1)]; exact s.keep b u e n
  · by_cases z : b = q
    · subst z; exact h1
    · rw [upd_ne z] at e; exact s.there b e
theorem mbind_ok {α β : Type} {a : M α} {k : α → M β} {l : Loc} {p q : List Int} {x : α} (e : a l p = .ok x q) : mbind a k l p = k x l q := by
  unfold mbind
  rw [e]
  rfl
theorem mbind_err {α β : Type} {a : M α} {k : α → M β} {l : Loc} {p q : List Int} {n : Nat} (e : a l p = .err n q) : mbind a k l p = .err n q := by
  unfold mbind
  rw [e]
  rfl
theorem mbind_bad {α β : Type} {a : M α} {k : α → M β} {l : Loc} {p : List Int} (e : a l p = .bad) : mbind a k l p = .bad := by
  unfold mbind
  rw [e]
  rfl
def turn (t : M Bool) (e : M D) : M (Option D) := mbind t fun b => if b = true then mbind e fun x => mret (some x) else mret none
def comp (i : Nat) (t : M Bool) (e : M D) : List D → M (List D)
  | [] => mret []
  | d :: ds => fun l p => if i < l.length then (match turn t e (l.set i (some (.dat d))) p with
    | .ok o p' => (match comp i t e ds l p' with
      | .ok r p'' => .ok (o.toList ++ r) p''
      | x => x)
    | _ => .bad) else .bad
def mcomp (a : M (List D)) (i : Nat) (t : M Bool) (e : M D) : M (List D) := mbind a fun ds => if ds.length ≤ 1000 then comp i t e ds else fun _ _ => .bad
def pre (acc : List D) : R (List D) → R (List D)
  | .ok r p => .ok (acc ++ r) p
  | .err n p => .err n p
  | .bad => .bad
theorem pre_nil (r : R (List D)) : pre [] r = r := by cases r <;> rfl
def mtrue : M Bool := mret true
theorem st_true : ST c E tYes mtrue := fun G0 H0 G H σ l pot r Q post => Post.ok post r rfl
theorem sen_comp {wi : TI} {i : Nat} {tt : TT} {te : TE} {a : M (List D)} {t : M Bool} {e : M D} (ha : SI c E wi a) (ht : ST c (fun _ => E0) tt t) (he : SE c (fun _ => E0) te e) : SEN c E (tLc wi (gName i) tt te [i]) (mcomp a i t e) := by
  intro G0 H0 G H σ l pot r Q post
  refine Sn.goN ha r post fun J ds p G1 H1 s1 r1 w post1 => ?_
  split at post1
  · rename_i hlen
    intro Dl hD
    have hPD : c.P ≠ Dl := fun z => r1.hp (by rw [z]; exact hD)
    have hG1 : G1 Dl = none := by
      cases eg : G1 Dl with
      | none => rfl
      | some u => have := r1.stp.gh Dl u eg; rw [hD] at this; cases this
    refine ⟨fun j m H => m = ds.length - j ∧ j ≤ ds.length ∧ ∃ G p acc aD, Stp c.P G1 H1 G H ∧ H c.P = some (.lst (p.map V.int)) ∧ H Dl = some (.lst acc) ∧ AtL c.P G acc aD ∧ G Dl = none ∧ aD.length ≤ j ∧ PostN c E G0 H0 G1 H1 σ l (pre aD (comp i t e (ds.drop j) l p)) Q,
      ⟨_, rfl, Nat.zero_le _, G1, p, [], [], Stp.lay0 r1.stp.gh hD, (upd_ne hPD).trans r1.pot, upd_same, .nil, hG1, Nat.le_refl _, by rw [pre_nil]; exact post1⟩, ?_⟩
    rintro j m H ⟨rfl, hj, G, p, acc, aD, sG, hp, hDl, al, hG, hl, post⟩
    by_cases hlt : j < ds.length
    · refine .inr ⟨w.go j H (sG.gg.trans sG.gh) hlt, fun H => ∃ G p acc aD, Stp c.P G1 H1 G H ∧ H c.P = some (.lst (p.map V.int)) ∧ H Dl = some (.lst acc) ∧ AtL c.P G acc aD ∧ G Dl = none ∧ aD.length ≤ j + 1 ∧ PostN c E G0 H0 G1 H1 σ l (pre aD (comp i t e (ds.drop (j + 1)) l p)) Q,
        fun H' ⟨G, p, acc, aD, h⟩ => ⟨_, by omega, rfl, hlt, G, p, acc, aD, h⟩, fun x H' y => ?_⟩
      obtain ⟨d, G3, ed, s3, hP3, ad⟩ := w.yld j H x H' (sG.gg.trans sG.gh) hlt (by rw [hp]; exact fun z => nomatch z) y G sG.gg sG.gh
      have edr : ds.drop j = d :: ds.drop (j + 1) := by
        obtain ⟨h1, h2⟩ := List.getElem?_eq_some_iff.mp ed
        rw [List.drop_eq_getElem_cons h1, h2]
      rw [edr] at post
      unfold comp at post
      by_cases hi : i < l.length
      · rw [if_pos hi] at post
        have s13 := sG.trans s3
        have r3 : Rel c G0 H0 G3 H' σ l p := r1.step s13 (hP3.trans hp)
        have hDl3 : H' Dl = some (.lst acc) := s3.keep Dl _ hDl (Ne.symm hPD)
        have noD : ∀ {Ga Ha Gb Hb : Hp}, Stp c.P Ga Ha Gb Hb → Ga Dl = none → Ha Dl ≠ none → Gb Dl = none := fun {Ga Ha Gb Hb} s h1 h2 => by
          cases eg : Gb Dl with
          | none => rfl
          | some u =>
            rcases s.new Dl u eg with z | z
            · rw [h1] at z; cases z
            · exact absurd z h2
        have hG3 := noD s3 hG (by rw [hDl]; exact fun z => nomatch z)
        have r4 : Rel c G0 H0 G3 H' (σ.set i (some x)) (l.set i (some (.dat d))) p := r3.set ad hi
        show (gName i) x (wipe σ [i]) H' _
        have ew : (wipe σ [i]).set i (some x) = σ.set i (some x) := by
          show (σ.set i none).set i (some x) = σ.set i (some x)
          rw [List.set_set]
        show wipe ((wipe σ [i]).set i (some x)) [i] = wipe σ [i] ∧ tt ((wipe σ [i]).set i (some x)) H' _
        rw [ew]
        refine ⟨by show (σ.set i (some x)).set i none = σ.set i none; rw [List.set_set], ?_⟩
        refine ht _ _ _ _ _ _ _ r4 _ ?_
        unfold turn at post
        cases e1 : t (l.set i (some (.dat d))) p with
        | err n p1 => rw [mbind_err e1] at post; exact post.elim
        | bad => rw [mbind_bad e1] at post; exact post.elim
        | ok b p1 =>
          rw [mbind_ok e1] at post
          intro b' G5 H5 s5 r5 eb
          subst eb
          have s15 := s13.trans s5
          have hDl5 : H5 Dl = some (.lst acc) := s5.keep Dl _ hDl3 (Ne.symm hPD)
          have hG5 := noD s5 hG3 (by rw [hDl3]; exact fun z => nomatch z)
          cases b' with
          | false =>
            rw [if_neg Bool.false_ne_true]
            rw [if_neg Bool.false_ne_true] at post
            refine ⟨G5, p1, acc, aD, s15, r5.pot, hDl5, AtL.mono (s3.gg.trans s5.gg) al, hG5, Nat.le_succ_of_le hl, ?_⟩
            dsimp only [mret] at post
            cases e2 : comp i t e (ds.drop (j + 1)) l p1 with
            | ok r' p2 => rw [e2] at post; exact post
            | err n p2 => rw [e2] at post; exact post
            | bad => rw [e2] at post; exact post
          | true =>
            rw [if_pos rfl]
            rw [if_pos rfl] at post
            refine he _ _ _ _ _ _ _ r5 _ ?_
            cases e2 : e (l.set i (some (.dat d))) p1 with
            | err n p2 => rw [mbind_err e2] at post; exact post.elim
            | bad => rw [mbind_bad e2] at post; exact post.elim
            | ok y p2 =>
              rw [mbind_ok e2] at post
              dsimp only [mret] at post
              intro v G6 H6 s6 r6 av
              have s16 := s15.trans s6
              have hDl6 : H6 Dl = some (.lst acc) := s6.keep Dl _ hDl5 (Ne.symm hPD)
              have hG6 := noD s6 hG5 (by rw [hDl5]; exact fun z => nomatch z)
              have al6 : AtL c.P G6 acc aD := AtL.mono ((s3.gg.trans s5.gg).trans s6.gg) al
              refine ⟨acc, hDl6, ?_, G6, p2, acc ++ [v], aD ++ [y], s16.poke hD hG6, (upd_ne hPD).trans r6.pot, upd_same, AtL.append al6 (.cons av .nil), hG6, by rw [List.length_append]; exact Nat.succ_le_succ hl, ?_⟩
              · rw [AtL.length al6]
                have z : aD.length ≤ 1000 := by omega
                exact Nat.lt_of_le_of_lt z (by decide)
              · cases e3 : comp i t e (ds.drop (j + 1)) l p2 with
                | ok r' p3 =>
                  rw [e3] at post
                  have ea : aD ++ ([y] ++ r') = aD ++ [y] ++ r' := by rw [List.append_assoc]
                  show PostN c E G0 H0 G1 H1 σ l (.ok (aD ++ [y] ++ r') p3) Q
                  rw [← ea]
                  exact post
                | err n p3 => rw [e3] at post; exact post
                | bad => rw [e3] at post; exact post
      · rw [if_neg hi] at post
        exact post.elim
    · have ej : j = ds.length := by omega
      refine .inl ⟨w.stop j H (sG.gg.trans sG.gh) ej, ?_⟩
      rw [ej, List.drop_length] at post
      have post' : PostN c E G0 H0 G1 H1 σ l (.ok (aD ++ []) p) Q := post
      rw [List.append_nil] at post'
      exact post' Dl acc G H sG (r1.step sG hp) hDl al hG hD
  · exact post1.elim
/-! ### raise, try -/
def sraise (n : Nat) : MS := fun l p => .err n l p
theorem ss_raise {n : Nat} : SS c E (fun _ σ H => E σ (.ref (c.ec n)) none H) (sraise n) := fun G0 H0 G H σ l pot r De post => post G H σ (Ex.refl G) r
def noE : O → O
  | .err _ _ _ => .bad
  | o => o
def handle (n : Nat) : List (Nat × MS) → MS
  | [] => fun l p => .err n l p
  | (m, s) :: hs => if n = m then fun l p => noE (s l p) else handle n hs
def stry (body : MS) (hs : List (Nat × MS)) : MS := fun l p => match body l p with
  | .err n l' p' => if n < 4 then handle n hs l' p' else .bad
  | o => o
inductive Suites (c : Cfg) : List (Value × (Addr → Value → Option Addr → TS)) → List (Nat × MS) → Prop
  | nil : Suites c [] []
  | cons {m : Nat} {ts : Addr → Value → Option Addr → TS} {s : MS} {l : List (Value × (Addr → Value → Option Addr → TS))} {hs : List (Nat × MS)} (hm : m < 4) (h : ∀ a cls d, SS c (fun _ => E0) (ts a cls d) s) (t : Suites c l hs) : Suites c ((.ref (c.ec m), ts) :: l) ((m, s) :: hs)
/-- the classes that are caught and thrown stand beside one another -/
def Apart (c : Cfg) : Prop := ∀ n m : Nat, n < 4 → m < 4 → PySem.W.exmOne c.K (.ref (c.ec n)) (.ref (c.ec m)) = some (decide (n = m))
theorem PostS.noE {E' : St → XK} {G0 H0 G : Hp} {De : Ends} {o : O} (post : PostS c E G0 H0 G De (noE o)) : PostS c E' G0 H0 G De o := by
  cases o with
  | err n l p => exact post.elim
  | _ => exact post
theorem ss_many {K : PySem.W.Frag} {De : Ends} {ls : List (Value × (Addr → Value → Option Addr → TS))} {hs : List (Nat × MS)} (hK : c.K = K) (ap : Apart c) (su : Suites c ls hs) {n : Nat} {G0 H0 G' H' : Hp} {σ' : St} {l' : Loc} {p' : List Int} (r : Rel c G0 H0 G' H' σ' l' p') (hn : n < 4)
    (post : PostS c E G0 H0 G' De (handle n hs l' p')) : wMany K (fun cls d σ H => E σ cls d H) De ls (.ref (c.ec n)) none σ' H' := by
  induction su with
  | nil => exact post G' H' σ' (Ex.refl _) r
  | @cons m ts s l hs hm h t ih =>
    refine ⟨decide (n = m), by rw [← hK]; exact ap n m hn hm, fun e a _ => ?_, fun e => ?_⟩
    · have e' := of_decide_eq_true e
      unfold handle at post
      rw [if_pos e'] at post
      exact h _ _ _ _ _ _ _ _ _ _ r De (PostS.noE post)
    · have e' := of_decide_eq_false e
      unfold handle at post
      rw [if_neg e'] at post
      exact ih post
theorem ss_try {K : PySem.W.Frag} {tb : WX → TS} {body : MS} {ls : List (Value × (Addr → Value → Option Addr → TS))} {hs : List (Nat × MS)} (hK : c.K = K) (ap : Apart c) (hb : ∀ W : WX, SS c (fun σ cls d H => W cls d σ H) (tb W) body) (su : Suites c ls hs) :
    SS c E (fun D σ H => tb (wMany K (fun cls d σ H => E σ cls d H) D ls) D σ H) (stry body hs) := by
  intro G0 H0 G H σ l pot r De post
  refine hb _ G0 H0 G H σ l pot r De ?_
  unfold stry at post
  cases e : body l pot with
  | err n l' p' =>
    rw [e] at post
    dsimp only at post
    split at post
    · rename_i hn
      exact fun G' H' σ' e' r' => ss_many hK ap su r' hn (PostS.mono post e')
    · exact post.elim
  | nx l' p' => rw [e] at post; exact post
  | rt d p' => rw [e] at post; exact post
  | bk l' p' => rw [e] at post; exact post
  | ct l' p' => rw [e] at post; exact post
  | bad => rw [e] at post; exact post
end

/-! ### defs -/
def locOf (n : Nat) (ds : List D) : Loc := ds.map (fun d => some (.dat d)) ++ List.replicate (n - ds.length) none
/-- what a def of n parameters and m slots does -/
def outR : O → R D
  | .rt d p => .ok d p
  | .nx _ p => .ok .non p
  | .err k _ p => .err k p
  | _ => .bad
def denF (n m : Nat) (s : MS) : RF := fun ds pot => if ds.length = n then outR (s (locOf m ds) pot) else .bad
section
variable {c : Cfg}
theorem start_rel {G H : Hp} {N : List Str} {vs : List V} {ds : List D} {pot : List Int} (a : AtL c.P G vs ds) (gh : Ex G H) (gP : G c.P = none) (hp : H c.P = some (.lst (pot.map V.int))) : Rel c G H G H (start N vs) (locOf N.length ds) pot := by
  have hl := AtL.length a
  refine ⟨Stp.refl gh, hp, gP, by rw [hp]; exact (fun z => nomatch z), by simp [L2.start, locOf, hl], fun i x e => ?_, fun i j x y e1 e2 o1 o2 ne => ?_⟩
  · unfold locOf at e
    by_cases hi : i < ds.length
    · rw [List.getElem?_append_left (by simpa using hi), List.getElem?_map] at e
      have ed := List.getElem?_eq_getElem hi
      rw [ed] at e
      cases e
      obtain ⟨v, ev, av⟩ := AtL.get a ed
      have hs : (start N vs)[i]? = some (some v) := by
        unfold L2.start
        rw [List.getElem?_append_left (by simp [hl, hi]), List.getElem?_map, ev]
        rfl
      rw [hs]
      exact av
    · rw [List.getElem?_append_right (by simpa using hi), List.getElem?_replicate] at e
      split at e <;> cases e
  · exfalso
    unfold locOf at e1
    by_cases hi : i < ds.length
    · rw [List.getElem?_append_left (by simpa using hi), List.getElem?_map, List.getElem?_eq_getElem hi] at e1
      cases e1
      cases o1
    · rw [List.getElem?_append_right (by simpa using hi), List.getElem?_replicate] at e1
      split at e1 <;> cases e1
/-- the ends of a def -/
theorem post_fn {f : RF} {G0 H0 : Hp} {s : MS} {N : List Str} {n : Nat} {ds : List D} {pot : List Int} {Q : VK} {E' : XK} (hn : ds.length = n)
    (h : match denF n N.length s ds pot with
      | .ok d p => ∀ v G' H', Stp c.P G0 H0 G' H' → H' c.P = some (.lst (p.map V.int)) → At c.P G' v d → Q v H'
      | .err m p => ∀ H', Stp c.P G0 H0 G0 H' → H' c.P = some (.lst (p.map V.int)) → E' (.ref (c.ec m)) none H'
      | .bad => False) :
    PostS c (fun _ => E') G0 H0 G0 { nx := fun _ H' => Q .non H', rt := Q } (s (locOf N.length ds) pot) := by
  unfold denF at h
  rw [if_pos hn] at h
  cases e : s (locOf N.length ds) pot with
  | nx l p => rw [e] at h; exact fun G' H' σ' _ r => h .non G' H' r.stp r.pot .non
  | rt d p => rw [e] at h; exact fun v G' H' σ' l' _ r a => h v G' H' r.stp r.pot a
  | err k l p => rw [e] at h; exact fun G' H' σ' _ r => h H' ⟨Ex.refl _, r.stp.gg.trans r.stp.gh, r.stp.keep, r.stp.there, fun _ _ z => .inl z⟩ r.pot
  | bk l p => rw [e] at h; exact h.elim
  | ct l p => rw [e] at h; exact h.elim
  | bad => rw [e] at h; exact h.elim
variable {P : Program} {w : World} {mg : Str → Option Value} {base : Heap}
theorem fn_ss {x qual : Str} {st : Stmt} {f : Addr} {fd : FuncData} {N ps : List Str} {k : Nat} {s : MS} (F : Fun c.K x qual st f fd) (S : FnScope N ps (defScope st)) (hb : Binds c.K fd ps [])
    (hbody : ∀ (cdv : Value) (A : Around) (outer : List Env) (sh : Shared) (H : Hp) (E' : XK), Room k (A.deeper (PyProof.Rows.envOfC qual (defScope st) sh.heap.objs.size f cdv)) →
      ∃ t, PSs (cxOf (L2.CX P w) P w c.K mg base N qual (defScope st) f cdv A outer sh H E') (defBody st) t ∧ SS c (fun _ => E') t s) :
    FnR P w c.K mg base (L2.CX P w) (k + 1) f (spD c (denF ps.length N.length s)) := by
  have lenOf : ∀ vs H Q E, spD c (denF ps.length N.length s) vs H Q E → vs.length = ps.length := fun vs H Q E h => by
    obtain ⟨G, ds, pot, a, gh, gP, hp, h⟩ := h
    rw [AtL.length a]
    by_cases z : ds.length = ps.length
    · exact z
    · unfold denF at h
      rw [if_neg z] at h
      exact h.elim
  have ok : FnOk P w c.K mg base (L2.CX P w) (k + 1) f fd ps (spD c (denF ps.length N.length s)) := by
    refine F.okX S lenOf (fun cdv A outer sh H vs Q E hr h => ?_)
    have hl := lenOf vs H Q E h
    obtain ⟨G, ds, pot, a, gh, gP, hp, h⟩ := h
    obtain ⟨t, ht, hs⟩ := hbody cdv A outer sh H E hr
    refine ⟨t, ht, hs G H G H _ _ _ (start_rel a gh gP hp) _ ?_⟩
    exact post_fn (f := fun _ _ => .bad) ((AtL.length a).symm.trans hl) h
  have raw := ok.raw hb .nil
  exact raw.imp fun vs H Q E h => by rw [List.append_nil]; exact h
/-- def f(*xs) -/
def denStar (m : Nat) (s : MS) : RF := fun ds pot => denF 1 m s [.tup ds] pot
theorem fn_star_ss {x qual pv : Str} {st : Stmt} {f : Addr} {fd : FuncData} {N : List Str} {k : Nat} {s : MS} (F : Fun c.K x qual st f fd) (S : FnScope N [pv] (defScope st))
    (hbd : ∀ (kV doc pm : Value) (an : Option Addr) (cdv ct : Value) (rest : List Value), bindArgs (PySem.W.fnOf x qual (defArgs st) (defBody st) (defScope st) .none kV doc pm an cdv ct) ⟨rest, []⟩ = (newTuple rest >>= fun t => pure [(pv, t)]))
    (hbody : ∀ (cdv : Value) (A : Around) (outer : List Env) (sh : Shared) (H : Hp) (E' : XK), Room k (A.deeper (PyProof.Rows.envOfC qual (defScope st) sh.heap.objs.size f cdv)) →
      ∃ t, PSs (cxOf (L2.CX P w) P w c.K mg base N qual (defScope st) f cdv A outer sh H E') (defBody st) t ∧ SS c (fun _ => E') t s) :
    FnR P w c.K mg base (L2.CX P w) (k + 1) f (spD c (fun ds pot => if ds.length ≤ 1000 then denStar N.length s ds pot else .bad)) := by
  obtain ⟨oc, od, kV, doc, pm, an, cdv, ct, osl, rfl, lk, hcd⟩ := F.ex
  have z := StX.fn_star (CX := L2.CX P w) (P := P) (w := w) (mg := mg) (base := base) (k := k) (ps := []) (sp := spD c (denF 1 N.length s)) lk hcd S StX.cxUp (fun us rest hu => by
    cases us with
    | nil => exact hbd _ _ _ _ _ _ rest
    | cons _ _ => cases hu) (fun A outer sh H vs Q E hr h => by
    obtain ⟨G, ds, pot, a, gh, gP, hp, h⟩ := h
    obtain ⟨t, ht, hs⟩ := hbody cdv A outer sh H E hr
    refine ⟨t, ht, hs G H G H _ _ _ (start_rel a gh gP hp) _ ?_⟩
    have hl : ds.length = 1 := by
      by_cases z : ds.length = 1
      · exact z
      · unfold denF at h
        rw [if_neg z] at h
        exact h.elim
    exact post_fn (f := fun _ _ => .bad) hl h)
  refine z.imp fun vs H Q E h => ?_
  obtain ⟨G, ds, pot, a, gh, gP, hp, h⟩ := h
  by_cases hz : ds.length ≤ 1000
  · dsimp only at h
    rw [if_pos hz] at h
    refine ⟨[], vs, rfl, rfl, by rw [AtL.length a]; exact sz1000 hz, fun p hpn => ?_⟩
    have hPp : c.P ≠ p := fun z => by rw [← z, hp] at hpn; cases hpn
    have s1 : Stp c.P G H (upd G p (.tup vs)) (upd H p (.tup vs)) := Stp.lay gh hpn
    refine ⟨upd G p (.tup vs), [.tup ds], pot, .cons (at_new_t gh hpn a) .nil, s1.gh, (upd_ne hPp).trans gP, (upd_ne hPp).trans hp, ?_⟩
    unfold denStar at h
    cases e : denF 1 N.length s [.tup ds] pot with
    | ok d q => rw [e] at h; exact fun v G' H' s2 hq av => h v G' H' (s1.trans s2) hq av
    | err m q => rw [e] at h; exact fun H' s2 hq => h H' ⟨Ex.refl _, (s1.trans s2).gg.trans s2.gh, (s1.trans s2).keep, (s1.trans s2).there, fun _ _ z => .inl z⟩ hq
    | bad => rw [e] at h; exact h.elim
  · dsimp only at h
    rw [if_neg hz] at h
    exact h.elim
end
end Den

namespace Den
open PySem L2
/-! ### == of data -/
mutual
def pd : D → Option PyData
  | .non => some .none
  | .bl b => some (.bool b)
  | .int i => some (.int i)
  | .lst ds => (pdL ds).map .list
  | .tup ds => (pdL ds).map .tuple
  | .str _ => none
  | .ins _ _ _ => none
  | .pot => none
  | .ty _ => none
  | .cls _ => none
def pdL : List D → Option (List PyData)
  | [] => some []
  | d :: ds => match pd d, pdL ds with
    | some a, some as => some (a :: as)
    | _, _ => none
end
mutual
theorem pd_at {K : PySem.W.Frag} {P : Addr} {G H : Hp} (gh : Ex G H) : ∀ (d : D) (x : V) (q : PyData), At P G x d → pd d = some q → Dp K H x q ∧ q.canLay0 = true
  | .non, _, _, h, e => by cases h; cases e; exact ⟨.non, rfl⟩
  | .bl b, _, _, h, e => by cases h; cases e; exact ⟨.bl b, rfl⟩
  | .int i, _, _, h, e => by cases h; cases e; exact ⟨.int i, rfl⟩
  | .lst ds, _, q, h, e => by
    obtain ⟨p, vs, rfl, hg, al⟩ := at_lst h
    unfold pd at e
    cases e1 : pdL ds with
    | none => rw [e1] at e; cases e
    | some as =>
      rw [e1] at e
      cases e
      obtain ⟨h1, h2⟩ := pdL_at gh ds vs as al e1
      exact ⟨.lst (.inl (.inl (gh _ _ hg))) h1, by simp only [PyData.canLay0]; exact h2⟩
  | .tup ds, _, q, h, e => by
    obtain ⟨p, vs, rfl, hg, al⟩ := at_tup h
    unfold pd at e
    cases e1 : pdL ds with
    | none => rw [e1] at e; cases e
    | some as =>
      rw [e1] at e
      cases e
      obtain ⟨h1, h2⟩ := pdL_at gh ds vs as al e1
      exact ⟨.tup (.inl (.inl (gh _ _ hg))) h1, by simp only [PyData.canLay0]; exact h2⟩
  | .str _, _, _, _, e => by cases e
  | .ins _ _ _, _, _, _, e => by cases e
  | .pot, _, _, _, e => by cases e
  | .ty _, _, _, _, e => by cases e
  | .cls _, _, _, _, e => by cases e
theorem pdL_at {K : PySem.W.Frag} {P : Addr} {G H : Hp} (gh : Ex G H) : ∀ (ds : List D) (vs : List V) (qs : List PyData), AtL P G vs ds → pdL ds = some qs → DpAll K H vs qs ∧ PyData.canLayAll0 qs = true
  | [], _, _, h, e => by cases h; cases e; exact ⟨.nil, rfl⟩
  | d :: ds, _, qs, h, e => by
    cases h with
    | cons h1 h2 =>
      unfold pdL at e
      split at e
      · rename_i a as e1 e2
        cases e
        obtain ⟨a1, a2⟩ := pd_at gh d _ a h1 e1
        obtain ⟨b1, b2⟩ := pdL_at gh ds _ as h2 e2
        exact ⟨.cons a1 b1, by simp only [PyData.canLayAll0, a2, b2]; rfl⟩
      · cases e
end
def fEqD (neg : Bool) (x y : D) : Option D := match pd x, pd y with
  | some a, some b => if a.depth ≤ 64 ∧ b.depth ≤ 64 then some (.bl (if neg then !PyData.eqv a b else PyData.eqv a b)) else none
  | _, _ => none
section
variable {c : Cfg} {E : St → XK}
theorem shp {q : PyData} (h1 : q.canLay0 = true) (h2 : q.depth ≤ 64) : SeqAt.shaped q = true := by
  unfold SeqAt.shaped
  rw [h1, decide_eq_true h2]
  rfl
theorem s2_eqD : S2 c (rEqD c.K) (fEqD false) := ⟨fun G H x y dx dy d gh _ hx hy e => by
  unfold fEqD at e
  split at e
  · rename_i a b e1 e2
    split at e
    · rename_i z
      cases e
      obtain ⟨a1, a2⟩ := pd_at (K := c.K) gh dx x a hx e1
      obtain ⟨b1, b2⟩ := pd_at (K := c.K) gh dy y b hy e2
      exact ops_pure gh (.bl _) fun Q q => ⟨a, b, a1, b1, shp a2 z.1, shp b2 z.2, q⟩
    · cases e
  · cases e⟩
theorem s2_neD : S2 c (rNeD c.K) (fEqD true) := ⟨fun G H x y dx dy d gh _ hx hy e => by
  unfold fEqD at e
  split at e
  · rename_i a b e1 e2
    split at e
    · rename_i z
      cases e
      obtain ⟨a1, a2⟩ := pd_at (K := c.K) gh dx x a hx e1
      obtain ⟨b1, b2⟩ := pd_at (K := c.K) gh dy y b hy e2
      exact ops_pure gh (.bl _) fun Q q => ⟨a, b, a1, b1, shp a2 z.1, shp b2 z.2, q⟩
    · cases e
  · cases e⟩
/-! ### x in a list of one's own -/
def minc (neg : Bool) (a : M D) (i : Nat) : M D := mbind a fun x l p => match l[i]? with
  | some (some (.cell ds)) => match sc x, scL ds with
    | some v, some vs => .ok (.bl (if neg then !inV v vs else inV v vs)) p
    | _, _ => .bad
  | _ => .bad
theorem se_inc {neg : Bool} {t : TE} {a : M D} {i : Nat} (ha : SE c E t a) : SE c E (tOp (rIn c.K neg) t (tVar i)) (minc neg a i) := by
  intro G0 H0 G H σ l pot r Q post
  refine Sn.go ha r post fun x dx p G1 H1 s1 r1 hx post1 => ?_
  split at post1
  · rename_i ds hc
    obtain ⟨q, vs, hσ, h1, h2⟩ := cell_at r1 hc
    split at post1
    · rename_i v ws e1 e2
      obtain ⟨q1, q2⟩ := scL_at h2 e2
      subst q1
      rw [sc_at hx e1]
      exact ⟨.ref q, hσ, q, vs, rfl, .inl (.inl (.inl h1)), sc_flat e1, q2, post1 _ _ _ (Stp.refl r1.stp.gh) r1 (.bl _)⟩
    · exact post1.elim
  · exact post1.elim

/-! ### fields -/
theorem lookup_zip {P : Addr} {G : Hp} {f : Str} : ∀ {ns : List Str} {vs : List V} {ds : List D} {d : D}, AtL P G vs ds → (ns.zip ds).lookup f = some d → ∃ v, (ns.zip vs).lookup f = some v ∧ At P G v d
  | [], _, _, _, _, e => by simp at e
  | _ :: _, _, [], _, .nil, e => by simp at e
  | n :: ns, _, d' :: ds, d, .cons (v := v) (vs := vs) h t, e => by
    rw [List.zip_cons_cons, List.lookup_cons] at e ⊢
    cases q : f == n with
    | true => rw [q] at e; cases e; exact ⟨v, rfl, h⟩
    | false => rw [q] at e; exact lookup_zip t e
def fFld (C : Addr) (f : Str) : D → Option D
  | .ins C' ns ds => if C' = C then (ns.zip ds).lookup f else none
  | _ => none
def mfld (C : Addr) (f : Str) (a : M D) : M D := op1 (fFld C f) a
theorem fld_at {G : Hp} {C : Addr} {f : Str} {x : V} {d dd : D} (hx : At c.P G x d) (e : fFld C f d = some dd) : ∃ p dx fs v, x = .ref p ∧ G p = some (.ins C dx fs) ∧ fs.lookup f = some v ∧ At c.P G v dd := by
  cases d with
  | ins C' ns ds =>
    unfold fFld at e
    dsimp only at e
    split at e
    · rename_i z
      subst z
      cases hx with
      | ins h al =>
        obtain ⟨v, e1, av⟩ := lookup_zip al e
        exact ⟨_, _, _, v, rfl, h, e1, av⟩
    · cases e
  | _ => cases e
theorem se_fld {C : Addr} {f : Str} {t : TE} {a : M D} (hC : Cls c.K C) (hN : NoAttr c.K C f) (ha : SE c E t a) : SE c E (tFld c.K t f) (mfld C f a) := by
  intro G0 H0 G H σ l pot r Q post
  refine Sn.go ha r post fun x dx p G1 H1 s1 r1 hx post1 => ?_
  obtain ⟨dd, e, post2⟩ := post_lift0 post1
  obtain ⟨q, ddx, fs, v, rfl, h, e1, av⟩ := fld_at hx e
  exact ⟨q, C, ddx, fs, v, rfl, r1.stp.gh _ _ h, hC, hN, e1, Post.ok post2 r1 av⟩
/-- a property that hands a field out -/
theorem se_prop {C : Addr} {f : Str} {t : TE} {a : M D} (ha : SE c E t a) : SE c E (tProp C (getSp C f) [] E0 t) (mfld C f a) := by
  intro G0 H0 G H σ l pot r Q post
  refine Sn.go ha r post fun x dx p G1 H1 s1 r1 hx post1 => ?_
  obtain ⟨dd, e, post2⟩ := post_lift0 post1
  obtain ⟨q, ddx, fs, v, rfl, h, e1, av⟩ := fld_at hx e
  exact ⟨q, ddx, fs, rfl, r1.stp.gh _ _ h, q, ddx, fs, v, rfl, r1.stp.gh _ _ h, e1, Post.ok post2 r1 av⟩
/-- self._f in the making: slot i holds the instance -/
def mfldO (C : Addr) (i : Nat) (f : Str) : M D := fun l p => match l[i]? with
  | some (some (.obj _ C' ns ds)) => if C' = C then (match (ns.zip ds).lookup f with
    | some d => .ok d p
    | none => .bad) else .bad
  | _ => .bad
theorem obj_at {G0 H0 G H : Hp} {σ : St} {l : Loc} {pot : List Int} {i : Nat} {ea C : Addr} {ns : List Str} {ds : List D} (r : Rel c G0 H0 G H σ l pot) (hc : l[i]? = some (some (.obj ea C ns ds))) :
    ∃ p vs dx, p = ea ∧  σ[i]? = some (some (.ref p)) ∧ H p = some (.ins C dx (ns.zip vs)) ∧ AtL c.P G vs ds ∧ G p = none ∧ H0 p = none ∧ p ≠ c.P := by
  have q := r.slot i _ hc
  cases ho : σ[i]? with
  | none => rw [ho] at q; exact q.elim
  | some o =>
    cases o with
    | none => rw [ho] at q; exact q.elim
    | some v =>
      cases v with
      | ref p =>
        rw [ho] at q
        obtain ⟨hea, vs, dx, h1, h2, h3, h4, h5⟩ := q
        exact ⟨p, vs, dx, hea, rfl, h1, h2, h3, h4, h5⟩
      | _ => rw [ho] at q; exact q.elim
theorem se_fldO {C : Addr} {i : Nat} {f : Str} (hC : Cls c.K C) (hN : NoAttr c.K C f) : SE c E (tFld c.K (tVar i) f) (mfldO C i f) := by
  intro G0 H0 G H σ l pot r Q post
  unfold mfldO at post
  split at post
  · rename_i ea C' ns ds hc
    split at post
    · rename_i z
      subst z
      obtain ⟨p, vs, dx, _, hσ, h1, h2, _⟩ := obj_at r hc
      split at post
      · rename_i d e
        obtain ⟨v, e1, av⟩ := lookup_zip h2 e
        exact ⟨.ref p, hσ, p, C', dx, _, v, rfl, h1, hC, hN, e1, Post.ok post r av⟩
      · exact post.elim
    · exact post.elim
  · exact post.elim
/-- self._f = e, a new attribute -/
def sfldO (C : Addr) (i : Nat) (f : Str) (a : M D) : MS := sbind a fun x l p => match l[i]? with
  | some (some (.obj ea C' ns ds)) => if C' = C ∧ ns.length = ds.length ∧ ns.length < 1000 ∧ f ∉ ns then .nx (l.set i (some (.obj ea C (ns ++ [f]) (ds ++ [x])))) p else .bad
  | _ => .bad
theorem putF_zip {f : Str} {v : V} : ∀ {ns : List Str} {vs : List V}, ns.length = vs.length → f ∉ ns → putF f v (ns.zip vs) = (ns ++ [f]).zip (vs ++ [v])
  | [], [], _, _ => rfl
  | [], _ :: _, h, _ => by cases h
  | _ :: _, [], h, _ => by cases h
  | n :: ns, w :: vs, h, hf => by
    have hn : n ≠ f := fun z => hf (by rw [z]; exact List.mem_cons_self)
    rw [List.zip_cons_cons, List.cons_append, List.cons_append, List.zip_cons_cons]
    show (if n = f then _ else _) = _
    rw [if_neg hn]
    exact congrArg _ (putF_zip (by simpa using h) fun z => hf (List.mem_cons_of_mem _ z))
theorem Rel.writeO {G0 H0 G H : Hp} {σ : St} {l : Loc} {pot : List Int} {i : Nat} {p ea C dx : Addr} {ns ns' : List Str} {vs : List V} {ds es : List D} (r : Rel c G0 H0 G H σ l pot) (hc : l[i]? = some (some (.obj ea C ns es))) (hσ : σ[i]? = some (some (.ref p))) (a : AtL c.P G vs ds) :
    Rel c G0 H0 G (upd H p (.ins C dx (ns'.zip vs))) σ (l.set i (some (.obj ea C ns' ds))) pot := by
  have q := r.slot i _ hc
  rw [hσ] at q
  obtain ⟨hea, ws, dx0, h1, h2, h3, h4, h5⟩ := q
  have hi : i < l.length := (List.getElem?_eq_some_iff.mp hc).1
  refine ⟨⟨r.stp.gg, fun b o e => ?_, fun b o e n => ?_, fun b e => ?_, r.stp.new⟩, (upd_ne (Ne.symm h5)).trans r.pot, r.gP, r.hP, by rw [List.length_set, r.len], fun j x e => ?_, fun j k x y e1 e2 o1 o2 ne => ?_⟩
  · rw [upd_ne (fun z => by subst z; rw [h3] at e; cases e)]; exact r.stp.gh b o e
  · rw [upd_ne (fun z => by subst z; rw [h4] at e; cases e)]; exact r.stp.keep b o e n
  · by_cases z : b = p
    · subst z; exact h4
    · rw [upd_ne z] at e; exact r.stp.there b e
  · by_cases z : j = i
    · subst z
      rw [List.getElem?_set_self hi] at e
      cases e
      rw [hσ]
      exact ⟨hea, vs, dx, upd_same, a, h3, h4, h5⟩
    · rw [List.getElem?_set_ne (Ne.symm z)] at e
      have a2 := r.slot j x e
      match ho : σ[j]?, x, a2 with
      | some (some v), .dat d, a2 => exact a2
      | some (some (.ref q)), .cell ds', ⟨ws', g1, g2, g3, g4⟩ =>
        have nq : q ≠ p := fun w => r.dist j i _ _ e hc rfl rfl z (by rw [ho, hσ, w])
        exact ⟨ws', (upd_ne nq).trans g1, g2, g3, g4⟩
      | some (some (.ref q)), .obj ea C ns ds', ⟨hea, ws', dx, g1, g2, g3, g4, g5⟩ =>
        have nq : q ≠ p := fun w => r.dist j i _ _ e hc rfl rfl z (by rw [ho, hσ, w])
        exact ⟨hea, ws', dx, (upd_ne nq).trans g1, g2, g3, g4, g5⟩
  · have back : ∀ (m : Nat) (x : L), (l.set i (some (.obj ea C ns' ds)))[m]? = some (some x) → owned x = true → ∃ y, l[m]? = some (some y) ∧ owned y = true := fun m x e o => by
      by_cases z : m = i
      · subst z; exact ⟨_, hc, rfl⟩
      · rw [List.getElem?_set_ne (Ne.symm z)] at e; exact ⟨x, e, o⟩
    obtain ⟨x', e1', o1'⟩ := back j x e1 o1
    obtain ⟨y', e2', o2'⟩ := back k y e2 o2
    exact r.dist j k x' y' e1' e2' o1' o2' ne
theorem ss_fldO {C : Addr} {i : Nat} {f : Str} {t : TE} {a : M D} (hC : Cls c.K C) (hN : NoAttr c.K C f) (ha : SE c E t a) : SS c E (sFld c.K (tVar i) t f) (sfldO C i f a) := by
  intro G0 H0 G H σ l pot r De post
  refine Sn.goS ha r post fun x dx p G1 H1 s1 r1 hx post1 => ?_
  split at post1
  · rename_i ea C' ns ds hc
    split at post1
    · rename_i z
      obtain ⟨rfl, z1, z2, z3⟩ := z
      obtain ⟨q, vs, ddx, _, hσ, h1, h2, _⟩ := obj_at r1 hc
      have hlen : ns.length = vs.length := z1.trans (AtL.length h2).symm
      refine ⟨.ref q, hσ, q, C', ddx, _, rfl, h1, hC, hN, ?_, ?_⟩
      · rw [List.length_zip, ← hlen, Nat.min_self]; exact z2
      · rw [putF_zip hlen z3]
        exact PostS.of post1 (r1.writeO hc hσ (AtL.append h2 (.cons hx .nil)))
    · exact post1.elim
  · exact post1.elim
/-! ### making instances -/
abbrev RI := List D → List Int → R (List Str × List D)
def spI (c : Cfg) (C : Addr) (f : RI) : Sp := fun vs H Q E => ∃ x dx vs' H1 G ds pot, vs = .ref x :: vs' ∧ H = upd (upd H1 dx (.own x)) x (.ins C dx []) ∧ H1 x = none ∧ H1 dx = none ∧ dx ≠ x ∧ AtL c.P G vs' ds ∧ Ex G H1 ∧ G c.P = none ∧ H1 c.P = some (.lst (pot.map V.int)) ∧ (match f ds pot with
  | .ok (ns, es) p => ∀ G' H' dx' ws, Stp c.P G H1 G' H' → H' x = some (.ins C dx' (ns.zip ws)) → AtL c.P G' ws es → G' x = none → H' c.P = some (.lst (p.map V.int)) → Q .non H'
  | .err m p => ∀ H', Stp c.P G H1 G H' → H' c.P = some (.lst (p.map V.int)) → E (.ref (c.ec m)) none H'
  | .bad => False)
def mmake (C : Addr) (f : RI) (a : M (List D)) : M D := mbind a fun ds _ p => match f ds p with
  | .ok (ns, es) q => .ok (.ins C ns es) q
  | .err m q => .err m q
  | .bad => .bad
theorem se_make {C : Addr} {f : RI} {E' : XK} {t : TA} {a : M (List D)} (ha : SA c (fun _ => E') t a) : SE c (fun _ => E') (StX.tMakeR C (spI c C f) E' t) (mmake C f a) := by
  intro G0 H0 G H σ l pot r Q post
  refine Sn.go ha r post fun x dx p G1 H1 s1 r1 hx post1 => ?_
  intro y dy hy hdy ne
  refine ⟨y, dy, x, H1, G1, dx, p, rfl, rfl, hy, hdy, ne, hx, r1.stp.gh, r1.gP, r1.pot, ?_⟩
  cases e : f dx p with
  | bad => rw [e] at post1; exact post1.elim
  | err m q =>
    rw [e] at post1
    exact fun H' s hp => post1 G1 H' (Ex.refl _) (r1.step s hp)
  | ok z q =>
    obtain ⟨ns, es⟩ := z
    rw [e] at post1
    intro G' H' dx' ws s h1 h2 h3 h4
    have rr := r1.step s h4
    have h0 : H0 y = none := r1.stp.there y hy
    have hP : y ≠ c.P := fun z => r.hP (by rw [← z]; exact h0)
    have r2 := Rel.freeze rr h1 h0 hP (fun i x e ho => r1.own_ne hy i x e ho) h3
    refine ⟨rfl, post1 (.ref y) _ H' ⟨s.gg.trans (Ex.new h3), r2.stp.gh, s.keep, s.there, fun b u e => ?_⟩ r2 (.ins upd_same (AtL.mono (Ex.new h3) h2))⟩
    by_cases z : b = y
    · subst z; exact .inr hy
    · rw [upd_ne z] at e; exact s.new b u e
/-- an __init__ of n parameters with self, and m slots; self stands at x -/
def outI (x C : Addr) : O → R (List Str × List D)
  | .nx l p => match l[0]? with
    | some (some (L.obj y C' ns ds)) => if y = x ∧ C' = C then .ok (ns, ds) p else .bad
    | _ => .bad
  | .err k _ p => .err k p
  | _ => .bad
def locI (x C : Addr) (n : Nat) (ds : List D) : Loc := some (.obj x C [] []) :: (ds.map (fun d => some (.dat d)) ++ List.replicate (n - (ds.length + 1)) none)
def denI (x C : Addr) (n m : Nat) (s : MS) : RI := fun ds pot => if ds.length + 1 = n then outI x C (s (locI x C m ds) pot) else .bad
end
section
variable {c : Cfg} {P : Program} {w : World} {mg : Str → Option Value} {base : Heap}
theorem startI_rel {G H1 : Hp} {N : List Str} {vs : List V} {ds : List D} {pot : List Int} {x dx C : Addr} (a : AtL c.P G vs ds) (gh : Ex G H1) (gP : G c.P = none) (hp : H1 c.P = some (.lst (pot.map V.int))) (hx : H1 x = none) (hdx : H1 dx = none) (ne : dx ≠ x) :
    Rel c G H1 G (upd (upd H1 dx (.own x)) x (.ins C dx [])) (L2.start N (.ref x :: vs)) (locI x C N.length ds) pot := by
  have hl := AtL.length a
  have hP1 : c.P ≠ dx := fun z => by rw [← z, hp] at hdx; cases hdx
  have hP2 : c.P ≠ x := fun z => by rw [← z, hp] at hx; cases hx
  have s1 : Stp c.P G H1 G (upd H1 dx (.own x)) := Stp.lay0 gh hdx
  have s2 : Stp c.P G (upd H1 dx (.own x)) G (upd (upd H1 dx (.own x)) x (.ins C dx [])) := Stp.lay0 s1.gh (by rw [upd_ne (Ne.symm ne)]; exact hx)
  have hG : G x = none := by
    cases e : G x with
    | none => rfl
    | some u => have := gh x u e; rw [hx] at this; cases this
  have tl : ∀ (i : Nat) (y : L), (ds.map (fun d => some (L.dat d)) ++ List.replicate (N.length - (ds.length + 1)) none)[i]? = some (some y) → ∃ d v, y = .dat d ∧ (vs.map some ++ List.replicate (N.length - (vs.length + 1)) none)[i]? = some (some v) ∧ At c.P G v d := fun i y e => by
    by_cases hi : i < ds.length
    · rw [List.getElem?_append_left (by simpa using hi), List.getElem?_map] at e
      have ed := List.getElem?_eq_getElem hi
      rw [ed] at e
      cases e
      obtain ⟨v, ev, av⟩ := AtL.get a ed
      refine ⟨_, v, rfl, ?_, av⟩
      rw [List.getElem?_append_left (by simp [hl, hi]), List.getElem?_map, ev]
      rfl
    · rw [List.getElem?_append_right (by simpa using hi), List.getElem?_replicate] at e
      split at e <;> cases e
  have est : L2.start N (.ref x :: vs) = some (.ref x) :: (vs.map some ++ List.replicate (N.length - (vs.length + 1)) none) := by
    unfold L2.start
    rw [List.map_cons, List.cons_append, List.length_cons]
  refine ⟨s1.trans s2, by rw [upd_ne hP2, upd_ne hP1]; exact hp, gP, by rw [hp]; exact (fun z => nomatch z), by rw [est]; simp [locI, hl], fun i y e => ?_, fun i j y z e1 e2 o1 o2 n => ?_⟩
  · rw [est]
    cases i with
    | zero =>
      cases e
      exact ⟨rfl, [], dx, upd_same, .nil, hG, hx, Ne.symm hP2⟩
    | succ i =>
      obtain ⟨d, v, rfl, ev, av⟩ := tl i y (by simpa [locI] using e)
      rw [List.getElem?_cons_succ, ev]
      exact av
  · exfalso
    cases i with
    | zero =>
      cases j with
      | zero => exact n rfl
      | succ j =>
        obtain ⟨d, v, rfl, _⟩ := tl j z (by simpa [locI] using e2)
        cases o2
    | succ i =>
      obtain ⟨d, v, rfl, _⟩ := tl i y (by simpa [locI] using e1)
      cases o1
theorem init_ss {nm qual : Str} {st : Stmt} {f C : Addr} {fd : FuncData} {N ps : List Str} {k : Nat} {s : MS} {g : RI} (F : Fun c.K nm qual st f fd) (S : FnScope N ps (defScope st)) (hb : Binds c.K fd ps [])
    (hg : ∀ x ds pot, ds.length + 1 = ps.length → g ds pot ≠ .bad → denI x C ps.length N.length s ds pot = g ds pot) (hlen : ∀ ds pot, g ds pot ≠ .bad → ds.length + 1 = ps.length)
    (hbody : ∀ (cdv : Value) (A : Around) (outer : List Env) (sh : Shared) (H : Hp) (E' : XK), Room k (A.deeper (PyProof.Rows.envOfC qual (defScope st) sh.heap.objs.size f cdv)) →
      ∃ t, PSs (cxOf (L2.CX P w) P w c.K mg base N qual (defScope st) f cdv A outer sh H E') (defBody st) t ∧ SS c (fun _ => E') t s) :
    FnR P w c.K mg base (L2.CX P w) (k + 1) f (spI c C g) := by
  have nb : ∀ {ds pot} {R' : R (List Str × List D) → Prop}, R' (g ds pot) → (R' .bad → False) → g ds pot ≠ .bad := fun {ds pot R'} h hb z => by rw [z] at h; exact hb h
  have lenOf : ∀ vs H Q E, spI c C g vs H Q E → vs.length = ps.length := fun vs H Q E h => by
    obtain ⟨x, dx, vs', H1, G, ds, pot, rfl, rfl, hx, hdx, ne, a, gh, gP, hp, h⟩ := h
    have hd := hlen ds pot (fun z => by rw [z] at h; exact h)
    rw [List.length_cons, AtL.length a]
    exact hd
  have ok : FnOk P w c.K mg base (L2.CX P w) (k + 1) f fd ps (spI c C g) := by
    refine F.okX S lenOf (fun cdv A outer sh H vs Q E hr h => ?_)
    obtain ⟨x, dx, vs', H1, G, ds, pot, rfl, rfl, hx, hdx, ne, a, gh, gP, hp, h⟩ := h
    have nbad : g ds pot ≠ .bad := fun z => by rw [z] at h; exact h
    have hd := hlen ds pot nbad
    obtain ⟨t, ht, hs⟩ := hbody cdv A outer sh _ E hr
    refine ⟨t, ht, hs G H1 G _ _ _ _ (startI_rel a gh gP hp hx hdx ne) _ ?_⟩
    have e := hg x ds pot hd nbad
    unfold denI at e
    rw [if_pos hd] at e
    rw [← e] at h
    cases e2 : s (locI x C N.length ds) pot with
    | nx l p =>
      rw [e2] at h
      unfold outI at h
      dsimp only at h
      split at h
      · rename_i z
        split at z
        · rename_i y C' ns es hl
          split at z
          · rename_i w
            obtain ⟨rfl, rfl⟩ := w
            cases z
            intro G' H' σ' eg r
            obtain ⟨q, ws, dx', eq, hσ, g1, g2, g3, _, _⟩ := obj_at r hl
            subst eq
            exact h G' H' dx' ws r.stp g1 g2 g3 r.pot
          · cases z
        · cases z
      · rename_i z
        split at z
        · split at z
          · cases z
          · cases z
        · cases z
      · exact h.elim
    | rt d p => rw [e2] at h; exact h.elim
    | err m l p =>
      rw [e2] at h
      exact fun G' H' σ' eg r => h H' ⟨Ex.refl _, r.stp.gg.trans r.stp.gh, r.stp.keep, r.stp.there, fun _ _ z => .inl z⟩ r.pot
    | bk l p => rw [e2] at h; exact h.elim
    | ct l p => rw [e2] at h; exact h.elim
    | bad => rw [e2] at h; exact h.elim
  have raw := ok.raw hb .nil
  exact raw.imp fun vs H Q E h => by rw [List.append_nil]; exact h
end
end Den

namespace Den
open PySem L2
def rListF (K : PySem.W.Frag) : List V → Hp → VK → Prop := fun xs H Q => ∃ p ys, xs = [.ref p] ∧ (SqL K H p ys ∨ SqT K H p ys) ∧ ∀ l, H l = none → Q (.ref l) (upd H l (.lst ys))
def rTupleF (K : PySem.W.Frag) : List V → Hp → VK → Prop := fun xs H Q => ∃ p ys, xs = [.ref p] ∧ ((SqL K H p ys ∧ ∀ l, H l = none → Q (.ref l) (upd H l (.tup ys))) ∨ (SqT K H p ys ∧ Q (.ref p) H))
def rMax2F : List V → Hp → VK → Prop := fun xs H Q => ∃ i j, xs = [.int i, .int j] ∧ Q (.int (if j > i then j else i)) H
def rMin2F : List V → Hp → VK → Prop := fun xs H Q => ∃ i j, xs = [.int i, .int j] ∧ Q (.int (if j < i then j else i)) H
def rAbsF : List V → Hp → VK → Prop := fun xs H Q => ∃ i, xs = [.int i] ∧ Q (.int (if i < 0 then -i else i)) H
def rIntF : List V → Hp → VK → Prop := fun xs H Q => (∃ i, xs = [.int i] ∧ Q (.int i) H) ∨ ∃ k, xs = [.bl k] ∧ Q (.int (if k then 1 else 0)) H
def rStrF : List V → Hp → VK → Prop := fun xs H Q => ∃ i, xs = [.int i] ∧ i.natAbs.log2 < 1920 ∧ Q (.str (toString i : String)) H
def rIsNF : R2 := fun x y H Q => y = .non ∧ Q (.bl (decide (x = .non))) H
def rNotNF : R2 := fun x y H Q => y = .non ∧ Q (.bl (!decide (x = .non))) H
def rBoolT (K : PySem.W.Frag) : List V → Hp → VK → Prop := fun xs H Q => ∃ (a : Addr) (zs : List V), xs = [.ref a] ∧ SqL K H a zs ∧ Q (.bl (!zs.isEmpty)) H
theorem call_boolT {X : Cx} : CallR X (.type "bool") (rBoolT X.K) := call_boolL
section
variable {c : Cfg} {E : St → XK}
def fBool : List D → Option D
  | [.lst ds] => some (.bl (!ds.isEmpty))
  | _ => none
theorem sn_bool : SN c (rBoolT c.K) fBool := ⟨fun G H xs ds d gh _ hx e => by
  unfold fBool at e
  split at e
  · obtain ⟨x, rfl, hx1⟩ := atl1 hx
    obtain ⟨p, vs, rfl, h, a⟩ := at_lst hx1
    cases e
    exact ops_pure gh (.bl _) fun Q q => ⟨p, vs, rfl, .inl (.inl (gh _ _ h)), by rw [isEmpty_at a]; exact q⟩
  · cases e⟩
def sretN : MS := fun _ p => .rt .non p
theorem ss_retN : SS c E tRetN sretN := fun G0 H0 G H σ l pot r De post => post .non G H σ l (Ex.refl G) r .non
end
theorem pe_gint {X : Cx} {x : Str} {i : Int} {pos : Pos} (hg : Gl X x) (h : ∃ t, X.mg x = some (.int i t)) (hd : (x == ("__debug__" : Str)) = false := by decide) : PE X (.Name x pos) (tC (.int i)) := by
  refine ⟨fun pins s σ H Q I hq => ?_⟩
  obtain ⟨t, h⟩ := h
  exact (pe_glob hg h (v := .int i) ⟨t, rfl⟩ hd).run pins s σ H Q I hq
theorem getter_of {CX : CXT} {P : Program} {w : World} {K : PySem.W.Frag} {mg : Str → Option Value} {base : Heap} {x qual f : Str} {st : Stmt} {g C : Addr} {fd : FuncData} {p1 p2 p3 : Pos} (F : Fun K x qual st g fd) (S : FnScope ["self"] ["self"] (defScope st))
    (hb : defBody st = [.Return (some (.Attribute (.Name "self" p1) f p2)) p3]) (hN : (["self"] : List Str)[0]? = some ("self" : Str)) (cl : Cls K C) (n : NoAttr K C f) : FnOk P w K mg base CX 1 g fd ["self"] (getSp C f) := by
  obtain ⟨oc, od, kV, doc, pm, an, cdv, ct, osl, rfl, lk, hcd⟩ := F.ex
  exact fn_getter (k := 0) lk hcd S hN hb cl n
end Den

namespace Den
open PySem L2
@[simp] theorem mret_ev {α : Type} (a : α) (l : Loc) (p : List Int) : mret a l p = .ok a p := rfl
@[simp] theorem mbind_ev {α β : Type} (a : M α) (k : α → M β) (l : Loc) (p : List Int) : mbind a k l p = (a l p).bind fun x p' => k x l p' := rfl
@[simp] theorem bind_ok {α β : Type} (a : α) (p : List Int) (k : α → List Int → R β) : (R.ok a p).bind k = k a p := rfl
@[simp] theorem bind_err {α β : Type} (n : Nat) (p : List Int) (k : α → List Int → R β) : (R.err n p : R α).bind k = .err n p := rfl
@[simp] theorem bind_bad {α β : Type} (k : α → List Int → R β) : (R.bad : R α).bind k = .bad := rfl
@[simp] theorem mlift_some {α : Type} (a : α) (l : Loc) (p : List Int) : mlift (some a) l p = .ok a p := rfl
@[simp] theorem mlift_none {α : Type} (l : Loc) (p : List Int) : (mlift none : M α) l p = .bad := rfl
theorem mvar_ev {i : Nat} {l : Loc} {p : List Int} {d : D} (h : l[i]? = some (some (.dat d))) : mvar i l p = .ok d p := by
  unfold mvar
  rw [h]
@[simp] theorem op2_ev (f : D → D → Option D) (a b : M D) (l : Loc) (p : List Int) : op2 f a b l p = (a l p).bind fun x p' => (b l p').bind fun y p'' => mlift (f x y) l p'' := rfl
@[simp] theorem op1_ev (f : D → Option D) (a : M D) (l : Loc) (p : List Int) : op1 f a l p = (a l p).bind fun x p' => mlift (f x) l p' := rfl
@[simp] theorem opn_ev (f : List D → Option D) (a : M (List D)) (l : Loc) (p : List Int) : opn f a l p = (a l p).bind fun x p' => mlift (f x) l p' := rfl
@[simp] theorem anil_ev (l : Loc) (p : List Int) : anil l p = .ok [] p := rfl
@[simp] theorem acons_ev (a : M D) (b : M (List D)) (l : Loc) (p : List Int) : acons a b l p = (a l p).bind fun x p' => (b l p').bind fun ys p'' => .ok (x :: ys) p'' := rfl
@[simp] theorem mtest_ev (a : M D) (l : Loc) (p : List Int) : mtest a l p = (a l p).bind fun x p' => mlift (boolOf x) l p' := rfl
@[simp] theorem boolOf_bl (b : Bool) : boolOf (.bl b) = some b := rfl
@[simp] theorem mcall_ev (f : RF) (a : M (List D)) (l : Loc) (p : List Int) : mcall f a l p = (a l p).bind fun x p' => f x p' := rfl
@[simp] theorem mand_ev (a b : M Bool) (l : Loc) (p : List Int) : mand a b l p = (a l p).bind fun x p' => if x = true then b l p' else .ok false p' := by
  unfold mand mbind
  congr 1; funext x p'; cases x <;> rfl
@[simp] theorem mor_ev (a b : M Bool) (l : Loc) (p : List Int) : mor a b l p = (a l p).bind fun x p' => if x = true then .ok true p' else b l p' := by
  unfold mor mbind
  congr 1; funext x p'; cases x <;> rfl
@[simp] theorem mnot_ev (a : M Bool) (l : Loc) (p : List Int) : mnot a l p = (a l p).bind fun x p' => .ok (!x) p' := rfl
@[simp] theorem mif_ev {α : Type} (t : M Bool) (a b : M α) (l : Loc) (p : List Int) : mif t a b l p = (t l p).bind fun x p' => if x = true then a l p' else b l p' := by
  unfold mif mbind
  congr 1; funext x p'; cases x <;> rfl
@[simp] theorem vand_ev (a b : M D) (l : Loc) (p : List Int) : vand a b l p = (mtest a l p).bind fun x p' => if x = true then b l p' else .ok (.bl false) p' := by
  unfold vand mbind
  congr 1; funext x p'; cases x <;> rfl
@[simp] theorem vor_ev (a b : M D) (l : Loc) (p : List Int) : vor a b l p = (mtest a l p).bind fun x p' => if x = true then .ok (.bl true) p' else b l p' := by
  unfold vor mbind
  congr 1; funext x p'; cases x <;> rfl
@[simp] theorem vnot_ev (a : M D) (l : Loc) (p : List Int) : vnot a l p = (mtest a l p).bind fun x p' => .ok (.bl (!x)) p' := rfl
@[simp] theorem mtru_ev (a : M D) (l : Loc) (p : List Int) : mtru a l p = (a l p).bind fun x p' => mlift (truOf x) l p' := rfl
@[simp] theorem mtrue_ev (l : Loc) (p : List Int) : mtrue l p = .ok true p := rfl
@[simp] theorem mfreeze_ev (a : M (List D)) (l : Loc) (p : List Int) : mfreeze a l p = (a l p).bind fun x p' => .ok (.lst x) p' := rfl
@[simp] theorem mshort_ev (a : M (List D)) (l : Loc) (p : List Int) : mshort a l p = (a l p).bind fun x p' => if x.length ≤ 1000 then .ok x p' else .bad := by
  unfold mshort mbind
  congr 1; funext x p'
  by_cases h : x.length ≤ 1000
  · simp only [if_pos h]; rfl
  · simp only [if_neg h]
@[simp] theorem mtupd_ev (a : M (List D)) (l : Loc) (p : List Int) : mtupd a l p = (mshort a l p).bind fun x p' => .ok (.tup x) p' := rfl
@[simp] theorem mlistN_ev (a : M (List D)) (l : Loc) (p : List Int) : mlistN a l p = (a l p).bind fun x p' => mlift (fSeq1 x) l p' := rfl
@[simp] theorem mpop_nil (l : Loc) (p : List Int) (a : M D) (h : a l p = .ok .pot []) : mpop a l p = .bad := by
  unfold mpop mbind; rw [h]; rfl
@[simp] theorem mfld_ev (C : Addr) (f : Str) (a : M D) (l : Loc) (p : List Int) : mfld C f a l p = (a l p).bind fun x p' => mlift (fFld C f x) l p' := rfl
@[simp] theorem sseq_nx (a b : MS) (l l' : Loc) (p p' : List Int) (h : a l p = .nx l' p') : sseq a b l p = b l' p' := by
  unfold sseq; rw [h]
def O.bind (o : O) (k : Loc → List Int → O) : O := match o with
  | .nx l p => k l p
  | o => o
@[simp] theorem O.bind_nx (l : Loc) (p : List Int) (k : Loc → List Int → O) : (O.nx l p).bind k = k l p := rfl
@[simp] theorem O.bind_rt (d : D) (p : List Int) (k : Loc → List Int → O) : (O.rt d p).bind k = .rt d p := rfl
@[simp] theorem O.bind_err (n : Nat) (l : Loc) (p : List Int) (k : Loc → List Int → O) : (O.err n l p).bind k = .err n l p := rfl
@[simp] theorem O.bind_bad (k : Loc → List Int → O) : O.bad.bind k = .bad := rfl
@[simp] theorem sseq_ev (a b : MS) (l : Loc) (p : List Int) : sseq a b l p = (a l p).bind b := by
  unfold sseq O.bind; cases a l p <;> rfl
@[simp] theorem sskip_ev (l : Loc) (p : List Int) : sskip l p = .nx l p := rfl
def R.toO {α : Type} (r : R α) (l : Loc) (k : α → List Int → O) : O := match r with
  | .ok x p => k x p
  | .err n p => .err n l p
  | .bad => .bad
@[simp] theorem toO_ok {α : Type} (a : α) (p : List Int) (l : Loc) (k : α → List Int → O) : (R.ok a p).toO l k = k a p := rfl
@[simp] theorem toO_err {α : Type} (n : Nat) (p : List Int) (l : Loc) (k : α → List Int → O) : (R.err n p : R α).toO l k = .err n l p := rfl
@[simp] theorem toO_bad {α : Type} (l : Loc) (k : α → List Int → O) : (R.bad : R α).toO l k = .bad := rfl
theorem sbind_ev {α : Type} (a : M α) (k : α → MS) (l : Loc) (p : List Int) : sbind a k l p = (a l p).toO l fun x p' => k x l p' := by
  unfold sbind R.toO; cases a l p <;> rfl
@[simp] theorem sif_ev (t : M Bool) (a b : MS) (l : Loc) (p : List Int) : sif t a b l p = (t l p).toO l fun x p' => if x = true then a l p' else b l p' := by
  unfold sif; rw [sbind_ev]; congr 1; funext x p'; cases x <;> rfl
@[simp] theorem sret_ev (a : M D) (l : Loc) (p : List Int) : sret a l p = (a l p).toO l fun x p' => .rt x p' := by unfold sret; rw [sbind_ev]
@[simp] theorem sdrop_ev (a : M D) (l : Loc) (p : List Int) : sdrop a l p = (a l p).toO l fun x p' => .nx l p' := by unfold sdrop; rw [sbind_ev]
@[simp] theorem sasg_ev (a : M D) (tg : D → Loc → Option Loc) (l : Loc) (p : List Int) : sasg a tg l p = (a l p).toO l fun x p' => match tg x l with
  | some l' => .nx l' p'
  | none => .bad := by unfold sasg; rw [sbind_ev] <;> rfl
@[simp] theorem sown_ev (a : M (List D)) (i : Nat) (l : Loc) (p : List Int) : sown a i l p = (a l p).toO l fun x p' => if i < l.length then .nx (l.set i (some (.cell x))) p' else .bad := by unfold sown; rw [sbind_ev]
@[simp] theorem sraise_ev (n : Nat) (l : Loc) (p : List Int) : sraise n l p = .err n l p := rfl
@[simp] theorem sfor_ev (a : M (List D)) (tg : D → Loc → Option Loc) (body : MS) (l : Loc) (p : List Int) : sfor a tg body l p = (a l p).toO l fun x p' => loop tg body x l p' := by unfold sfor; rw [sbind_ev]
@[simp] theorem outR_rt (d : D) (p : List Int) : outR (.rt d p) = .ok d p := rfl
@[simp] theorem outR_nx (l : Loc) (p : List Int) : outR (.nx l p) = .ok .non p := rfl
@[simp] theorem outR_err (n : Nat) (l : Loc) (p : List Int) : outR (.err n l p) = .err n p := rfl

/-! ### the operations' values -/
@[simp] theorem fEq_int (i j : Int) : fEq (.int i) (.int j) = some (.bl (decide (i = j))) := by
  show (if scal (V.int i) (V.int j) = true then some (D.bl (decide (V.int i = V.int j))) else none) = _
  simp [scal]
@[simp] theorem fNe_int (i j : Int) : fNe (.int i) (.int j) = some (.bl (!decide (i = j))) := by
  show (if scal (V.int i) (V.int j) = true then some (D.bl (!decide (V.int i = V.int j))) else none) = _
  simp [scal]
theorem fEq_str (i j : Str) : fEq (.str i) (.str j) = some (.bl (decide (i = j))) := by
  show (if scal (V.str i) (V.str j) = true then some (D.bl (decide (V.str i = V.str j))) else none) = _
  simp [scal]
@[simp] theorem fAdd_int (i j : Int) : fAdd (.int i) (.int j) = some (.int (i + j)) := rfl
@[simp] theorem fSub_int (i j : Int) : fSub (.int i) (.int j) = some (.int (i - j)) := rfl
@[simp] theorem fLt_int (i j : Int) : fLt (.int i) (.int j) = some (.bl (decide (i < j))) := rfl
@[simp] theorem fLe_int (i j : Int) : fLe (.int i) (.int j) = some (.bl (decide (i ≤ j))) := rfl
@[simp] theorem fGt_int (i j : Int) : fGt (.int i) (.int j) = some (.bl (decide (j < i))) := rfl
@[simp] theorem fGe_int (i j : Int) : fGe (.int i) (.int j) = some (.bl (decide (j ≤ i))) := rfl
@[simp] theorem fNeg_int (i : Int) : fNeg (.int i) = some (.int (-i)) := rfl
theorem fMod_int {i j : Int} (h : 0 < j) : fMod (.int i) (.int j) = some (.int (i % j)) := by
  show (if 0 < j then _ else _) = _
  rw [if_pos h]
theorem fDiv_int {i j : Int} (h : 0 < j ∧ j.natAbs < 1073741824) : fDiv (.int i) (.int j) = some (.int (i / j)) := by
  show (if 0 < j ∧ j.natAbs < 1073741824 then _ else _) = _
  rw [if_pos h]
theorem fMul_int {i j : Int} (h : i.natAbs < 18446744073709551616 ∨ j.natAbs < 18446744073709551616) : fMul (.int i) (.int j) = some (.int (i * j)) := by
  show (if i.natAbs < 18446744073709551616 ∨ j.natAbs < 18446744073709551616 then _ else _) = _
  rw [if_pos h]
@[simp] theorem fIsN_ev (d : D) : fIsN d .non = some (.bl (isNon d)) := rfl
@[simp] theorem fNotN_ev (d : D) : fNotN d .non = some (.bl (!isNon d)) := rfl
@[simp] theorem fLen_lst (ds : List D) : fLen [.lst ds] = some (.int ds.length) := rfl
@[simp] theorem fLen_tup (ds : List D) : fLen [.tup ds] = some (.int ds.length) := rfl
@[simp] theorem fInt_int (i : Int) : fInt [.int i] = some (.int i) := rfl
@[simp] theorem fAbs_int (i : Int) : fAbs [.int i] = some (.int (if i < 0 then -i else i)) := rfl
@[simp] theorem fMax2_int (i j : Int) : fMax2 [.int i, .int j] = some (.int (if j > i then j else i)) := rfl
@[simp] theorem fMin2_int (i j : Int) : fMin2 [.int i, .int j] = some (.int (if j < i then j else i)) := rfl
@[simp] theorem seqOf_lst (ds : List D) : seqOf (.lst ds) = some ds := rfl
@[simp] theorem seqOf_tup (ds : List D) : seqOf (.tup ds) = some ds := rfl
@[simp] theorem lstOf_lst (ds : List D) : lstOf (.lst ds) = some ds := rfl
@[simp] theorem tupOf_tup (ds : List D) : tupOf (.tup ds) = some ds := rfl
@[simp] theorem fSeq1_lst (ds : List D) : fSeq1 [.lst ds] = some ds := rfl
@[simp] theorem fSeq1_tup (ds : List D) : fSeq1 [.tup ds] = some ds := rfl
@[simp] theorem fTuple_lst (ds : List D) : fTuple [.lst ds] = some (.tup ds) := rfl
@[simp] theorem fTuple_tup (ds : List D) : fTuple [.tup ds] = some (.tup ds) := rfl
@[simp] theorem truOf_lst (ds : List D) : truOf (.lst ds) = some (!ds.isEmpty) := rfl
@[simp] theorem truOf_tup (ds : List D) : truOf (.tup ds) = some (!ds.isEmpty) := rfl
@[simp] theorem truOf_bl (b : Bool) : truOf (.bl b) = some b := rfl
@[simp] theorem truOf_int (i : Int) : truOf (.int i) = some (i != 0) := rfl
theorem atI_nat' {ds : List D} {i : Int} {d : D} (h0 : 0 ≤ i) (h : ds[i.toNat]? = some d) : atI ds i = some d := by
  obtain ⟨n, rfl⟩ := Int.eq_ofNat_of_zero_le h0
  exact atI_nat (by simpa using h)
@[simp] theorem fIx_lst (ds : List D) (i : Int) : fIx (.lst ds) (.int i) = atI ds i := rfl
@[simp] theorem fIx_tup (ds : List D) (i : Int) : fIx (.tup ds) (.int i) = atI ds i := rfl
@[simp] theorem atI_0 (d : D) (ds : List D) : atI (d :: ds) 0 = some d := atI_nat (j := 0) rfl
@[simp] theorem atI_1 (d e : D) (ds : List D) : atI (d :: e :: ds) 1 = some e := atI_nat (j := 1) rfl
@[simp] theorem atI_2 (d e f : D) (ds : List D) : atI (d :: e :: f :: ds) 2 = some f := atI_nat (j := 2) rfl
@[simp] theorem atI_3 (d e f g : D) (ds : List D) : atI (d :: e :: f :: g :: ds) 3 = some g := atI_nat (j := 3) rfl
@[simp] theorem isNon_non : isNon .non = true := rfl
@[simp] theorem isNon_int (i : Int) : isNon (.int i) = false := rfl
@[simp] theorem isNon_tup (ds : List D) : isNon (.tup ds) = false := rfl
@[simp] theorem isNon_lst (ds : List D) : isNon (.lst ds) = false := rfl
@[simp] theorem lset_lt (i : Nat) (d : D) (l : Loc) (h : i < l.length) : gset i d l = some (l.set i (some (.dat d))) := if_pos h
end Den

namespace Den
open PySem L2
/-! ### loops and comprehensions, run -/
theorem loop_run {tg : D → Loc → Option Loc} {body : MS} (I : Nat → Loc → List Int → Prop) : ∀ {ds : List D} {k : Nat} {l : Loc} {p : List Int}, I k l p →
    (∀ (i : Nat) d l p, ds[i]? = some d → I (k + i) l p → ∃ l1, tg d l = some l1 ∧ ∃ l2 p2, (body l1 p = .nx l2 p2 ∨ body l1 p = .ct l2 p2) ∧ I (k + i + 1) l2 p2) →
    ∃ l' p', loop tg body ds l p = .nx l' p' ∧ I (k + ds.length) l' p'
  | [], k, l, p, h0, _ => ⟨l, p, rfl, h0⟩
  | d :: ds, k, l, p, h0, hs => by
    obtain ⟨l1, e1, l2, p2, e2, h2⟩ := hs 0 d l p rfl h0
    obtain ⟨l', p', e3, h3⟩ := loop_run I (ds := ds) (k := k + 1) (l := l2) (p := p2) h2 fun i d' l p hd hI => by
      have e : k + (i + 1) = k + 1 + i := by omega
      have := hs (i + 1) d' l p (by simpa using hd) (by rw [e]; exact hI)
      rw [e] at this
      exact this
    refine ⟨l', p', ?_, by rw [List.length_cons, show k + (ds.length + 1) = k + 1 + ds.length by omega]; exact h3⟩
    unfold loop
    rw [e1]
    rcases e2 with e2 | e2
    · simp only [e2]; exact e3
    · simp only [e2]; exact e3
/-- a loop that hands back in its m-th turn -/
theorem loop_find {tg : D → Loc → Option Loc} {body : MS} (I : Nat → Loc → List Int → Prop) {r : D} {q : List Int} : ∀ {ds : List D} {k m : Nat} {l : Loc} {p : List Int}, m < ds.length → I k l p →
    (∀ (i : Nat) d l p, i < m → ds[i]? = some d → I (k + i) l p → ∃ l1, tg d l = some l1 ∧ ∃ l2 p2, body l1 p = .nx l2 p2 ∧ I (k + i + 1) l2 p2) →
    (∀ d l p, ds[m]? = some d → I (k + m) l p → ∃ l1, tg d l = some l1 ∧ body l1 p = .rt r q) → loop tg body ds l p = .rt r q
  | [], k, m, l, p, hm, _, _, _ => absurd hm (Nat.not_lt_zero m)
  | d :: ds, k, 0, l, p, _, h0, _, hr => by
    obtain ⟨l1, e1, e2⟩ := hr d l p rfl h0
    unfold loop
    rw [e1]
    simp only [e2]
  | d :: ds, k, m + 1, l, p, hm, h0, hs, hr => by
    obtain ⟨l1, e1, l2, p2, e2, h2⟩ := hs 0 d l p (Nat.succ_pos m) rfl h0
    have e3 := loop_find I (ds := ds) (k := k + 1) (m := m) (l := l2) (p := p2) (r := r) (q := q) (by simpa using hm) h2 (fun i d' l p hi hd hI => by
      have e : k + (i + 1) = k + 1 + i := by omega
      have := hs (i + 1) d' l p (by omega) (by simpa using hd) (by rw [e]; exact hI)
      rw [e] at this
      exact this) fun d' l p hd hI => hr d' l p (by simpa using hd) (by rw [show k + (m + 1) = k + 1 + m by omega]; exact hI)
    unfold loop
    rw [e1]
    simp only [e2]
    exact e3
theorem comp_run {i : Nat} {t : M Bool} {e : M D} {l : Loc} (hi : i < l.length) (f : D → Option D) {p : List Int} : ∀ {ds : List D}, (∀ d ∈ ds, turn t e (l.set i (some (.dat d))) p = .ok (f d) p) → comp i t e ds l p = .ok (ds.filterMap f) p
  | [], _ => rfl
  | d :: ds, h => by
    unfold comp
    rw [if_pos hi, h d List.mem_cons_self]
    have ih := comp_run hi f (p := p) (ds := ds) fun d' hd => h d' (List.mem_cons_of_mem _ hd)
    simp only [ih]
    rw [List.filterMap_cons]
    cases f d <;> rfl
theorem comp_map {i : Nat} {e : M D} {l : Loc} (hi : i < l.length) (f : D → D) {p : List Int} {ds : List D} (h : ∀ d ∈ ds, e (l.set i (some (.dat d))) p = .ok (f d) p) : comp i mtrue e ds l p = .ok (ds.map f) p := by
  rw [comp_run hi (fun d => some (f d)) fun d hd => ?_]
  · rw [List.filterMap_eq_map']
  · unfold turn
    rw [mbind_ok (show mtrue (l.set i (some (.dat d))) p = .ok true p from rfl), if_pos rfl, mbind_ok (h d hd)]
    rfl
theorem comp_filter {i : Nat} {t : M Bool} {e : M D} {l : Loc} (hi : i < l.length) (b : D → Bool) {p : List Int} {ds : List D} (h : ∀ d ∈ ds, t (l.set i (some (.dat d))) p = .ok (b d) p) (he : ∀ d ∈ ds, e (l.set i (some (.dat d))) p = .ok d p) : comp i t e ds l p = .ok (ds.filter b) p := by
  rw [comp_run hi (fun d => if b d = true then some d else none) fun d hd => ?_]
  · congr 1
    clear h he
    induction ds with
    | nil => rfl
    | cons d ds ih =>
      rw [List.filterMap_cons, List.filter_cons, ih]
      cases b d <;> simp
  · unfold turn
    rw [mbind_ok (h d hd)]
    cases hb : b d with
    | true => rw [if_pos rfl, if_pos rfl, mbind_ok (he d hd)]; rfl
    | false => rw [if_neg Bool.false_ne_true, if_neg Bool.false_ne_true]; rfl
/-- elements that draw -/
theorem comp_ex {i : Nat} {e : M D} {l : Loc} (hi : i < l.length) (Qd : D → D → Prop) : ∀ {ds : List D} {p : List Int}, (∀ d ∈ ds, ∀ p, ∃ y p', e (l.set i (some (.dat d))) p = .ok y p' ∧ Qd d y) →
    ∃ ys p', comp i mtrue e ds l p = .ok ys p' ∧ ys.length = ds.length ∧ ∀ y ∈ ys, ∃ d ∈ ds, Qd d y
  | [], p, _ => ⟨[], p, rfl, rfl, fun _ h => nomatch h⟩
  | d :: ds, p, h => by
    obtain ⟨y, p1, e1, q1⟩ := h d List.mem_cons_self p
    obtain ⟨ys, p2, e2, q2, q3⟩ := comp_ex hi Qd (ds := ds) (p := p1) fun d' hd => h d' (List.mem_cons_of_mem _ hd)
    refine ⟨y :: ys, p2, ?_, by simp [q2], fun z hz => ?_⟩
    · unfold comp
      rw [if_pos hi]
      unfold turn
      rw [mbind_ok (show mtrue (l.set i (some (.dat d))) p = .ok true p from rfl), if_pos rfl, mbind_ok e1]
      simp only [mret_ev, e2]
      rfl
    · rcases List.mem_cons.mp hz with rfl | hz
      · exact ⟨d, List.mem_cons_self, q1⟩
      · obtain ⟨d', h1, h2⟩ := q3 z hz
        exact ⟨d', List.mem_cons_of_mem _ h1, h2⟩
theorem mcomp_ev {a : M (List D)} {i : Nat} {t : M Bool} {e : M D} {l : Loc} {p p' : List Int} {ds : List D} (ha : a l p = .ok ds p') (hl : ds.length ≤ 1000) : mcomp a i t e l p = comp i t e ds l p' := by
  unfold mcomp
  rw [mbind_ok ha, if_pos hl]
/-! ### slots -/
theorem rng1_int {n : Int} (h1 : n.natAbs < 4611686018427387904) : rng1 [.int n] = some (rngD 0 n.toNat) := by
  show (if n.natAbs < 4611686018427387904 then _ else _) = _
  rw [if_pos h1]
theorem rng2_int {i n : Int} (hi : i.natAbs < 4611686018427387904) (h1 : n.natAbs < 4611686018427387904) : rng2 [.int i, .int n] = some (rngD i (n - i).toNat) := by
  show (if i.natAbs < 4611686018427387904 ∧ n.natAbs < 4611686018427387904 then _ else _) = _
  rw [if_pos ⟨hi, h1⟩]
theorem rngD_len (lo : Int) (n : Nat) : (rngD lo n).length = n := by simp [rngD]
theorem rngD_get {lo : Int} {n i : Nat} {d : D} (h : (rngD lo n)[i]? = some d) : i < n ∧ d = .int (lo + i) := by
  have hi : i < n := by
    have := (List.getElem?_eq_some_iff.mp h).1
    rwa [rngD_len] at this
  refine ⟨hi, ?_⟩
  simp [rngD, hi] at h
  exact h.symm
theorem rngD_mem {lo : Int} {n : Nat} {d : D} (h : d ∈ rngD lo n) : ∃ i, i < n ∧ d = .int (lo + (i : Int)) := by
  obtain ⟨i, hi⟩ := List.getElem?_of_mem h
  exact ⟨i, rngD_get hi⟩

/-- a loop that only looks: its target's slot alone changes -/
theorem loop_env {i : Nat} {body : MS} (F : Option L → Loc) {p : List Int} (hF : ∀ o d, gset i d (F o) = some (F (some (.dat d)))) : ∀ {ds : List D}, (∀ d ∈ ds, body (F (some (.dat d))) p = .nx (F (some (.dat d))) p) → ∀ o, ∃ o', loop (gset i) body ds (F o) p = .nx (F o') p
  | [], _, o => ⟨o, rfl⟩
  | d :: ds, h, o => by
    obtain ⟨o', e⟩ := loop_env F (p := p) (body := body) hF (ds := ds) (fun d' hd => h d' (List.mem_cons_of_mem _ hd)) (some (.dat d))
    refine ⟨o', ?_⟩
    unfold loop
    rw [hF]
    simp only [h d List.mem_cons_self]
    exact e

theorem comp_mapL {α : Type} {i : Nat} {e : M D} {l : Loc} (hi : i < l.length) (g f : α → D) {p : List Int} : ∀ {xs : List α}, (∀ x ∈ xs, e (l.set i (some (.dat (g x)))) p = .ok (f x) p) → comp i mtrue e (xs.map g) l p = .ok (xs.map f) p
  | [], _ => rfl
  | x :: xs, h => by
    have ih := comp_mapL hi g f (p := p) (xs := xs) fun y hy => h y (List.mem_cons_of_mem _ hy)
    show comp i mtrue e (g x :: xs.map g) l p = _
    unfold comp
    rw [if_pos hi]
    unfold turn
    rw [mbind_ok (show mtrue (l.set i (some (.dat (g x)))) p = .ok true p from rfl), if_pos rfl, mbind_ok (h x List.mem_cons_self)]
    simp only [mret_ev, ih]
    rfl
theorem comp_filterL {α : Type} {i : Nat} {t : M Bool} {e : M D} {l : Loc} (hi : i < l.length) (g : α → D) (b : α → Bool) {p : List Int} : ∀ {xs : List α}, (∀ x ∈ xs, t (l.set i (some (.dat (g x)))) p = .ok (b x) p) → (∀ x ∈ xs, e (l.set i (some (.dat (g x)))) p = .ok (g x) p) → comp i t e (xs.map g) l p = .ok ((xs.filter b).map g) p
  | [], _, _ => rfl
  | x :: xs, h, he => by
    have ih := comp_filterL hi g b (p := p) (xs := xs) (fun y hy => h y (List.mem_cons_of_mem _ hy)) fun y hy => he y (List.mem_cons_of_mem _ hy)
    show comp i t e (g x :: xs.map g) l p = _
    unfold comp
    rw [if_pos hi]
    unfold turn
    rw [mbind_ok (h x List.mem_cons_self)]
    rw [List.filter_cons]
    cases hb : b x with
    | true =>
      rw [if_pos rfl, mbind_ok (he x List.mem_cons_self)]
      simp only [mret_ev, ih]
      rfl
    | false =>
      rw [if_neg Bool.false_ne_true]
      simp only [mret_ev, ih]
      rfl
theorem sfldO_ev {C : Addr} {i : Nat} {f : Str} {a : M D} {l : Loc} {p p' : List Int} {x : D} {ea : Addr} {ns : List Str} {ds : List D} (ha : a l p = .ok x p') (hl : l[i]? = some (some (.obj ea C ns ds))) (h : ns.length = ds.length ∧ ns.length < 1000 ∧ f ∉ ns) :
    sfldO C i f a l p = .nx (l.set i (some (.obj ea C (ns ++ [f]) (ds ++ [x])))) p' := by
  unfold sfldO
  rw [sbind_ev, ha]
  show (match l[i]? with
    | some (some (.obj ea C' ns ds)) => if C' = C ∧ ns.length = ds.length ∧ ns.length < 1000 ∧ f ∉ ns then O.nx (l.set i (some (.obj ea C (ns ++ [f]) (ds ++ [x])))) p' else .bad
    | _ => .bad) = _
  rw [hl]
  exact if_pos ⟨rfl, h⟩
end Den

/-! a list or a tuple, walked -/
namespace Den
open PySem L2 PyProof.Rows
section
variable {X : Cx} {tg : Expr}
def iSeq (K : PySem.W.Frag) (tl : TE) : TI := fun σ H R => tl σ H fun x H1 => ∃ a, x = .ref a ∧ (((∃ xs, SqL K H1 a xs) ∧ R (Itl K a) H1) ∨ ((∃ xs, SqT K H1 a xs) ∧ R (Itt K a) H1))
theorem pi_seq {l : Expr} {tl : TE} (hl : PE X l tl) : PI X tg l (iSeq X.K tl) := by
  refine ⟨fun pins s σ H R I h => ?_⟩
  refine thn (hl.run pins s σ H _ I h) fun v s1 ⟨x, H1, I1, r1, q1⟩ => ?_
  obtain ⟨a, e, q1⟩ := q1
  subst e
  cases r1
  rcases q1 with ⟨⟨xs, hq⟩, q⟩ | ⟨⟨xs, hq⟩, q⟩
  · obtain ⟨its, rv, p, hz⟩ := I1.list hq
    refine wpAny_pyIter_list p.isList ?_
    refine ⟨s1.heap.objs.size, [s1.heap.objs.size], _, _, H1, rfl, I1.kept (t' := s1.toks) fun b o e => Heap.get?_push_of_some _ e, turn_list a _, ⟨_, Heap.get?_push_size _ rfl, rfl, rfl⟩, fun b hb => ?_, q⟩
    have e : b = s1.heap.objs.size := by simpa using hb
    subst e
    exact I1.fpOk (Nat.le_refl _) (I1.hok.fresh (Nat.le_refl _))
  · obtain ⟨its, rv, p, hz⟩ := I1.tuple hq
    refine wpAny_pyIter_tuple (show s1.heap.IsTuple a its.toArray from p) ?_
    refine ⟨s1.heap.objs.size, [s1.heap.objs.size], _, _, H1, rfl, I1.kept (t' := s1.toks) fun b o e => Heap.get?_push_of_some _ e, turn_tuple a _, ⟨_, Heap.get?_push_size _ rfl, rfl, rfl⟩, fun b hb => ?_, q⟩
    have e : b = s1.heap.objs.size := by simpa using hb
    subst e
    exact I1.fpOk (Nat.le_refl _) (I1.hok.fresh (Nat.le_refl _))
end
section
variable {c : Cfg} {E : L2.St → XK}
theorem si_seq {t : TE} {a : M D} (ha : SE c E t a) : SI c E (iSeq c.K t) (mbind a fun x => mlift (seqOf x)) := by
  intro G0 H0 G H σ l pot r Q post
  refine Sn.go ha r post fun x dx p G1 H1 s1 r1 hx post1 => ?_
  cases dx with
  | lst ds =>
    obtain ⟨q, vs, rfl, h, al⟩ := at_lst hx
    exact ⟨q, rfl, .inl ⟨⟨vs, .inl (.inl (r1.stp.gh _ _ h))⟩, Post.ok post1 r1 (walks_list h al)⟩⟩
  | tup ds =>
    obtain ⟨q, vs, rfl, h, al⟩ := at_tup hx
    exact ⟨q, rfl, .inr ⟨⟨vs, .inl (.inl (r1.stp.gh _ _ h))⟩, Post.ok post1 r1 (walks_tup h al)⟩⟩
  | _ => exact post1.elim
end
end Den

/-! tuple(range(..)), list(range(..)), a <= b <= c, list.index -/
namespace Den
open PySem L2
section
variable {c : Cfg} {E : L2.St → XK}
def fRg : D → D → Option (List D)
  | .int i, .int j => if i.natAbs < 4611686018427387904 ∧ j.natAbs < 4611686018427387904 ∧ (j - i).toNat ≤ 1000 then some (rngD i (j - i).toNat) else none
  | _, _ => none
theorem fRg_at {G : Hp} {x y : V} {dx dy : D} {ds : List D} (hx : At c.P G x dx) (hy : At c.P G y dy) (e : fRg dx dy = some ds) : ∃ i j, x = .int i ∧ y = .int j ∧ RgOk i j ∧ ds = rngD i (j - i).toNat := by
  unfold fRg at e
  split at e
  · split at e
    · rename_i z
      cases e
      exact ⟨_, _, at_int hx, at_int hy, ⟨by omega, by omega, by omega, by omega, by omega⟩, rfl⟩
    · cases e
  · cases e
theorem rg_at {P : Addr} {G : Hp} (i j : Int) : AtL P G (rgV i j) (rngD i (j - i).toNat) := by
  unfold rgV rngD
  induction List.range (j - i).toNat with
  | nil => exact .nil
  | cons k ks ih => exact .cons (.int _) ih
def mrg (a b : M D) : M (List D) := mbind a fun x => mbind b fun y => mlift (fRg x y)
theorem sen_rg {ta tb : TE} {a b : M D} (ha : SE c E ta a) (hb : SE c E tb b) : SEN c E (tLstRg (tRg2 ta tb)) (mrg a b) := by
  intro G0 H0 G H σ l pot r Q post
  refine Sn.goN ha r post fun x dx p G1 H1 s1 r1 hx post1 => ?_
  refine Sn.goN hb r1 post1 fun y dy p2 G2 H2 s2 r2 hy post2 => ?_
  cases e : fRg dx dy with
  | none => rw [e] at post2; exact post2.elim
  | some ds =>
    rw [e] at post2
    obtain ⟨i, j, rfl, rfl, ok, rfl⟩ := fRg_at (At.mono s2.gg hx) hy e
    exact ⟨i, j, rfl, rfl, ok, sen_of r2 (rg_at i j) post2⟩
def mrgT (a b : M D) : M D := mbind a fun x => mbind b fun y => mlift ((fRg x y).map D.tup)
theorem se_rgT {ta tb : TE} {a b : M D} (ha : SE c E ta a) (hb : SE c E tb b) : SE c E (tTupRg (tRg2 ta tb)) (mrgT a b) := by
  intro G0 H0 G H σ l pot r Q post
  refine Sn.go ha r post fun x dx p G1 H1 s1 r1 hx post1 => ?_
  refine Sn.go hb r1 post1 fun y dy p2 G2 H2 s2 r2 hy post2 => ?_
  cases e : fRg dx dy with
  | none => rw [e] at post2; exact post2.elim
  | some ds =>
    rw [e] at post2
    obtain ⟨i, j, rfl, rfl, ok, rfl⟩ := fRg_at (At.mono s2.gg hx) hy e
    refine ⟨i, j, rfl, rfl, ok, fun q hq => ?_⟩
    have hP : c.P ≠ q := fun z => r2.hp (by rw [z]; exact hq)
    have s3 := Stp.lay (P := c.P) (o := .tup (rgV i j)) r2.stp.gh hq
    exact post2 _ _ _ s3 (r2.step s3 ((upd_ne hP).trans r2.pot)) (at_new_t r2.stp.gh hq (rg_at i j))
/-- a op b op' d -/
def mchain (f g : D → D → Option D) (a b d : M D) : M D := mbind a fun x => mbind b fun y => mbind (mlift ((f x y).bind boolOf)) fun k => if k = true then mbind d fun w => mlift (g y w) else mret (.bl false)
theorem se_chain {r r' : R2} {f g : D → D → Option D} {ta tb td : TE} {a b d : M D} (hr : S2 c r f) (hr' : S2 c r' g) (ha : SE c E ta a) (hb : SE c E tb b) (hd : SE c E td d) : SE c E (tChain r r' ta tb td) (mchain f g a b d) := by
  intro G0 H0 G H σ l pot rl Q post
  refine Sn.go ha rl post fun x dx p G1 H1 s1 r1 hx post1 => ?_
  refine Sn.go hb r1 post1 fun y dy p2 G2 H2 s2 r2 hy post2 => ?_
  obtain ⟨k, ek, post3⟩ := post_lift post2
  cases e : f dx dy with
  | none => rw [e] at ek; cases ek
  | some dz =>
    rw [e] at ek
    refine hr.run G2 H2 x y dx dy dz r2.stp.gh r2.hp (At.mono s2.gg hx) hy e _ fun z G3 H3 s3 hP3 hz => ?_
    have r3 := r2.step s3 (hP3.trans r2.pot)
    refine ⟨k, bool_at hz ek, ?_⟩
    have post4 := Post.mono post3 s3
    cases k with
    | true =>
      rw [if_pos rfl] at post4 ⊢
      refine Sn.go hd r3 post4 fun w dw p4 G4 H4 s4 r4 hw post5 => ?_
      exact post_op (t := r' y w) r4 post5 fun d' e' => hr'.run G4 H4 y w dy dw d' r4.stp.gh r4.hp (At.mono (s3.gg.trans s4.gg) hy) hw e'
    | false =>
      rw [if_neg Bool.false_ne_true] at post4 ⊢
      exact Post.ok post4 r3 (.bl false)
/-- xs.index(y) of flat things -/
def idxV (y : V) : List V → Option Nat
  | [] => none
  | z :: zs => if eqV z y = true then some 0 else (idxV y zs).map (· + 1)
theorem idxV_is {y : V} : ∀ {zs : List V} {j : Nat}, idxV y zs = some j → (∃ z, zs[j]? = some z ∧ eqV z y = true) ∧ ∀ (m : Nat) (z' : V), m < j → zs[m]? = some z' → eqV z' y = false
  | [], _, e => by cases e
  | z :: zs, j, e => by
    unfold idxV at e
    by_cases h : eqV z y = true
    · rw [if_pos h] at e
      cases e
      exact ⟨⟨z, rfl, h⟩, fun m z' hm => absurd hm (Nat.not_lt_zero m)⟩
    · rw [if_neg h] at e
      cases e1 : idxV y zs with
      | none => rw [e1] at e; cases e
      | some i =>
        rw [e1] at e
        cases e
        obtain ⟨⟨w, h1, h2⟩, h3⟩ := idxV_is e1
        refine ⟨⟨w, by simpa using h1, h2⟩, fun m z' hm hz => ?_⟩
        cases m with
        | zero =>
          have : z = z' := by simpa using hz
          rw [← this]
          simpa using h
        | succ m => exact h3 m z' (by have : m + 1 < i + 1 := hm; omega) (by simpa using hz)
def fIdx (ds : List D) (y : D) : Option D := match scL ds, sc y with
  | some vs, some v => (idxV v vs).map fun j => .int (j : Int)
  | _, _ => none
def mindex (a b : M D) : M D := mbind a fun x => mbind (mlift (lstOf x)) fun ds => mbind b fun y => mlift (fIdx ds y)
theorem se_index {ta tb : TE} {a b : M D} (ha : SE c E ta a) (hb : SE c E tb b) : SE c E (tBM c.K "list" (rIndex c.K) ta (tCons tb tNil)) (mindex a b) := by
  intro G0 H0 G H σ l pot rl Q post
  refine Sn.go ha rl post fun x dx p G1 H1 s1 r1 hx post1 => ?_
  obtain ⟨ds, e, post1⟩ := post_lift post1
  cases dx with
  | lst ds' =>
    cases e
    obtain ⟨q, vs, rfl, h, al⟩ := at_lst hx
    refine ⟨.inl ⟨rfl, vs, .inl (.inl (r1.stp.gh _ _ h))⟩, ?_⟩
    show tb σ H1 fun y H2 => rIndex c.K (.ref q) [y] H2 Q
    refine Sn.go hb r1 post1 fun y dy p2 G2 H2 s2 r2 hy post2 => ?_
    unfold fIdx at post2
    cases e1 : scL ds with
    | none => simp only [e1] at post2; exact post2.elim
    | some ws =>
      cases e2 : sc dy with
      | none => simp only [e1, e2] at post2; exact post2.elim
      | some v =>
        simp only [e1, e2] at post2
        cases e3 : idxV v ws with
        | none => rw [e3] at post2; exact post2.elim
        | some j =>
          rw [e3] at post2
          obtain ⟨q1, q2⟩ := scL_at al e1
          subst q1
          obtain ⟨⟨z, g1, g2⟩, g3⟩ := idxV_is e3
          rw [sc_at hy e2]
          exact ⟨q, vs, v, j, z, rfl, rfl, .inl (.inl (r2.stp.gh _ _ (s2.gg _ _ h))), sc_flat e2, q2, g1, g2, g3, Post.ok post2 r2 (.int _)⟩
  | _ => cases e
end
/-! evaluated -/
@[simp] theorem mrg_ev (a b : M D) (l : Loc) (p : List Int) : mrg a b l p = (a l p).bind fun x p' => (b l p').bind fun y p'' => mlift (fRg x y) l p'' := rfl
@[simp] theorem mrgT_ev (a b : M D) (l : Loc) (p : List Int) : mrgT a b l p = (a l p).bind fun x p' => (b l p').bind fun y p'' => mlift ((fRg x y).map D.tup) l p'' := rfl
@[simp] theorem mchain_ev (f g : D → D → Option D) (a b d : M D) (l : Loc) (p : List Int) : mchain f g a b d l p = (a l p).bind fun x p' => (b l p').bind fun y p'' => (mlift ((f x y).bind boolOf) l p'').bind fun k p3 => if k = true then (d l p3).bind fun w p4 => mlift (g y w) l p4 else .ok (.bl false) p3 := by
  unfold mchain mbind
  congr 1; funext x p'
  dsimp only
  congr 1; funext y p''
  congr 1; funext k p3
  cases k <;> rfl
@[simp] theorem mindex_ev (a b : M D) (l : Loc) (p : List Int) : mindex a b l p = (a l p).bind fun x p' => (mlift (lstOf x) l p').bind fun ds p'' => (b l p'').bind fun y p3 => mlift (fIdx ds y) l p3 := rfl
theorem fRg_int {i j : Int} (h : i.natAbs < 4611686018427387904 ∧ j.natAbs < 4611686018427387904 ∧ (j - i).toNat ≤ 1000) : fRg (.int i) (.int j) = some (rngD i (j - i).toNat) := if_pos h
end Den

/-! The shared part: what the program's and the laws' functions do, over plain data. -/
namespace PL
open PySem L2 Den
/-- where the text's own classes stand -/
structure CA where
  Web : Addr
  Heights : Addr
  Verdict : Addr
  Paper : Addr
  Plan : Addr
  FirstPlan : Addr
  SecondPlan : Addr
  Play : Addr
  Share : Addr
  Table : Addr
  TokenPlan : Addr
end PL

namespace PL
open PySem L2 Den
noncomputable section
/-! is_integer: 0 thing -/
def dn_is_integer : MS := (sret (vand (opn fIs1 (acons (mvar 0) (acons (mret (D.ty Ty.int)) anil))) (vnot (opn fIs1 (acons (mvar 0) (acons (mret (D.ty Ty.bl)) anil))))))
def D_is_integer : RF := denF 1 1 (dn_is_integer)
/-! check_whole: 0 things, 1 thing -/
def dn_check_whole : MS := (sfor (mbind (mvar 0) fun x => mlift (tupOf x)) (gset 1) (sif (mnot (mtru (mcall D_is_integer (acons (mvar 1) anil)))) (sraise 0) sskip))
def D_check_whole : RF := fun ds pot => if ds.length ≤ 1000 then denStar 2 (dn_check_whole) ds pot else .bad
/-! whole_list: 0 thing -/
def dn_whole_list : MS := (sseq (sif (mnot (mtru (opn fIs2 (acons (mvar 0) (acons (mtupd (acons (mret (D.ty Ty.lst)) (acons (mret (D.ty Ty.tup)) anil))) anil))))) (sraise 0) sskip)
    (sseq (sdrop (mstar D_check_whole (mvar 0)))
    (sret (opn fTuple (acons (mvar 0) anil)))))
def D_whole_list : RF := denF 1 1 (dn_whole_list)
/-! check_size: 0 row, 1 size -/
def dn_check_size : MS := (sif (mtest (op2 fNe (opn fLen (acons (mvar 0) anil)) (mvar 1))) (sraise 1) sskip)
def D_check_size : RF := denF 2 2 (dn_check_size)
/-! check_range: 0 number, 1 least, 2 most -/
def dn_check_range : MS := (sif (mor (mtest (op2 fLt (mvar 0) (mvar 1))) (mtest (op2 fGt (mvar 0) (mvar 2)))) (sraise 1) sskip)
def D_check_range : RF := denF 3 3 (dn_check_range)
/-! check_least: 0 number, 1 least -/
def dn_check_least : MS := (sif (mtest (op2 fLt (mvar 0) (mvar 1))) (sraise 1) sskip)
def D_check_least : RF := denF 2 2 (dn_check_least)
/-! check_most: 0 number, 1 most -/
def dn_check_most : MS := (sif (mtest (op2 fGt (mvar 0) (mvar 1))) (sraise 3) sskip)
def D_check_most : RF := denF 2 2 (dn_check_most)
/-! as_stands: 0 thing, 1 size, 2 stands, 3 stand -/
def dn_as_stands : MS := (sseq (sasg (mcall D_whole_list (acons (mvar 0) anil)) (gset 2))
    (sseq (sfor (mbind (mvar 2) fun x => mlift (tupOf x)) (gset 3) (sdrop (mcall D_check_range (acons (mvar 3) (acons (mret (D.int 0)) (acons (op2 fSub (mvar 1) (mret (D.int 1))) anil))))))
    (sret (opn fTuple (acons (op1 fSortSet (mvar 2)) anil)))))
def D_as_stands : RF := denF 2 4 (dn_as_stands)
/-! is_due: 0 due -/
def dn_is_due : MS := (sseq (sif (mtest (op2 fIsN (mvar 0) (mret D.non))) (sret (mret (D.bl true))) sskip)
    (sseq (sif (mor (mnot (mtru (opn fIs2 (acons (mvar 0) (acons (mtupd (acons (mret (D.ty Ty.lst)) (acons (mret (D.ty Ty.tup)) anil))) anil))))) (mtest (op2 fNe (opn fLen (acons (mvar 0) anil)) (mret (D.int 2))))) (sret (mret (D.bl false))) sskip)
    (sret (vand (opn fIs1 (acons (op2 fIx (mvar 0) (mret (D.int 0))) (acons (mret (D.ty Ty.str)) anil))) (mcall D_is_integer (acons (op2 fIx (mvar 0) (mret (D.int 1))) anil))))))
def D_is_due : RF := denF 1 1 (dn_is_due)
/-! due_in_range: 0 due -/
def dn_due_in_range : MS := (sret (vor (op2 fIsN (mvar 0) (mret D.non)) (vand (op2 (fInB false) (op2 fIx (mvar 0) (mret (D.int 0))) (mtupd (acons (mret (D.str "chips")) (acons (mret (D.str "less")) anil)))) (op2 fGe (op2 fIx (mvar 0) (mret (D.int 1))) (mret (D.int 0))))))
def D_due_in_range : RF := denF 1 1 (dn_due_in_range)
/-! due_too_great: 0 due -/
def dn_due_too_great : MS := (sret (vand (op2 fNotN (mvar 0) (mret D.non)) (op2 fGt (op2 fIx (mvar 0) (mret (D.int 1))) (mret (D.int 10000000000000000000000000000000000000000)))))
def D_due_too_great : RF := denF 1 1 (dn_due_too_great)
/-! check_due: 0 due -/
def dn_check_due : MS := (sif (mnot (mtru (mcall D_is_due (acons (mvar 0) anil)))) (sraise 0) sskip)
def D_check_due : RF := denF 1 1 (dn_check_due)
/-! check_kinds: 0 first, 1 second, 2 marks, 3 dues, 4 steps, 5 due -/
def dn_check_kinds : MS := (sseq (sfor (mbind (mtupd (acons (mvar 0) (acons (mvar 1) (acons (mvar 3) anil)))) fun x => mlift (tupOf x)) (gset 4) (sif (mnot (mtru (opn fIs2 (acons (mvar 4) (acons (mtupd (acons (mret (D.ty Ty.lst)) (acons (mret (D.ty Ty.tup)) anil))) anil))))) (sraise 0) sskip))
    (sseq (sfor (mbind (mtupd (astar (mvar 0) (astar (mvar 1) (acons (mvar 2) anil)))) fun x => mlift (tupOf x)) (gset 4) (sdrop (mcall D_whole_list (acons (mvar 4) anil))))
    (sfor (mbind (mvar 3) fun x => mlift (lstOf x)) (gset 5) (sdrop (mcall D_check_due (acons (mvar 5) anil))))))
def D_check_kinds : RF := denF 4 6 (dn_check_kinds)
/-! check_steps: 0 first, 1 second, 2 stand, 3 steps, 4 step -/
def dn_check_steps : MS := (sfor (mbind (acons (mvar 0) anil) fun x => mlift (enum1 x)) (gset2 2 3) (sseq (sfor (mbind (mtupd (astar (mvar 3) (astar (op2 fIx (mvar 1) (mvar 2)) anil))) fun x => mlift (tupOf x)) (gset 4) (sif (mor (mtest (op2 fLt (mvar 4) (mret (D.int 0)))) (mtest (op2 fGe (mvar 4) (opn fLen (acons (mvar 0) anil))))) (sraise 2) sskip))
    (sif (mtest (op2 fNe (opn fBool (acons (mvar 3) anil)) (opn fBool (acons (op2 fIx (mvar 1) (mvar 2)) anil)))) (sraise 2) sskip)))
def D_check_steps : RF := denF 2 5 (dn_check_steps)
/-! check_parts: 0 first, 1 second, 2 marks, 3 dues, 4 size, 5 mark, 6 due -/
def dn_check_parts : MS := (sseq (sdrop (mcall D_check_kinds (acons (mvar 0) (acons (mvar 1) (acons (mvar 2) (acons (mvar 3) anil))))))
    (sseq (sasg (opn fLen (acons (mvar 2) anil)) (gset 4))
    (sseq (sif (mor (mtest (op2 fEq (mvar 4) (mret (D.int 0)))) (mtest (op2 (fEqD true) (mfreeze (mshort (acons (opn fLen (acons (mvar 0) anil)) (acons (opn fLen (acons (mvar 1) anil)) (acons (opn fLen (acons (mvar 3) anil)) anil))))) (op2 fRep (mfreeze (mshort (acons (mvar 4) anil))) (mret (D.int 3)))))) (sraise 2) sskip)
    (sseq (sdrop (mcall D_check_steps (acons (mvar 0) (acons (mvar 1) anil))))
    (sseq (sfor (mbind (mvar 2) fun x => mlift (lstOf x)) (gset 5) (sif (mtest (op2 (fInB true) (mvar 5) (mtupd (acons (mret (D.int 1)) (acons (mret (D.int 2)) anil))))) (sraise 2) sskip))
    (sseq (sfor (mbind (mvar 3) fun x => mlift (lstOf x)) (gset 6) (sif (mnot (mtru (mcall D_due_in_range (acons (mvar 6) anil)))) (sraise 2) sskip))
    (sseq (sdrop (mcall D_check_most (acons (mvar 4) (acons (mret (D.int 60)) anil))))
    (sfor (mbind (mvar 3) fun x => mlift (lstOf x)) (gset 6) (sif (mtru (mcall D_due_too_great (acons (mvar 6) anil))) (sraise 3) sskip)))))))))
def D_check_parts : RF := denF 4 7 (dn_check_parts)
/-! Web.__init__: 0 self, 1 first, 2 second, 3 marks, 4 dues, 5 size, 6 steps, 7 due, 8 stand -/
def dn_Web_init (A : CA) : MS := (sseq (sdrop (mcall D_check_parts (acons (mvar 1) (acons (mvar 2) (acons (mvar 3) (acons (mvar 4) anil))))))
    (sseq (sasg (opn fLen (acons (mvar 3) anil)) (gset 5))
    (sseq (sfldO A.Web 0 "_size" (mvar 5))
    (sseq (sfldO A.Web 0 "_first" (opn fTuple (acons (mfreeze (mcomp (mbind (mvar 1) fun x => mlift (lstOf x)) 6 mtrue (mcall D_as_stands (acons (mvar 6) (acons (mvar 5) anil))))) anil)))
    (sseq (sfldO A.Web 0 "_second" (opn fTuple (acons (mfreeze (mcomp (mbind (mvar 2) fun x => mlift (lstOf x)) 6 mtrue (mcall D_as_stands (acons (mvar 6) (acons (mvar 5) anil))))) anil)))
    (sseq (sfldO A.Web 0 "_marks" (opn fTuple (acons (mvar 3) anil)))
    (sseq (sfldO A.Web 0 "_dues" (opn fTuple (acons (mfreeze (mcomp (mbind (mvar 4) fun x => mlift (lstOf x)) 7 mtrue (mif (mtest (op2 fIsN (mvar 7) (mret D.non))) (mret D.non) (opn fTuple (acons (mvar 7) anil))))) anil)))
    (sseq (sfldO A.Web 0 "_ends" (opn fTuple (acons (mfreeze (mcomp (mbind (acons (mvar 5) anil) fun x => mlift (rng1 x)) 8 (mnot (mtru (op2 fIx (mvar 1) (mvar 8)))) (mvar 8))) anil)))
    (sseq (sfldO A.Web 0 "_moving" (opn fTuple (acons (mfreeze (mcomp (mbind (acons (mvar 5) anil) fun x => mlift (rng1 x)) 8 (mtru (op2 fIx (mvar 1) (mvar 8))) (mvar 8))) anil)))
    (sseq (sfldO A.Web 0 "_greatest_due" (opn fMaxL (acons (mfreeze (mcomp (mbind (mvar 4) fun x => mlift (lstOf x)) 7 mtrue (mif (mtest (op2 fIsN (mvar 7) (mret D.non))) (mret (D.int 0)) (op2 fIx (mvar 7) (mret (D.int 1)))))) anil)))
    (sfldO A.Web 0 "_even" (op2 (fEqD false) (mfldO A.Web 0 "_first") (mfldO A.Web 0 "_second")))))))))))))
/-! the webs of the law, as plain lists -/
abbrev Due := Option (Bool × Int)
structure Wb where
  first : List (List Int)
  second : List (List Int)
  marks : List Int
  dues : List Due
def dI (ns : List Int) : D := .lst (ns.map .int)
def dDue : Due → D
  | none => .non
  | some (true, x) => .tup [.str "chips", .int x]
  | some (false, x) => .tup [.str "less", .int x]
def encW (wb : Wb) : List D := [.lst (wb.first.map dI), .lst (wb.second.map dI), dI wb.marks, .lst (wb.dues.map dDue)]
structure Valid (wb : Wb) : Prop where
  n1 : 1 ≤ wb.marks.length
  n2 : wb.marks.length ≤ 60
  l1 : wb.first.length = wb.marks.length
  l2 : wb.second.length = wb.marks.length
  l3 : wb.dues.length = wb.marks.length
  s1 : ∀ ss ∈ wb.first, ss.length < 60 ∧ ∀ x ∈ ss, 0 ≤ x ∧ x < (wb.marks.length : Int)
  s2 : ∀ ss ∈ wb.second, ss.length < 60 ∧ ∀ x ∈ ss, 0 ≤ x ∧ x < (wb.marks.length : Int)
  both : ∀ (i : Nat) (a b : List Int), wb.first[i]? = some a → wb.second[i]? = some b → a.isEmpty = b.isEmpty
  mks : ∀ m ∈ wb.marks, m = 1 ∨ m = 2
  du : ∀ d ∈ wb.dues, ∀ b x, d = some (b, x) → 0 ≤ x ∧ x ≤ 1000
def dS (ss : List Int) : D := .tup ((sortSet ss).map .int)
def moves (wb : Wb) (d : D) : Bool := match (fIx (.lst (wb.first.map dI)) d).bind truOf with
  | some b => b
  | none => false
def gdI : Due → Int
  | none => 0
  | some (_, x) => x
def gdD (wb : Wb) : D := match wb.dues.map gdI with
  | [] => .non
  | n :: ns => .int (maxL n ns)
def evB (wb : Wb) : Bool := match pd (.tup (wb.first.map dS)), pd (.tup (wb.second.map dS)) with
  | some a, some b => PyData.eqv a b
  | _, _ => false
def wnames : List Str := ["_size", "_first", "_second", "_marks", "_dues", "_ends", "_moving", "_greatest_due", "_even"]
def wfields (wb : Wb) : List D := [.int wb.marks.length, .tup (wb.first.map dS), .tup (wb.second.map dS), .tup (wb.marks.map .int), .tup (wb.dues.map dDue), .tup ((rngD 0 wb.marks.length).filter fun d => !moves wb d), .tup ((rngD 0 wb.marks.length).filter fun d => moves wb d), gdD wb, .bl (evB wb)]
open Classical in
def D_Web_init (_ : CA) : RI := fun ds pot => if h : ∃ wb, Valid wb ∧ ds = encW wb then .ok (wnames, wfields (choose h)) pot else .bad

/-! check_web: 0 thing -/
def dn_check_web (A : CA) : MS := (sif (mnot (mtru (opn (fIsC A.Web) (acons (mvar 0) (acons (mret (D.cls A.Web)) anil))))) (sraise 0) sskip)
def D_check_web (A : CA) : RF := denF 1 1 (dn_check_web A)
/-! check_stand: 0 web, 1 stand -/
def dn_check_stand (A : CA) : MS := (sdrop (mcall D_check_range (acons (mvar 1) (acons (mret (D.int 0)) (acons (op2 fSub (mfld A.Web "_size" (mvar 0)) (mret (D.int 1))) anil)))))
def D_check_stand (A : CA) : RF := denF 2 2 (dn_check_stand A)
/-! check_moving: 0 web, 1 stand -/
def dn_check_moving (A : CA) : MS := (sif (mnot (mtru (op2 fIx (mfld A.Web "_first" (mvar 0)) (mvar 1)))) (sraise 2) sskip)
def D_check_moving (A : CA) : RF := denF 2 2 (dn_check_moving A)
/-! half_of: 0 mark, 1 x, 2 y -/
def dn_half_of : MS := (sseq (sif (mtest (op2 fEq (mvar 0) (mret (D.int 1)))) (sret (op2 fDiv (op2 fAdd (mvar 1) (opn fMax2 (acons (mvar 1) (acons (mvar 2) anil)))) (mret (D.int 2)))) sskip)
    (sret (op2 fDiv (op2 fAdd (op2 fAdd (opn fMin2 (acons (mvar 1) (acons (mvar 2) anil))) (mvar 2)) (mret (D.int 1))) (mret (D.int 2)))))
def D_half_of : RF := denF 3 3 (dn_half_of)
/-! low_of: 0 web, 1 row, 2 stand, 3 step -/
def dn_low_of (A : CA) : MS := (sret (opn fMinL (acons (mfreeze (mcomp (mbind (op2 fIx (mfld A.Web "_first" (mvar 0)) (mvar 2)) fun x => mlift (tupOf x)) 3 mtrue (op2 fIx (mvar 1) (mvar 3)))) anil)))
def D_low_of (A : CA) : RF := denF 3 4 (dn_low_of A)
/-! high_of: 0 web, 1 row, 2 stand, 3 step -/
def dn_high_of (A : CA) : MS := (sret (opn fMaxL (acons (mfreeze (mcomp (mbind (op2 fIx (mfld A.Web "_second" (mvar 0)) (mvar 2)) fun x => mlift (tupOf x)) 3 mtrue (op2 fIx (mvar 1) (mvar 3)))) anil)))
def D_high_of (A : CA) : RF := denF 3 4 (dn_high_of A)
/-! price_of: 0 web, 1 k, 2 row, 3 stand -/
def dn_price_of (A : CA) : MS := (sseq (sif (mnot (mtru (op2 fIx (mfld A.Web "_first" (mvar 0)) (mvar 3)))) (sret (op2 fAdd (mvar 1) (mret (D.int 1)))) sskip)
    (sret (mcall D_half_of (acons (op2 fIx (mfld A.Web "_marks" (mvar 0)) (mvar 3)) (acons (mcall (D_low_of A) (acons (mvar 0) (acons (mvar 2) (acons (mvar 3) anil)))) (acons (mcall (D_high_of A) (acons (mvar 0) (acons (mvar 2) (acons (mvar 3) anil)))) anil))))))
def D_price_of (A : CA) : RF := denF 4 4 (dn_price_of A)
/-! check_steps_at: 0 web, 1 row, 2 stand -/
def dn_check_steps_at (A : CA) : MS := (sseq (sdrop (mcall (D_check_web A) (acons (mvar 0) anil)))
    (sseq (sdrop (mcall D_whole_list (acons (mvar 1) anil)))
    (sseq (sdrop (mcall D_check_whole (acons (mvar 2) anil)))
    (sseq (sdrop (mcall D_check_size (acons (mvar 1) (acons (mfld A.Web "_size" (mvar 0)) anil))))
    (sseq (sdrop (mcall (D_check_stand A) (acons (mvar 0) (acons (mvar 2) anil))))
    (sdrop (mcall (D_check_moving A) (acons (mvar 0) (acons (mvar 2) anil)))))))))
def D_check_steps_at (A : CA) : RF := denF 3 3 (dn_check_steps_at A)
/-! low: 0 web, 1 row, 2 stand -/
def dn_low (A : CA) : MS := (sseq (sdrop (mcall (D_check_steps_at A) (acons (mvar 0) (acons (mvar 1) (acons (mvar 2) anil)))))
    (sret (mcall (D_low_of A) (acons (mvar 0) (acons (mvar 1) (acons (mvar 2) anil))))))
def D_low (A : CA) : RF := denF 3 3 (dn_low A)
/-! high: 0 web, 1 row, 2 stand -/
def dn_high (A : CA) : MS := (sseq (sdrop (mcall (D_check_steps_at A) (acons (mvar 0) (acons (mvar 1) (acons (mvar 2) anil)))))
    (sret (mcall (D_high_of A) (acons (mvar 0) (acons (mvar 1) (acons (mvar 2) anil))))))
def D_high (A : CA) : RF := denF 3 3 (dn_high A)
/-! price: 0 web, 1 k, 2 row, 3 stand -/
def dn_price (A : CA) : MS := (sseq (sdrop (mcall (D_check_web A) (acons (mvar 0) anil)))
    (sseq (sdrop (mcall D_check_whole (acons (mvar 1) (acons (mvar 3) anil))))
    (sseq (sdrop (mcall D_whole_list (acons (mvar 2) anil)))
    (sseq (sdrop (mcall D_check_least (acons (mvar 1) (acons (mret (D.int 0)) anil))))
    (sseq (sdrop (mcall D_check_size (acons (mvar 2) (acons (mfld A.Web "_size" (mvar 0)) anil))))
    (sseq (sdrop (mcall (D_check_stand A) (acons (mvar 0) (acons (mvar 3) anil))))
    (sseq (sdrop (mcall D_check_most (acons (mvar 1) (acons (mret (D.int 10000000000000000000000000000000000000000)) anil))))
    (sret (mcall (D_price_of A) (acons (mvar 0) (acons (mvar 1) (acons (mvar 2) (acons (mvar 3) anil)))))))))))))
def D_price (A : CA) : RF := denF 4 4 (dn_price A)
/-! _law_draw: 0 _law_pot_here, 1 _law_many -/
def dn_law_draw : MS := (sseq (sif (mtest (op2 fEq (mlenp (mvar 0)) (mret (D.int 0)))) (sret (mret (D.int 0))) sskip)
    (sret (op2 fMod (opn fInt (acons (mpop (mvar 0)) anil)) (mvar 1))))
def D_law_draw : RF := denF 2 2 (dn_law_draw)
/-! _law_lot: 0 _law_pot_here, 1 _law_size, 2 _law_lot_here, 3 _law_turn, 4 _law_step -/
def dn_law_lot : MS := (sseq (sown (mshort (acons (mcall D_law_draw (acons (mvar 0) (acons (mvar 1) anil))) anil)) 2)
    (sseq (sfor (mbind (acons (mcall D_law_draw (acons (mvar 0) (acons (mret (D.int 3)) anil))) anil) fun x => mlift (rng1 x)) (gset 3) (sseq (sasg (mcall D_law_draw (acons (mvar 0) (acons (mvar 1) anil))) (gset 4))
    (sif (mtest (minc true (mvar 4) 2)) (sappend 2 (mvar 4)) sskip)))
    (sgive 2 (sret (mvar 2)))))
def D_law_lot : RF := denF 2 5 (dn_law_lot)
/-! _law_due: 0 _law_pot_here, 1 _law_word -/
def dn_law_due : MS := (sseq (sasg (mcall D_law_draw (acons (mvar 0) (acons (mret (D.int 6)) anil))) (gset 1))
    (sseq (sif (mtest (op2 fLe (mvar 1) (mret (D.int 2)))) (sret (mtupd (acons (mret (D.str "chips")) (acons (mret (D.int 0)) anil)))) sskip)
    (sseq (sif (mtest (op2 fEq (mvar 1) (mret (D.int 3)))) (sret (mtupd (acons (mret (D.str "chips")) (acons (op2 fAdd (mret (D.int 1)) (mcall D_law_draw (acons (mvar 0) (acons (mret (D.int 4)) anil)))) anil)))) sskip)
    (sseq (sif (mtest (op2 fEq (mvar 1) (mret (D.int 4)))) (sret (mtupd (acons (mret (D.str "less")) (acons (op2 fAdd (mret (D.int 1)) (mcall D_law_draw (acons (mvar 0) (acons (mret (D.int 3)) anil)))) anil)))) sskip)
    (sret (mret D.non))))))
def D_law_due : RF := denF 1 2 (dn_law_due)
/-! _law_marks: 0 _law_pot_here, 1 _law_size, 2 _law_style, 3 _law_stand -/
def dn_law_marks : MS := (sseq (sasg (mcall D_law_draw (acons (mvar 0) (acons (mret (D.int 4)) anil))) (gset 2))
    (sseq (sif (mtest (op2 fLe (mvar 2) (mret (D.int 1)))) (sret (mfreeze (mcomp (mbind (acons (mvar 1) anil) fun x => mlift (rng1 x)) 3 mtrue (op2 fAdd (mret (D.int 1)) (mvar 2))))) sskip)
    (sret (mfreeze (mcomp (mbind (acons (mvar 1) anil) fun x => mlift (rng1 x)) 3 mtrue (op2 fAdd (mret (D.int 1)) (mcall D_law_draw (acons (mvar 0) (acons (mret (D.int 2)) anil)))))))))
def D_law_marks : RF := denF 2 4 (dn_law_marks)
/-! _law_path: 0 _law_size, 1 _law_lots, 2 _law_stand, 3 _law_low, 4 _law_high -/
def dn_law_path : MS := (sseq (sown (mshort (acons (mfreeze (mshort anil)) (acons (mfreeze (mshort anil)) anil))) 1)
    (sseq (sfor (mbind (acons (mret (D.int 2)) (acons (mvar 0) anil)) fun x => mlift (rng2 x)) (gset 2) (sseq (sasg (op2 fSub (mvar 2) (mret (D.int 1))) (gset 3))
    (sseq (sif (mtest (op2 fEq (mvar 2) (mret (D.int 2)))) (sasg (mret (D.int 0)) (gset 3)) sskip)
    (sseq (sasg (op2 fAdd (mvar 2) (mret (D.int 1))) (gset 4))
    (sseq (sif (mtest (op2 fEq (mvar 2) (op2 fSub (mvar 0) (mret (D.int 1))))) (sasg (mret (D.int 1)) (gset 4)) sskip)
    (sappend 1 (mfreeze (mshort (acons (mvar 3) (acons (mvar 4) anil))))))))))
    (sgive 1 (sret (mvar 1)))))
def D_law_path : RF := denF 1 5 (dn_law_path)
/-! _law_web: 0 _law_pot_here, 1 _law_most, 2 _law_even, 3 _law_size, 4 _law_shape, 5 _law_first, 6 _law_dues, 7 _law_stand, 8 _law_second, 9 _law_lot_here, 10 _law_is_end, 11 _law_due_here -/
def dn_law_web : MS := (sseq (sasg (opn fMin2 (acons (mvar 1) (acons (op2 fIx (mfreeze (mshort (acons (mret (D.int 4)) (acons (mret (D.int 3)) (acons (mret (D.int 5)) (acons (mret (D.int 4)) (acons (mret (D.int 6)) (acons (mret (D.int 2)) (acons (mret (D.int 5)) (acons (mret (D.int 3)) (acons (mret (D.int 7)) (acons (mret (D.int 1)) anil)))))))))))) (mcall D_law_draw (acons (mvar 0) (acons (mret (D.int 10)) anil)))) anil))) (gset 3))
    (sseq (sasg (mcall D_law_draw (acons (mvar 0) (acons (mret (D.int 5)) anil))) (gset 4))
    (sseq (sown (mshort anil) 5)
    (sseq (sown (mshort anil) 6)
    (sseq (sif (mand (mtest (op2 fEq (mvar 4) (mret (D.int 0)))) (mtest (op2 fGe (mvar 3) (mret (D.int 2))))) (sseq (sasg (mcall D_law_path (acons (mvar 3) anil)) (gset 5))
    (sseq (sasg (op2 fCat (mfreeze (mshort (acons (mtupd (acons (mret (D.str "chips")) (acons (mret (D.int 0)) anil))) anil))) (mfreeze (mcomp (mbind (acons (op2 fSub (mvar 3) (mret (D.int 1))) anil) fun x => mlift (rng1 x)) 7 mtrue (mret D.non)))) (gset 6))
    (sgive 5 (sown (mcomp (mbind (mvar 5) fun x => mlift (lstOf x)) 9 mtrue (mfreeze (mlistN (acons (mvar 9) anil)))) 8)))) (sseq (sown (mshort anil) 8)
    (sfor (mbind (acons (mvar 3) anil) fun x => mlift (rng1 x)) (gset 7) (sseq (sasg (vand (op2 fEq (mvar 7) (mret (D.int 0))) (op2 fNe (mvar 4) (mret (D.int 4)))) (gset 10))
    (sseq (sif (mand (mtest (op2 fEq (mvar 7) (mret (D.int 1)))) (mtest (op2 fNe (mvar 4) (mret (D.int 3))))) (sasg (mret (D.bl true)) (gset 10)) sskip)
    (sseq (sif (mand (mtest (op2 fGe (mvar 7) (mret (D.int 2)))) (mtest (op2 fEq (mcall D_law_draw (acons (mvar 0) (acons (mret (D.int 8)) anil))) (mret (D.int 7))))) (sasg (mret (D.bl true)) (gset 10)) sskip)
    (sseq (sif (mtru (mvar 10)) (sseq (sappend 5 (mfreeze (mshort anil)))
    (sappend 8 (mfreeze (mshort anil)))) (sseq (sasg (mcall D_law_lot (acons (mvar 0) (acons (mvar 3) anil))) (gset 9))
    (sseq (sappend 5 (mvar 9))
    (sif (mor (mtru (mvar 2)) (mtest (op2 fEq (mcall D_law_draw (acons (mvar 0) (acons (mret (D.int 2)) anil))) (mret (D.int 0))))) (sappend 8 (mfreeze (mlistN (acons (mvar 9) anil)))) (sappend 8 (mcall D_law_lot (acons (mvar 0) (acons (mvar 3) anil))))))))
    (sseq (sasg (mret D.non) (gset 11))
    (sseq (sif (mor (mtest (op2 fEq (mvar 7) (mret (D.int 0)))) (mand (mtru (mvar 10)) (mtest (op2 fGe (mvar 7) (mret (D.int 2)))))) (sasg (mcall D_law_due (acons (mvar 0) anil)) (gset 11)) (sif (mand (mnot (mtru (mvar 10))) (mtest (op2 fEq (mcall D_law_draw (acons (mvar 0) (acons (mret (D.int 8)) anil))) (mret (D.int 7))))) (sasg (mcall D_law_due (acons (mvar 0) anil)) (gset 11)) sskip))
    (sappend 6 (mvar 11)))))))))))
    (sgive 8 (sgive 5 (sgive 6 (sret (mfreeze (mshort (acons (mvar 5) (acons (mvar 8) (acons (mcall D_law_marks (acons (mvar 0) (acons (mvar 3) anil))) (acons (mvar 6) anil)))))))))))))))
def D_law_web : RF := denF 3 12 (dn_law_web)
/-! _law_built: 0 _law_web_here, 1 _law_lot_here -/
def dn_law_built (A : CA) : MS := (sret (mmake A.Web (D_Web_init A) (acons (mfreeze (mcomp (mbind (op2 fIx (mvar 0) (mret (D.int 0))) fun x => mlift (lstOf x)) 1 mtrue (mfreeze (mlistN (acons (mvar 1) anil))))) (acons (mfreeze (mcomp (mbind (op2 fIx (mvar 0) (mret (D.int 1))) fun x => mlift (lstOf x)) 1 mtrue (mfreeze (mlistN (acons (mvar 1) anil))))) (acons (mfreeze (mlistN (acons (op2 fIx (mvar 0) (mret (D.int 2))) anil))) (acons (mfreeze (mlistN (acons (op2 fIx (mvar 0) (mret (D.int 3))) anil))) anil))))))
def D_law_built (A : CA) : RF := denF 1 2 (dn_law_built A)
/-! _law_good: 0 _law_web_here, 1 _law_row, 2 _law_stand, 3 _law_purse, 4 _law_p, 5 _law_q, 6 _law_step -/
def dn_law_good : MS := (sseq (sif (mor (mtest (op2 fGt (mvar 4) (mvar 5))) (mand (mtest (op2 fEq (mvar 4) (mvar 5))) (mtest (op2 fEq (op2 fIx (op2 fIx (mvar 0) (mret (D.int 2))) (mvar 2)) (mret (D.int 1)))))) (sret (op2 fGt (opn fLen (acons (mfreeze (mcomp (mbind (op2 fIx (op2 fIx (mvar 0) (mret (D.int 0))) (mvar 2)) fun x => mlift (lstOf x)) 6 (mtest (op2 fGe (op2 fSub (mvar 3) (mvar 4)) (op2 fIx (mvar 1) (mvar 6)))) (mvar 6))) anil)) (mret (D.int 0)))) sskip)
    (sret (op2 fEq (opn fLen (acons (mfreeze (mcomp (mbind (op2 fIx (op2 fIx (mvar 0) (mret (D.int 1))) (mvar 2)) fun x => mlift (lstOf x)) 6 (mtest (op2 fLt (op2 fAdd (mvar 3) (mvar 5)) (op2 fIx (mvar 1) (mvar 6)))) (mvar 6))) anil)) (mret (D.int 0)))))
def D_law_good : RF := denF 6 7 (dn_law_good)
/-! _law_least: 0 _law_web_here, 1 _law_k, 2 _law_row, 3 _law_stand, 4 _law_purse, 5 _law_p, 6 _law_bad, 7 _law_q -/
def dn_law_least : MS := (sseq (sif (mtest (op2 fGt (opn fLen (acons (op2 fIx (op2 fIx (mvar 0) (mret (D.int 0))) (mvar 3)) anil)) (mret (D.int 0)))) (sfor (mbind (acons (op2 fAdd (mvar 1) (mret (D.int 1))) anil) fun x => mlift (rng1 x)) (gset 4) (sfor (mbind (acons (op2 fAdd (mvar 4) (mret (D.int 1))) anil) fun x => mlift (rng1 x)) (gset 5) (sseq (sasg (mfreeze (mcomp (mbind (acons (op2 fAdd (op2 fSub (mvar 1) (mvar 4)) (mret (D.int 1))) anil) fun x => mlift (rng1 x)) 7 (mnot (mtru (mcall D_law_good (acons (mvar 0) (acons (mvar 2) (acons (mvar 3) (acons (mvar 4) (acons (mvar 5) (acons (mvar 7) anil))))))))) (mvar 7))) (gset 6))
    (sif (mtest (op2 fEq (opn fLen (acons (mvar 6) anil)) (mret (D.int 0)))) (sret (mvar 4)) sskip)))) sskip)
    (sret (op2 fAdd (mvar 1) (mret (D.int 1)))))
def D_law_least : RF := denF 4 8 (dn_law_least)
/-! _law_refused: 0 _law_built_here, 1 _law_k, 2 _law_row, 3 _law_stand, 4 _law_way, 5 _law_code -/
def dn_law_refused (A : CA) : MS := (sseq (sasg (mret (D.int 0)) (gset 5))
    (sseq (stry (sif (mtest (op2 fEq (mvar 4) (mret (D.int 1)))) (sdrop (mcall (D_low A) (acons (mvar 0) (acons (mvar 2) (acons (mvar 3) anil))))) (sif (mtest (op2 fEq (mvar 4) (mret (D.int 2)))) (sdrop (mcall (D_high A) (acons (mvar 0) (acons (mvar 2) (acons (mvar 3) anil))))) (sdrop (mcall (D_price A) (acons (mvar 0) (acons (mvar 1) (acons (mvar 2) (acons (mvar 3) anil)))))))) [(0, (sasg (mret (D.int 1)) (gset 5))), (1, (sasg (mret (D.int 2)) (gset 5))), (2, (sasg (mret (D.int 3)) (gset 5))), (3, (sasg (mret (D.int 4)) (gset 5)))])
    (sret (mvar 5))))
def D_law_refused (A : CA) : RF := denF 5 6 (dn_law_refused A)
/-! _law_refusals: 0 _law_built_here, 1 _law_k, 2 _law_row, 3 _law_stand, 4 _law_size, 5 _law_way -/
def dn_law_refusals (A : CA) : MS := (sseq (sif (mor (mtest (op2 fNe (mcall (D_law_refused A) (acons (mvar 0) (acons (mvar 1) (acons (op2 fCat (mvar 2) (mfreeze (mshort (acons (mret (D.int 0)) anil)))) (acons (mvar 3) (acons (mret (D.int 0)) anil)))))) (mret (D.int 2)))) (mtest (op2 fNe (mcall (D_law_refused A) (acons (mvar 0) (acons (mvar 1) (acons (mfreeze (mcut (mvar 2) (osome (mret (D.int 1))) onone)) (acons (mret (D.int 0)) (acons (mret (D.int 1)) anil)))))) (mret (D.int 2))))) (sret (mret (D.bl false))) sskip)
    (sseq (sif (mor (mtest (op2 fNe (mcall (D_law_refused A) (acons (mvar 0) (acons (mvar 1) (acons (op2 fCat (mvar 2) (mfreeze (mshort (acons (mret (D.int 0)) anil)))) (acons (mret (D.int 0)) (acons (mret (D.int 2)) anil)))))) (mret (D.int 2)))) (mtest (op2 fNe (mcall (D_law_refused A) (acons (mvar 0) (acons (mvar 1) (acons (mvar 2) (acons (mvar 4) (acons (mret (D.int 2)) anil)))))) (mret (D.int 2))))) (sret (mret (D.bl false))) sskip)
    (sseq (sfor (mbind (acons (mret (D.int 3)) anil) fun x => mlift (rng1 x)) (gset 5) (sseq (sif (mor (mtest (op2 fNe (mcall (D_law_refused A) (acons (mvar 0) (acons (mvar 1) (acons (mvar 2) (acons (mvar 4) (acons (mvar 5) anil)))))) (mret (D.int 2)))) (mtest (op2 fNe (mcall (D_law_refused A) (acons (mvar 0) (acons (mvar 1) (acons (mvar 2) (acons (op2 fSub (mret (D.int 0)) (mret (D.int 1))) (acons (mvar 5) anil)))))) (mret (D.int 2))))) (sret (mret (D.bl false))) sskip)
    (sif (mor (mtest (op2 fNe (mcall (D_law_refused A) (acons (mvar 0) (acons (mvar 1) (acons (op2 fCat (mfreeze (mshort (acons (mret D.non) anil))) (mfreeze (mcut (mvar 2) (osome (mret (D.int 1))) onone))) (acons (mvar 4) (acons (mvar 5) anil)))))) (mret (D.int 1)))) (mtest (op2 fNe (mcall (D_law_refused A) (acons (mfreeze (mshort anil)) (acons (mvar 1) (acons (mvar 2) (acons (mvar 3) (acons (mvar 5) anil)))))) (mret (D.int 1))))) (sret (mret (D.bl false))) sskip)))
    (sseq (sif (mor (mtest (op2 fNe (mcall (D_law_refused A) (acons (mvar 0) (acons (op2 fSub (mret (D.int 0)) (mret (D.int 1))) (acons (mvar 2) (acons (mvar 3) (acons (mret (D.int 0)) anil)))))) (mret (D.int 2)))) (mtest (op2 fNe (mcall (D_law_refused A) (acons (mvar 0) (acons (mret (D.bl true)) (acons (mvar 2) (acons (mvar 4) (acons (mret (D.int 0)) anil)))))) (mret (D.int 1))))) (sret (mret (D.bl false))) sskip)
    (sseq (sif (mor (mtest (op2 fNe (mcall (D_law_refused A) (acons (mvar 0) (acons (op2 fAdd (op2 fPow (mret (D.int 10)) (mret (D.int 40))) (mret (D.int 1))) (acons (mvar 2) (acons (mvar 3) (acons (mret (D.int 0)) anil)))))) (mret (D.int 4)))) (mtest (op2 fNe (mcall (D_law_refused A) (acons (mvar 0) (acons (op2 fPow (mret (D.int 10)) (mret (D.int 40))) (acons (mvar 2) (acons (mvar 3) (acons (mret (D.int 0)) anil)))))) (mret (D.int 0))))) (sret (mret (D.bl false))) sskip)
    (sret (op2 fEq (mcall (D_law_refused A) (acons (mvar 0) (acons (mvar 1) (acons (opn fStr (acons (mvar 1) anil)) (acons (mvar 3) (acons (mret (D.int 0)) anil)))))) (mret (D.int 1)))))))))
def D_law_refusals (A : CA) : RF := denF 5 6 (dn_law_refusals A)
/-! law: 0 _law_script, 1 _law_pot_here, 2 _law_web_here, 3 _law_size, 4 _law_k, 5 _law_row, 6 _law_stand, 7 _law_moved, 8 _law_far, 9 _law_part, 10 _law_built_here, 11 _law_handed, 12 _law_told, 13 _law_least_here, 14 _law_step, 15 _law_most -/
def dn_law (A : CA) : MS := (sseq (sasg (mcall D_law_web (acons (mvar 1) (acons (mret (D.int 6)) (acons (mret (D.bl false)) anil)))) (gset 2))
    (sseq (sasg (opn fLen (acons (op2 fIx (mvar 2) (mret (D.int 0))) anil)) (gset 3))
    (sseq (sasg (mcall D_law_draw (acons (mvar 1) (acons (mret (D.int 7)) anil))) (gset 4))
    (sseq (sasg (mfreeze (mcomp (mbind (acons (mvar 3) anil) fun x => mlift (rng1 x)) 6 mtrue (mcall D_law_draw (acons (mvar 1) (acons (op2 fAdd (mvar 4) (mret (D.int 2))) anil))))) (gset 5))
    (sseq (sasg (op2 fSub (op2 fMul (mcall D_law_draw (acons (mvar 1) (acons (mret (D.int 30)) anil))) (op2 fPow (mret (D.int 10)) (mret (D.int 20)))) (mret (D.int 7))) (gset 7))
    (sseq (sasg (mfreeze (mcomp (mbind (mvar 5) fun x => mlift (lstOf x)) 9 mtrue (op2 fAdd (mvar 9) (mvar 7)))) (gset 8))
    (sseq (sasg (mcall (D_law_built A) (acons (mvar 2) anil)) (gset 10))
    (sseq (sasg (mfreeze (mlistN (acons (mvar 5) anil))) (gset 11))
    (sseq (sfor (mbind (acons (mvar 3) anil) fun x => mlift (rng1 x)) (gset 6) (sseq (sasg (mcall (D_price A) (acons (mvar 10) (acons (mvar 4) (acons (mvar 11) (acons (mvar 6) anil))))) (gset 12))
    (sseq (sif (mor (mnot (mtru (mcall D_is_integer (acons (mvar 12) anil)))) (mtest (op2 fNe (mvar 12) (mcall D_law_least (acons (mvar 2) (acons (mvar 4) (acons (mvar 5) (acons (mvar 6) anil)))))))) (sret (mret (D.bl false))) sskip)
    (sseq (sif (mor (mtest (op2 fNe (mcall (D_price A) (acons (mvar 10) (acons (mvar 4) (acons (opn fTuple (acons (mvar 5) anil)) (acons (mvar 6) anil))))) (mvar 12))) (mtest (op2 (fEqD true) (mvar 11) (mvar 5)))) (sret (mret (D.bl false))) sskip)
    (sif (mtest (op2 fEq (opn fLen (acons (op2 fIx (op2 fIx (mvar 2) (mret (D.int 0))) (mvar 6)) anil)) (mret (D.int 0)))) (sseq (sif (mor (mtest (op2 fNe (mcall (D_price A) (acons (mvar 10) (acons (mvar 4) (acons (mvar 8) (acons (mvar 6) anil))))) (op2 fAdd (mvar 4) (mret (D.int 1))))) (mtest (op2 fNe (mcall (D_law_refused A) (acons (mvar 10) (acons (mvar 4) (acons (mvar 5) (acons (mvar 6) (acons (mret (D.int 1)) anil)))))) (mret (D.int 3))))) (sret (mret (D.bl false))) sskip)
    (sif (mtest (op2 fNe (mcall (D_law_refused A) (acons (mvar 10) (acons (mvar 4) (acons (mvar 5) (acons (mvar 6) (acons (mret (D.int 2)) anil)))))) (mret (D.int 3)))) (sret (mret (D.bl false))) sskip)) (sseq (sif (mtest (op2 fNe (mcall (D_price A) (acons (mvar 10) (acons (mvar 4) (acons (mvar 8) (acons (mvar 6) anil))))) (op2 fAdd (mvar 12) (mvar 7)))) (sret (mret (D.bl false))) sskip)
    (sseq (sasg (opn fMinL (acons (mfreeze (mcomp (mbind (op2 fIx (op2 fIx (mvar 2) (mret (D.int 0))) (mvar 6)) fun x => mlift (lstOf x)) 14 mtrue (op2 fIx (mvar 5) (mvar 14)))) anil)) (gset 13))
    (sseq (sasg (opn fMaxL (acons (mfreeze (mcomp (mbind (op2 fIx (op2 fIx (mvar 2) (mret (D.int 1))) (mvar 6)) fun x => mlift (lstOf x)) 14 mtrue (op2 fIx (mvar 5) (mvar 14)))) anil)) (gset 15))
    (sseq (sif (mor (mtest (op2 fNe (mcall (D_low A) (acons (mvar 10) (acons (mvar 5) (acons (mvar 6) anil)))) (mvar 13))) (mtest (op2 fNe (mcall (D_high A) (acons (mvar 10) (acons (mvar 8) (acons (mvar 6) anil)))) (op2 fAdd (mvar 15) (mvar 7))))) (sret (mret (D.bl false))) sskip)
    (sif (mor (mnot (mtru (mcall D_is_integer (acons (mcall (D_low A) (acons (mvar 10) (acons (mvar 5) (acons (mvar 6) anil)))) anil)))) (mnot (mtru (mcall D_is_integer (acons (mcall (D_high A) (acons (mvar 10) (acons (mvar 8) (acons (mvar 6) anil)))) anil))))) (sret (mret (D.bl false))) sskip))))))))))
    (sret (mcall (D_law_refusals A) (acons (mvar 10) (acons (mvar 4) (acons (mvar 5) (acons (mcall D_law_draw (acons (mvar 1) (acons (mvar 3) anil))) (acons (mvar 3) anil))))))))))))))))
end
end PL

namespace K05
open PySem L2 Den PL
def top (i : Nat) : Stmt := PySem.Challenge.pw_pursewebs_k05_price_is_the_least_purse_t.main.body.getD i (.Pass ⟨0, 0, 0, 0⟩)
abbrev s_is_integer : Stmt := top 9
abbrev s_check_whole : Stmt := top 10
abbrev s_whole_list : Stmt := top 11
abbrev s_check_size : Stmt := top 12
abbrev s_check_range : Stmt := top 13
abbrev s_check_least : Stmt := top 14
abbrev s_check_most : Stmt := top 15
abbrev s_as_stands : Stmt := top 16
abbrev s_is_due : Stmt := top 18
abbrev s_due_in_range : Stmt := top 19
abbrev s_due_too_great : Stmt := top 20
abbrev s_check_due : Stmt := top 21
abbrev s_check_kinds : Stmt := top 25
abbrev s_check_steps : Stmt := top 26
abbrev s_check_parts : Stmt := top 24
abbrev s_Web_init : Stmt := inClass (top 28) 0
abbrev s_check_web : Stmt := top 29
abbrev s_check_stand : Stmt := top 31
abbrev s_check_moving : Stmt := top 32
abbrev s_half_of : Stmt := top 34
abbrev s_low_of : Stmt := top 36
abbrev s_high_of : Stmt := top 37
abbrev s_price_of : Stmt := top 38
abbrev s_check_steps_at : Stmt := top 39
abbrev s_low : Stmt := top 40
abbrev s_high : Stmt := top 41
abbrev s_price : Stmt := top 42
abbrev s_law_draw : Stmt := top 45
abbrev s_law_whole : Stmt := top 46
abbrev s_law_lot : Stmt := top 47
abbrev s_law_due : Stmt := top 48
abbrev s_law_marks : Stmt := top 49
abbrev s_law_path : Stmt := top 50
abbrev s_law_web : Stmt := top 51
abbrev s_law_built : Stmt := top 52
abbrev s_law_good : Stmt := top 53
abbrev s_law_least : Stmt := top 54
abbrev s_law_refused : Stmt := top 55
abbrev s_law_refusals : Stmt := top 56
abbrev s_law : Stmt := top 57
abbrev s_law_pot : Stmt := top 44
abbrev s_Web_first : Stmt := inClass (top 28) 2
abbrev s_Web_marks : Stmt := inClass (top 28) 4
abbrev s_Web_second : Stmt := inClass (top 28) 3
abbrev s_Web_size : Stmt := inClass (top 28) 1
structure Adr where
  ca : CA
  is_integer : Addr
  fd_is_integer : FuncData
  check_whole : Addr
  fd_check_whole : FuncData
  whole_list : Addr
  fd_whole_list : FuncData
  check_size : Addr
  fd_check_size : FuncData
  check_range : Addr
  fd_check_range : FuncData
  check_least : Addr
  fd_check_least : FuncData
  check_most : Addr
  fd_check_most : FuncData
  as_stands : Addr
  fd_as_stands : FuncData
  is_due : Addr
  fd_is_due : FuncData
  due_in_range : Addr
  fd_due_in_range : FuncData
  due_too_great : Addr
  fd_due_too_great : FuncData
  check_due : Addr
  fd_check_due : FuncData
  check_kinds : Addr
  fd_check_kinds : FuncData
  check_steps : Addr
  fd_check_steps : FuncData
  check_parts : Addr
  fd_check_parts : FuncData
  Web_init : Addr
  fd_Web_init : FuncData
  check_web : Addr
  fd_check_web : FuncData
  check_stand : Addr
  fd_check_stand : FuncData
  check_moving : Addr
  fd_check_moving : FuncData
  half_of : Addr
  fd_half_of : FuncData
  low_of : Addr
  fd_low_of : FuncData
  high_of : Addr
  fd_high_of : FuncData
  price_of : Addr
  fd_price_of : FuncData
  check_steps_at : Addr
  fd_check_steps_at : FuncData
  low : Addr
  fd_low : FuncData
  high : Addr
  fd_high : FuncData
  price : Addr
  fd_price : FuncData
  law_draw : Addr
  fd_law_draw : FuncData
  law_whole : Addr
  fd_law_whole : FuncData
  law_lot : Addr
  fd_law_lot : FuncData
  law_due : Addr
  fd_law_due : FuncData
  law_marks : Addr
  fd_law_marks : FuncData
  law_path : Addr
  fd_law_path : FuncData
  law_web : Addr
  fd_law_web : FuncData
  law_built : Addr
  fd_law_built : FuncData
  law_good : Addr
  fd_law_good : FuncData
  law_least : Addr
  fd_law_least : FuncData
  law_refused : Addr
  fd_law_refused : FuncData
  law_refusals : Addr
  fd_law_refusals : FuncData
  Web_first : Addr
  fd_Web_first : FuncData
  Web_marks : Addr
  fd_Web_marks : FuncData
  Web_second : Addr
  fd_Web_second : FuncData
  Web_size : Addr
  fd_Web_size : FuncData
  pr_Web_first : Addr
  pr_Web_marks : Addr
  pr_Web_second : Addr
  pr_Web_size : Addr
structure Txt (c : Cfg) (mg : Str → Option Value) (A : Adr) : Prop where
  F_is_integer : Fun c.K "is_integer" "is_integer" s_is_integer A.is_integer A.fd_is_integer
  m_is_integer : mg "is_integer" = some (.ref A.is_integer)
  F_check_whole : Fun c.K "check_whole" "check_whole" s_check_whole A.check_whole A.fd_check_whole
  m_check_whole : mg "check_whole" = some (.ref A.check_whole)
  F_whole_list : Fun c.K "whole_list" "whole_list" s_whole_list A.whole_list A.fd_whole_list
  m_whole_list : mg "whole_list" = some (.ref A.whole_list)
  F_check_size : Fun c.K "check_size" "check_size" s_check_size A.check_size A.fd_check_size
  m_check_size : mg "check_size" = some (.ref A.check_size)
  F_check_range : Fun c.K "check_range" "check_range" s_check_range A.check_range A.fd_check_range
  m_check_range : mg "check_range" = some (.ref A.check_range)
  F_check_least : Fun c.K "check_least" "check_least" s_check_least A.check_least A.fd_check_least
  m_check_least : mg "check_least" = some (.ref A.check_least)
  F_check_most : Fun c.K "check_most" "check_most" s_check_most A.check_most A.fd_check_most
  m_check_most : mg "check_most" = some (.ref A.check_most)
  F_as_stands : Fun c.K "as_stands" "as_stands" s_as_stands A.as_stands A.fd_as_stands
  m_as_stands : mg "as_stands" = some (.ref A.as_stands)
  F_is_due : Fun c.K "is_due" "is_due" s_is_due A.is_due A.fd_is_due
  m_is_due : mg "is_due" = some (.ref A.is_due)
  F_due_in_range : Fun c.K "due_in_range" "due_in_range" s_due_in_range A.due_in_range A.fd_due_in_range
  m_due_in_range : mg "due_in_range" = some (.ref A.due_in_range)
  F_due_too_great : Fun c.K "due_too_great" "due_too_great" s_due_too_great A.due_too_great A.fd_due_too_great
  m_due_too_great : mg "due_too_great" = some (.ref A.due_too_great)
  F_check_due : Fun c.K "check_due" "check_due" s_check_due A.check_due A.fd_check_due
  m_check_due : mg "check_due" = some (.ref A.check_due)
  F_check_kinds : Fun c.K "check_kinds" "check_kinds" s_check_kinds A.check_kinds A.fd_check_kinds
  m_check_kinds : mg "check_kinds" = some (.ref A.check_kinds)
  F_check_steps : Fun c.K "check_steps" "check_steps" s_check_steps A.check_steps A.fd_check_steps
  m_check_steps : mg "check_steps" = some (.ref A.check_steps)
  F_check_parts : Fun c.K "check_parts" "check_parts" s_check_parts A.check_parts A.fd_check_parts
  m_check_parts : mg "check_parts" = some (.ref A.check_parts)
  F_Web_init : Fun c.K "__init__" "Web.__init__" s_Web_init A.Web_init A.fd_Web_init
  F_check_web : Fun c.K "check_web" "check_web" s_check_web A.check_web A.fd_check_web
  m_check_web : mg "check_web" = some (.ref A.check_web)
  F_check_stand : Fun c.K "check_stand" "check_stand" s_check_stand A.check_stand A.fd_check_stand
  m_check_stand : mg "check_stand" = some (.ref A.check_stand)
  F_check_moving : Fun c.K "check_moving" "check_moving" s_check_moving A.check_moving A.fd_check_moving
  m_check_moving : mg "check_moving" = some (.ref A.check_moving)
  F_half_of : Fun c.K "half_of" "half_of" s_half_of A.half_of A.fd_half_of
  m_half_of : mg "half_of" = some (.ref A.half_of)
  F_low_of : Fun c.K "low_of" "low_of" s_low_of A.low_of A.fd_low_of
  m_low_of : mg "low_of" = some (.ref A.low_of)
  F_high_of : Fun c.K "high_of" "high_of" s_high_of A.high_of A.fd_high_of
  m_high_of : mg "high_of" = some (.ref A.high_of)
  F_price_of : Fun c.K "price_of" "price_of" s_price_of A.price_of A.fd_price_of
  m_price_of : mg "price_of" = some (.ref A.price_of)
  F_check_steps_at : Fun c.K "check_steps_at" "check_steps_at" s_check_steps_at A.check_steps_at A.fd_check_steps_at
  m_check_steps_at : mg "check_steps_at" = some (.ref A.check_steps_at)
  F_low : Fun c.K "low" "low" s_low A.low A.fd_low
  m_low : mg "low" = some (.ref A.low)
  F_high : Fun c.K "high" "high" s_high A.high A.fd_high
  m_high : mg "high" = some (.ref A.high)
  F_price : Fun c.K "price" "price" s_price A.price A.fd_price
  m_price : mg "price" = some (.ref A.price)
  F_law_draw : Fun c.K "_law_draw" "_law_draw" s_law_draw A.law_draw A.fd_law_draw
  m_law_draw : mg "_law_draw" = some (.ref A.law_draw)
  F_law_whole : Fun c.K "_law_whole" "_law_whole" s_law_whole A.law_whole A.fd_law_whole
  m_law_whole : mg "_law_whole" = some (.ref A.law_whole)
  F_law_lot : Fun c.K "_law_lot" "_law_lot" s_law_lot A.law_lot A.fd_law_lot
  m_law_lot : mg "_law_lot" = some (.ref A.law_lot)
  F_law_due : Fun c.K "_law_due" "_law_due" s_law_due A.law_due A.fd_law_due
  m_law_due : mg "_law_due" = some (.ref A.law_due)
  F_law_marks : Fun c.K "_law_marks" "_law_marks" s_law_marks A.law_marks A.fd_law_marks
  m_law_marks : mg "_law_marks" = some (.ref A.law_marks)
  F_law_path : Fun c.K "_law_path" "_law_path" s_law_path A.law_path A.fd_law_path
  m_law_path : mg "_law_path" = some (.ref A.law_path)
  F_law_web : Fun c.K "_law_web" "_law_web" s_law_web A.law_web A.fd_law_web
  m_law_web : mg "_law_web" = some (.ref A.law_web)
  F_law_built : Fun c.K "_law_built" "_law_built" s_law_built A.law_built A.fd_law_built
  m_law_built : mg "_law_built" = some (.ref A.law_built)
  F_law_good : Fun c.K "_law_good" "_law_good" s_law_good A.law_good A.fd_law_good
  m_law_good : mg "_law_good" = some (.ref A.law_good)
  F_law_least : Fun c.K "_law_least" "_law_least" s_law_least A.law_least A.fd_law_least
  m_law_least : mg "_law_least" = some (.ref A.law_least)
  F_law_refused : Fun c.K "_law_refused" "_law_refused" s_law_refused A.law_refused A.fd_law_refused
  m_law_refused : mg "_law_refused" = some (.ref A.law_refused)
  F_law_refusals : Fun c.K "_law_refusals" "_law_refusals" s_law_refusals A.law_refusals A.fd_law_refusals
  m_law_refusals : mg "_law_refusals" = some (.ref A.law_refusals)
  F_Web_first : Fun c.K "first" "Web.first" s_Web_first A.Web_first A.fd_Web_first
  p_Web_first : PropOf c.K A.ca.Web "first" A.pr_Web_first A.Web_first
  F_Web_marks : Fun c.K "marks" "Web.marks" s_Web_marks A.Web_marks A.fd_Web_marks
  p_Web_marks : PropOf c.K A.ca.Web "marks" A.pr_Web_marks A.Web_marks
  F_Web_second : Fun c.K "second" "Web.second" s_Web_second A.Web_second A.fd_Web_second
  p_Web_second : PropOf c.K A.ca.Web "second" A.pr_Web_second A.Web_second
  F_Web_size : Fun c.K "size" "Web.size" s_Web_size A.Web_size A.fd_Web_size
  p_Web_size : PropOf c.K A.ca.Web "size" A.pr_Web_size A.Web_size
  m_Web : mg "Web" = some (.ref A.ca.Web)
  f_Web : ClsF c.K A.ca.Web
  mk_Web : Mk c.K A.ca.Web A.Web_init
  a_Web__dues : NoAttr c.K A.ca.Web "_dues"
  a_Web__ends : NoAttr c.K A.ca.Web "_ends"
  a_Web__even : NoAttr c.K A.ca.Web "_even"
  a_Web__first : NoAttr c.K A.ca.Web "_first"
  a_Web__greatest_due : NoAttr c.K A.ca.Web "_greatest_due"
  a_Web__marks : NoAttr c.K A.ca.Web "_marks"
  a_Web__moving : NoAttr c.K A.ca.Web "_moving"
  a_Web__second : NoAttr c.K A.ca.Web "_second"
  a_Web__size : NoAttr c.K A.ca.Web "_size"
  c_GREATEST : ∃ t, mg "GREATEST" = some (.int 10000000000000000000000000000000000000000 t)
  c_MOST_STANDS : ∃ t, mg "MOST_STANDS" = some (.int 60 t)
  n_bool : mg "bool" = none
  n_enumerate : mg "enumerate" = none
  n_int : mg "int" = none
  n_isinstance : mg "isinstance" = none
  n_len : mg "len" = none
  n_list : mg "list" = none
  n_max : mg "max" = none
  n_min : mg "min" = none
  n_range : mg "range" = none
  n_set : mg "set" = none
  n_sorted : mg "sorted" = none
  n_str : mg "str" = none
  n_tuple : mg "tuple" = none
  mE0 : mg "WrongKind" = some (.ref (c.ec 0))
  xE0 : PySem.W.excIn c.K (c.ec 0) [.type "Exception", .type "BaseException", .type "object"] "Exception.__new__" = true
  kE0 : PySem.W.keepIn c.K (.ref (c.ec 0)) = true
  bE0 : PySem.W.subIn c.K (.ref (c.ec 0)) (.type "BaseException") = some true
  tE0 : PySem.W.typeIn c.K (.ref (c.ec 0)) = some (.type "type")
  mE1 : mg "WrongNumber" = some (.ref (c.ec 1))
  xE1 : PySem.W.excIn c.K (c.ec 1) [.type "Exception", .type "BaseException", .type "object"] "Exception.__new__" = true
  kE1 : PySem.W.keepIn c.K (.ref (c.ec 1)) = true
  bE1 : PySem.W.subIn c.K (.ref (c.ec 1)) (.type "BaseException") = some true
  tE1 : PySem.W.typeIn c.K (.ref (c.ec 1)) = some (.type "type")
  mE2 : mg "WrongWeb" = some (.ref (c.ec 2))
  xE2 : PySem.W.excIn c.K (c.ec 2) [.type "Exception", .type "BaseException", .type "object"] "Exception.__new__" = true
  kE2 : PySem.W.keepIn c.K (.ref (c.ec 2)) = true
  bE2 : PySem.W.subIn c.K (.ref (c.ec 2)) (.type "BaseException") = some true
  tE2 : PySem.W.typeIn c.K (.ref (c.ec 2)) = some (.type "type")
  mE3 : mg "TooMuch" = some (.ref (c.ec 3))
  xE3 : PySem.W.excIn c.K (c.ec 3) [.type "Exception", .type "BaseException", .type "object"] "Exception.__new__" = true
  kE3 : PySem.W.keepIn c.K (.ref (c.ec 3)) = true
  bE3 : PySem.W.subIn c.K (.ref (c.ec 3)) (.type "BaseException") = some true
  tE3 : PySem.W.typeIn c.K (.ref (c.ec 3)) = some (.type "type")
  apart : Apart c
theorem gsc_Web_first : FnScope ["self"] ["self"] (defScope s_Web_first) := ⟨rfl, rfl, rfl, by decide +kernel, rfl, by decide +kernel, by decide +kernel⟩
theorem gsc_Web_marks : FnScope ["self"] ["self"] (defScope s_Web_marks) := ⟨rfl, rfl, rfl, by decide +kernel, rfl, by decide +kernel, by decide +kernel⟩
theorem gsc_Web_second : FnScope ["self"] ["self"] (defScope s_Web_second) := ⟨rfl, rfl, rfl, by decide +kernel, rfl, by decide +kernel, by decide +kernel⟩
theorem gsc_Web_size : FnScope ["self"] ["self"] (defScope s_Web_size) := ⟨rfl, rfl, rfl, by decide +kernel, rfl, by decide +kernel, by decide +kernel⟩
abbrev Nn_is_integer : List Str := ["thing"]
theorem sc_is_integer : FnScope Nn_is_integer ["thing"] (defScope s_is_integer) := ⟨rfl, rfl, rfl, by decide +kernel, rfl, by decide +kernel, by decide +kernel⟩
abbrev Nn_check_whole : List Str := ["things", "thing"]
theorem sc_check_whole : FnScope Nn_check_whole ["things"] (defScope s_check_whole) := ⟨rfl, rfl, rfl, by decide +kernel, rfl, by decide +kernel, by decide +kernel⟩
abbrev Nn_whole_list : List Str := ["thing"]
theorem sc_whole_list : FnScope Nn_whole_list ["thing"] (defScope s_whole_list) := ⟨rfl, rfl, rfl, by decide +kernel, rfl, by decide +kernel, by decide +kernel⟩
abbrev Nn_check_size : List Str := ["row", "size"]
theorem sc_check_size : FnScope Nn_check_size ["row", "size"] (defScope s_check_size) := ⟨rfl, rfl, rfl, by decide +kernel, rfl, by decide +kernel, by decide +kernel⟩
abbrev Nn_check_range : List Str := ["number", "least", "most"]
theorem sc_check_range : FnScope Nn_check_range ["number", "least", "most"] (defScope s_check_range) := ⟨rfl, rfl, rfl, by decide +kernel, rfl, by decide +kernel, by decide +kernel⟩
abbrev Nn_check_least : List Str := ["number", "least"]
theorem sc_check_least : FnScope Nn_check_least ["number", "least"] (defScope s_check_least) := ⟨rfl, rfl, rfl, by decide +kernel, rfl, by decide +kernel, by decide +kernel⟩
abbrev Nn_check_most : List Str := ["number", "most"]
theorem sc_check_most : FnScope Nn_check_most ["number", "most"] (defScope s_check_most) := ⟨rfl, rfl, rfl, by decide +kernel, rfl, by decide +kernel, by decide +kernel⟩
abbrev Nn_as_stands : List Str := ["thing", "size", "stands", "stand"]
theorem sc_as_stands : FnScope Nn_as_stands ["thing", "size"] (defScope s_as_stands) := ⟨rfl, rfl, rfl, by decide +kernel, rfl, by decide +kernel, by decide +kernel⟩
abbrev Nn_is_due : List Str := ["due"]
theorem sc_is_due : FnScope Nn_is_due ["due"] (defScope s_is_due) := ⟨rfl, rfl, rfl, by decide +kernel, rfl, by decide +kernel, by decide +kernel⟩
abbrev Nn_due_in_range : List Str := ["due"]
theorem sc_due_in_range : FnScope Nn_due_in_range ["due"] (defScope s_due_in_range) := ⟨rfl, rfl, rfl, by decide +kernel, rfl, by decide +kernel, by decide +kernel⟩
abbrev Nn_due_too_great : List Str := ["due"]
theorem sc_due_too_great : FnScope Nn_due_too_great ["due"] (defScope s_due_too_great) := ⟨rfl, rfl, rfl, by decide +kernel, rfl, by decide +kernel, by decide +kernel⟩
abbrev Nn_check_due : List Str := ["due"]
theorem sc_check_due : FnScope Nn_check_due ["due"] (defScope s_check_due) := ⟨rfl, rfl, rfl, by decide +kernel, rfl, by decide +kernel, by decide +kernel⟩
abbrev Nn_check_kinds : List Str := ["first", "second", "marks", "dues", "steps", "due"]
theorem sc_check_kinds : FnScope Nn_check_kinds ["first", "second", "marks", "dues"] (defScope s_check_kinds) := ⟨rfl, rfl, rfl, by decide +kernel, rfl, by decide +kernel, by decide +kernel⟩
abbrev Nn_check_steps : List Str := ["first", "second", "stand", "steps", "step"]
theorem sc_check_steps : FnScope Nn_check_steps ["first", "second"] (defScope s_check_steps) := ⟨rfl, rfl, rfl, by decide +kernel, rfl, by decide +kernel, by decide +kernel⟩
abbrev Nn_check_parts : List Str := ["first", "second", "marks", "dues", "size", "mark", "due"]
theorem sc_check_parts : FnScope Nn_check_parts ["first", "second", "marks", "dues"] (defScope s_check_parts) := ⟨rfl, rfl, rfl, by decide +kernel, rfl, by decide +kernel, by decide +kernel⟩
abbrev Nn_Web_init : List Str := ["self", "first", "second", "marks", "dues", "size", "steps", "due", "stand"]
theorem sc_Web_init : FnScope Nn_Web_init ["self", "first", "second", "marks", "dues"] (defScope s_Web_init) := ⟨rfl, rfl, rfl, by decide +kernel, rfl, by decide +kernel, by decide +kernel⟩
abbrev Nn_check_web : List Str := ["thing"]
theorem sc_check_web : FnScope Nn_check_web ["thing"] (defScope s_check_web) := ⟨rfl, rfl, rfl, by decide +kernel, rfl, by decide +kernel, by decide +kernel⟩
abbrev Nn_check_stand : List Str := ["web", "stand"]
theorem sc_check_stand : FnScope Nn_check_stand ["web", "stand"] (defScope s_check_stand) := ⟨rfl, rfl, rfl, by decide +kernel, rfl, by decide +kernel, by decide +kernel⟩
abbrev Nn_check_moving : List Str := ["web", "stand"]
theorem sc_check_moving : FnScope Nn_check_moving ["web", "stand"] (defScope s_check_moving) := ⟨rfl, rfl, rfl, by decide +kernel, rfl, by decide +kernel, by decide +kernel⟩
abbrev Nn_half_of : List Str := ["mark", "x", "y"]
theorem sc_half_of : FnScope Nn_half_of ["mark", "x", "y"] (defScope s_half_of) := ⟨rfl, rfl, rfl, by decide +kernel, rfl, by decide +kernel, by decide +kernel⟩
abbrev Nn_low_of : List Str := ["web", "row", "stand", "step"]
theorem sc_low_of : FnScope Nn_low_of ["web", "row", "stand"] (defScope s_low_of) := ⟨rfl, rfl, rfl, by decide +kernel, rfl, by decide +kernel, by decide +kernel⟩
abbrev Nn_high_of : List Str := ["web", "row", "stand", "step"]
theorem sc_high_of : FnScope Nn_high_of ["web", "row", "stand"] (defScope s_high_of) := ⟨rfl, rfl, rfl, by decide +kernel, rfl, by decide +kernel, by decide +kernel⟩
abbrev Nn_price_of : List Str := ["web", "k", "row", "stand"]
theorem sc_price_of : FnScope Nn_price_of ["web", "k", "row", "stand"] (defScope s_price_of) := ⟨rfl, rfl, rfl, by decide +kernel, rfl, by decide +kernel, by decide +kernel⟩
abbrev Nn_check_steps_at : List Str := ["web", "row", "stand"]
theorem sc_check_steps_at : FnScope Nn_check_steps_at ["web", "row", "stand"] (defScope s_check_steps_at) := ⟨rfl, rfl, rfl, by decide +kernel, rfl, by decide +kernel, by decide +kernel⟩
abbrev Nn_low : List Str := ["web", "row", "stand"]
theorem sc_low : FnScope Nn_low ["web", "row", "stand"] (defScope s_low) := ⟨rfl, rfl, rfl, by decide +kernel, rfl, by decide +kernel, by decide +kernel⟩
abbrev Nn_high : List Str := ["web", "row", "stand"]
theorem sc_high : FnScope Nn_high ["web", "row", "stand"] (defScope s_high) := ⟨rfl, rfl, rfl, by decide +kernel, rfl, by decide +kernel, by decide +kernel⟩
abbrev Nn_price : List Str := ["web", "k", "row", "stand"]
theorem sc_price : FnScope Nn_price ["web", "k", "row", "stand"] (defScope s_price) := ⟨rfl, rfl, rfl, by decide +kernel, rfl, by decide +kernel, by decide +kernel⟩
abbrev Nn_law_draw : List Str := ["_law_pot_here", "_law_many"]
theorem sc_law_draw : FnScope Nn_law_draw ["_law_pot_here", "_law_many"] (defScope s_law_draw) := ⟨rfl, rfl, rfl, by decide +kernel, rfl, by decide +kernel, by decide +kernel⟩
abbrev Nn_law_whole : List Str := ["_law_thing"]
theorem sc_law_whole : FnScope Nn_law_whole ["_law_thing"] (defScope s_law_whole) := ⟨rfl, rfl, rfl, by decide +kernel, rfl, by decide +kernel, by decide +kernel⟩
abbrev Nn_law_lot : List Str := ["_law_pot_here", "_law_size", "_law_lot_here", "_law_turn", "_law_step"]
theorem sc_law_lot : FnScope Nn_law_lot ["_law_pot_here", "_law_size"] (defScope s_law_lot) := ⟨rfl, rfl, rfl, by decide +kernel, rfl, by decide +kernel, by decide +kernel⟩
abbrev Nn_law_due : List Str := ["_law_pot_here", "_law_word"]
theorem sc_law_due : FnScope Nn_law_due ["_law_pot_here"] (defScope s_law_due) := ⟨rfl, rfl, rfl, by decide +kernel, rfl, by decide +kernel, by decide +kernel⟩
abbrev Nn_law_marks : List Str := ["_law_pot_here", "_law_size", "_law_style", "_law_stand"]
theorem sc_law_marks : FnScope Nn_law_marks ["_law_pot_here", "_law_size"] (defScope s_law_marks) := ⟨rfl, rfl, rfl, by decide +kernel, rfl, by decide +kernel, by decide +kernel⟩
abbrev Nn_law_path : List Str := ["_law_size", "_law_lots", "_law_stand", "_law_low", "_law_high"]
theorem sc_law_path : FnScope Nn_law_path ["_law_size"] (defScope s_law_path) := ⟨rfl, rfl, rfl, by decide +kernel, rfl, by decide +kernel, by decide +kernel⟩
abbrev Nn_law_web : List Str := ["_law_pot_here", "_law_most", "_law_even", "_law_size", "_law_shape", "_law_first", "_law_dues", "_law_stand", "_law_second", "_law_lot_here", "_law_is_end", "_law_due_here"]
theorem sc_law_web : FnScope Nn_law_web ["_law_pot_here", "_law_most", "_law_even"] (defScope s_law_web) := ⟨rfl, rfl, rfl, by decide +kernel, rfl, by decide +kernel, by decide +kernel⟩
abbrev Nn_law_built : List Str := ["_law_web_here", "_law_lot_here"]
theorem sc_law_built : FnScope Nn_law_built ["_law_web_here"] (defScope s_law_built) := ⟨rfl, rfl, rfl, by decide +kernel, rfl, by decide +kernel, by decide +kernel⟩
abbrev Nn_law_good : List Str := ["_law_web_here", "_law_row", "_law_stand", "_law_purse", "_law_p", "_law_q", "_law_step"]
theorem sc_law_good : FnScope Nn_law_good ["_law_web_here", "_law_row", "_law_stand", "_law_purse", "_law_p", "_law_q"] (defScope s_law_good) := ⟨rfl, rfl, rfl, by decide +kernel, rfl, by decide +kernel, by decide +kernel⟩
abbrev Nn_law_least : List Str := ["_law_web_here", "_law_k", "_law_row", "_law_stand", "_law_purse", "_law_p", "_law_bad", "_law_q"]
theorem sc_law_least : FnScope Nn_law_least ["_law_web_here", "_law_k", "_law_row", "_law_stand"] (defScope s_law_least) := ⟨rfl, rfl, rfl, by decide +kernel, rfl, by decide +kernel, by decide +kernel⟩
abbrev Nn_law_refused : List Str := ["_law_built_here", "_law_k", "_law_row", "_law_stand", "_law_way", "_law_code"]
theorem sc_law_refused : FnScope Nn_law_refused ["_law_built_here", "_law_k", "_law_row", "_law_stand", "_law_way"] (defScope s_law_refused) := ⟨rfl, rfl, rfl, by decide +kernel, rfl, by decide +kernel, by decide +kernel⟩
abbrev Nn_law_refusals : List Str := ["_law_built_here", "_law_k", "_law_row", "_law_stand", "_law_size", "_law_way"]
theorem sc_law_refusals : FnScope Nn_law_refusals ["_law_built_here", "_law_k", "_law_row", "_law_stand", "_law_size"] (defScope s_law_refusals) := ⟨rfl, rfl, rfl, by decide +kernel, rfl, by decide +kernel, by decide +kernel⟩
abbrev Nn_law : List Str := ["_law_script", "_law_pot_here", "_law_web_here", "_law_size", "_law_k", "_law_row", "_law_stand", "_law_moved", "_law_far", "_law_part", "_law_built_here", "_law_handed", "_law_told", "_law_least_here", "_law_step", "_law_most"]
theorem sc_law : FnScope Nn_law ["_law_script"] (defScope s_law) := ⟨rfl, rfl, rfl, by decide +kernel, rfl, by decide +kernel, by decide +kernel⟩
abbrev Nn_law_pot : List Str := ["_law_script", "_law_pot_here", "_law_place", "_law_number", "_law_shift", "_law_turn", "_law_mixed"]
theorem sc_law_pot : FnScope Nn_law_pot ["_law_script"] (defScope s_law_pot) := ⟨rfl, rfl, rfl, by decide +kernel, rfl, by decide +kernel, by decide +kernel⟩
end K05

namespace PL
open PySem L2 Den
@[simp] theorem fLen_dI (ns : List Int) : fLen [dI ns] = some (.int ns.length) := by show some (D.int ((ns.map D.int).length : Int)) = _; rw [List.length_map]
@[simp] theorem lstOf_dI (ns : List Int) : lstOf (dI ns) = some (ns.map .int) := rfl
@[simp] theorem seqOf_dI (ns : List Int) : seqOf (dI ns) = some (ns.map .int) := rfl
@[simp] theorem fSeq1_dI (ns : List Int) : fSeq1 [dI ns] = some (ns.map .int) := rfl
@[simp] theorem fTuple_dI (ns : List Int) : fTuple [dI ns] = some (.tup (ns.map .int)) := rfl
@[simp] theorem truOf_dI (ns : List Int) : truOf (dI ns) = some (!ns.isEmpty) := by show some (!(ns.map D.int).isEmpty) = _; cases ns <;> rfl
@[simp] theorem truOf_dS (ns : List Int) : truOf (dS ns) = some (!(sortSet ns).isEmpty) := by show some (!((sortSet ns).map D.int).isEmpty) = _; cases sortSet ns <;> rfl
@[simp] theorem tupOf_dS (ns : List Int) : tupOf (dS ns) = some ((sortSet ns).map .int) := rfl
@[simp] theorem fIx_dI (ns : List Int) (i : Int) : fIx (dI ns) (.int i) = atI (ns.map .int) i := rfl
theorem isTy_int_int : isTy .int .int = true := rfl
theorem is_integer_int (i : Int) (p : List Int) : D_is_integer [.int i] p = .ok (.bl true) p := by
  simp [D_is_integer, denF, dn_is_integer, locOf, mvar, fIs1, tyN, isTy]
theorem is_integer_ev {d : D} {t : Ty} (h : tyN d = some t) (p : List Int) : D_is_integer [d] p = .ok (.bl (isTy t .int && !isTy t .bl)) p := by
  simp [D_is_integer, denF, dn_is_integer, locOf, mvar, fIs1, h]
  cases isTy t .int <;> simp
theorem law_whole_int (i : Int) (p : List Int) : D_is_integer [.int i] p = .ok (.bl true) p := by
  simp [D_is_integer, denF, dn_is_integer, locOf, mvar, fIs1, tyN, isTy]
theorem draw_ev (n : Int) (hn : 0 < n) (ps : List Int) : ∃ v q, D_law_draw [.pot, .int n] ps = .ok (.int v) q ∧ 0 ≤ v ∧ v < n := by
  have hd : ps = [] ∨ ∃ v, ps[ps.length - 1]? = some v ∧ ps ≠ [] := by
    cases ps with
    | nil => exact .inl rfl
    | cons a r => exact .inr ⟨_, List.getElem?_eq_getElem (by simp), by simp⟩
  unfold D_law_draw denF dn_law_draw
  rcases hd with rfl | ⟨v, hv, hl⟩
  · exact ⟨0, [], by simp [locOf, mlenp, mvar], by omega, hn⟩
  · exact ⟨v % n, ps.dropLast, by simp [locOf, mlenp, mvar, mpop, hl, hv, fMod_int hn], Int.emod_nonneg _ (by omega), Int.emod_lt_of_pos _ hn⟩
/-- all of these are whole numbers -/
theorem check_whole_ok (ds : List D) (h : ∀ d ∈ ds, ∃ i, d = .int i) (hl : ds.length ≤ 1000) (p : List Int) : D_check_whole ds p = .ok .non p := by
  have key : ∃ l' p', loop (gset 1) (sif (mnot (mtru (mcall D_is_integer (acons (mvar 1) anil)))) (sraise 0) sskip) ds [some (.dat (.tup ds)), none] p = .nx l' p' ∧ l'.length = 2 ∧ p' = p := by
    refine loop_run (fun _ l q => l.length = 2 ∧ q = p) (k := 0) ⟨rfl, rfl⟩ fun i d l q hd hI => ?_
    obtain ⟨i, rfl⟩ := h d (List.mem_of_getElem? hd)
    obtain ⟨hl, rfl⟩ := hI
    refine ⟨_, lset_lt 1 _ _ (by omega), l.set 1 (some (.dat (.int i))), q, .inl ?_, by simp [hl]⟩
    simp [mvar, hl, is_integer_int]
  obtain ⟨l', p', e, _, rfl⟩ := key
  unfold D_check_whole
  rw [if_pos hl]
  simp [denStar, denF, dn_check_whole, locOf, mvar, e]
/-- one of them is none: the first such is told -/
theorem check_whole_no (ds : List D) (hl : ds.length ≤ 1000) (p : List Int) (m : Nat) (d : D) (t : Ty) (hm : ds[m]? = some d) (ht : tyN d = some t) (hn : (isTy t .int && !isTy t .bl) = false) (h : ∀ i < m, ∀ d, ds[i]? = some d → ∃ i, d = .int i) : D_check_whole ds p = .err 0 p := by
  have key : ∀ (ds : List D) (m : Nat) (l : Den.Loc), l.length = 2 → ds[m]? = some d → (∀ i < m, ∀ d, ds[i]? = some d → ∃ i, d = .int i) → ∃ l', loop (gset 1) (sif (mnot (mtru (mcall D_is_integer (acons (mvar 1) anil)))) (sraise 0) sskip) ds l p = .err 0 l' p := by
    intro ds
    induction ds with
    | nil => intro m l _ hm _; simp at hm
    | cons a ds ih =>
      intro m l hl2 hm h
      unfold loop
      rw [lset_lt 1 a l (by omega)]
      cases m with
      | zero =>
        simp at hm
        subst hm
        refine ⟨l.set 1 (some (.dat a)), ?_⟩
        simp [mvar, hl2, is_integer_ev ht, hn]
      | succ m =>
        obtain ⟨i, rfl⟩ := h 0 (Nat.succ_pos m) a rfl
        obtain ⟨l', e⟩ := ih m (l.set 1 (some (.dat (.int i)))) (by simp [hl2]) (by simpa using hm) fun i hi d hd => h (i + 1) (by omega) d (by simpa using hd)
        refine ⟨l', ?_⟩
        simp [mvar, hl2, is_integer_int]
        exact e
  obtain ⟨l', e⟩ := key ds m [some (.dat (.tup ds)), none] rfl hm h
  unfold D_check_whole
  rw [if_pos hl]
  simp [denStar, denF, dn_check_whole, locOf, mvar, e]
theorem whole_list_ok {d : D} {ds : List D} (hd : seqOf d = some ds) (h : ∀ d ∈ ds, ∃ i, d = .int i) (hl : ds.length ≤ 1000) (p : List Int) : D_whole_list [d] p = .ok (.tup ds) p := by
  cases d with
  | lst ds' => cases hd; simp [D_whole_list, denF, dn_whole_list, locOf, mvar, fIs2, tyN, isTy, mstar, check_whole_ok _ h hl]
  | tup ds' => cases hd; simp [D_whole_list, denF, dn_whole_list, locOf, mvar, fIs2, tyN, isTy, mstar, check_whole_ok _ h hl]
  | _ => cases hd
theorem check_size_ev (ds : List D) (d : D) (hd : seqOf d = some ds) (n : Int) (p : List Int) : D_check_size [d, .int n] p = if (ds.length : Int) = n then .ok .non p else .err 1 p := by
  cases d with
  | lst ds' => cases hd; by_cases h : ((ds.length : Nat) : Int) = n <;> simp [D_check_size, denF, dn_check_size, locOf, mvar, h]
  | tup ds' => cases hd; by_cases h : ((ds.length : Nat) : Int) = n <;> simp [D_check_size, denF, dn_check_size, locOf, mvar, h]
  | _ => cases hd
theorem check_range_ev (a b e : Int) (p : List Int) : D_check_range [.int a, .int b, .int e] p = if b ≤ a ∧ a ≤ e then .ok .non p else .err 1 p := by
  unfold D_check_range denF dn_check_range
  by_cases h1 : a < b
  · have : ¬ (b ≤ a ∧ a ≤ e) := by omega
    simp [locOf, mvar, h1, this]
  · by_cases h2 : e < a
    · have : ¬ (b ≤ a ∧ a ≤ e) := by omega
      simp [locOf, mvar, h1, h2, this]
    · have : b ≤ a ∧ a ≤ e := by omega
      simp [locOf, mvar, h1, h2, this]
theorem check_least_ev (a b : Int) (p : List Int) : D_check_least [.int a, .int b] p = if b ≤ a then .ok .non p else .err 1 p := by
  by_cases h : a < b
  · have : ¬ b ≤ a := by omega
    simp [D_check_least, denF, dn_check_least, locOf, mvar, h, this]
  · have : b ≤ a := by omega
    simp [D_check_least, denF, dn_check_least, locOf, mvar, h, this]
theorem check_most_ev (a b : Int) (p : List Int) : D_check_most [.int a, .int b] p = if a ≤ b then .ok .non p else .err 3 p := by
  by_cases h : b < a
  · have : ¬ a ≤ b := by omega
    simp [D_check_most, denF, dn_check_most, locOf, mvar, h, this]
  · have : a ≤ b := by omega
    simp [D_check_most, denF, dn_check_most, locOf, mvar, h, this]
theorem intsOf_map : ∀ (ns : List Int), intsOf (ns.map D.int) = some ns
  | [] => rfl
  | n :: ns => by simp [intsOf, intsOf_map ns]
theorem as_stands_ok (ss : List Int) (n : Int) (hl : ss.length < 60) (h : ∀ x ∈ ss, 0 ≤ x ∧ x < n) (p : List Int) : D_as_stands [dI ss, .int n] p = .ok (dS ss) p := by
  have hw : D_whole_list [.lst (ss.map .int)] p = .ok (.tup (ss.map .int)) p := whole_list_ok rfl (fun d hd => by
    obtain ⟨i, _, e⟩ := List.mem_map.mp hd
    exact ⟨i, e.symm⟩) (by rw [List.length_map]; omega) p
  obtain ⟨o', e⟩ := loop_env (i := 3) (fun o => [some (.dat (dI ss)), some (.dat (.int n)), some (.dat (.tup (ss.map .int))), o]) (p := p) (body := sdrop (mcall D_check_range (acons (mvar 3) (acons (mret (D.int 0)) (acons (op2 fSub (mvar 1) (mret (D.int 1))) anil))))) (fun _ _ => rfl) (ds := ss.map .int) (fun d hd => by
    obtain ⟨x, hx, rfl⟩ := List.mem_map.mp hd
    have hr : 0 ≤ x ∧ x ≤ n - 1 := by have := h x hx; omega
    simp [mvar, check_range_ev, hr]) none
  have hl64 : ss.length < 64 := by omega
  simp [D_as_stands, denF, dn_as_stands, locOf, mvar, dI] at e ⊢
  rw [hw]
  simp [mvar, e, fSortSet, intsOf_map, hl64, dS]
end PL

namespace PL
open PySem L2 Den
theorem dDue_cases (d : Due) : d = none ∨ ∃ b x, d = some (b, x) := by
  rcases d with _ | ⟨b, x⟩
  · exact .inl rfl
  · exact .inr ⟨b, x, rfl⟩
def wrd (b : Bool) : Str := if b then "chips" else "less"
theorem dDue_some (b : Bool) (x : Int) : dDue (some (b, x)) = .tup [.str (wrd b), .int x] := by cases b <;> rfl
theorem is_due_ok (d : Due) (p : List Int) : D_is_due [dDue d] p = .ok (.bl true) p := by
  rcases dDue_cases d with rfl | ⟨b, x, rfl⟩
  · simp [D_is_due, denF, dn_is_due, locOf, mvar, dDue]
  · rw [dDue_some]
    simp [D_is_due, denF, dn_is_due, locOf, mvar, fIs2, fIs1, tyN, isTy, is_integer_int]
theorem check_due_ok (d : Due) (p : List Int) : D_check_due [dDue d] p = .ok .non p := by
  simp [D_check_due, denF, dn_check_due, locOf, mvar, is_due_ok]
theorem inV_wrd (b : Bool) : inV (V.str (wrd b)) [V.str "chips", V.str "less"] = true := by cases b <;> decide +kernel
theorem inB_wrd (b : Bool) : fInB false (.str (wrd b)) (.tup [.str "chips", .str "less"]) = some (.bl true) := by
  show some (D.bl (inV (V.str (wrd b)) [V.str "chips", V.str "less"])) = _
  rw [inV_wrd]
theorem due_in_range_ok (d : Due) (h : ∀ b x, d = some (b, x) → 0 ≤ x) (p : List Int) : D_due_in_range [dDue d] p = .ok (.bl true) p := by
  rcases dDue_cases d with rfl | ⟨b, x, rfl⟩
  · simp [D_due_in_range, denF, dn_due_in_range, locOf, mvar, dDue]
  · have hx := h b x rfl
    rw [dDue_some]
    simp [D_due_in_range, denF, dn_due_in_range, locOf, mvar, inB_wrd, hx]
theorem due_too_great_no (d : Due) (h : ∀ b x, d = some (b, x) → x ≤ 1000) (p : List Int) : D_due_too_great [dDue d] p = .ok (.bl false) p := by
  rcases dDue_cases d with rfl | ⟨b, x, rfl⟩
  · simp [D_due_too_great, denF, dn_due_too_great, locOf, mvar, dDue]
  · have hx := h b x rfl
    rw [dDue_some]
    have : ¬ ((10000000000000000000000000000000000000000 : Int) < x) := by omega
    simp [D_due_too_great, denF, dn_due_too_great, locOf, mvar, this]
theorem whole_dI (ss : List Int) (hl : ss.length ≤ 1000) (p : List Int) : D_whole_list [dI ss] p = .ok (.tup (ss.map .int)) p :=
  whole_list_ok rfl (fun d hd => by
    obtain ⟨i, _, e⟩ := List.mem_map.mp hd
    exact ⟨i, e.symm⟩) (by rw [List.length_map]; exact hl) p
theorem check_kinds_ok {wb : Wb} (V : Valid wb) (p : List Int) : D_check_kinds (encW wb) p = .ok .non p := by
  obtain ⟨o1, e1⟩ := loop_env (i := 4) (fun o => [some (.dat (.lst (wb.first.map dI))), some (.dat (.lst (wb.second.map dI))), some (.dat (dI wb.marks)), some (.dat (.lst (wb.dues.map dDue))), o, none]) (p := p)
    (body := sif (mnot (mtru (opn fIs2 (acons (mvar 4) (acons (mtupd (acons (mret (D.ty Ty.lst)) (acons (mret (D.ty Ty.tup)) anil))) anil))))) (sraise 0) sskip) (fun _ _ => rfl) (ds := [.lst (wb.first.map dI), .lst (wb.second.map dI), .lst (wb.dues.map dDue)]) (fun d hd => by
      simp only [List.mem_cons, List.not_mem_nil, or_false] at hd
      rcases hd with rfl | rfl | rfl <;> simp [mvar, fIs2, tyN, isTy]) none
  obtain ⟨o2, e2⟩ := loop_env (i := 4) (fun o => [some (.dat (.lst (wb.first.map dI))), some (.dat (.lst (wb.second.map dI))), some (.dat (dI wb.marks)), some (.dat (.lst (wb.dues.map dDue))), o, none]) (p := p)
    (body := sdrop (mcall D_whole_list (acons (mvar 4) anil))) (fun _ _ => rfl) (ds := wb.first.map dI ++ (wb.second.map dI ++ [dI wb.marks])) (fun d hd => by
      have : ∃ ss : List Int, d = dI ss ∧ ss.length ≤ 1000 := by
        simp only [List.mem_append, List.mem_cons, List.not_mem_nil, or_false] at hd
        rcases hd with h | h | h
        · obtain ⟨ss, hs, e⟩ := List.mem_map.mp h
          exact ⟨ss, e.symm, by have := (V.s1 ss hs).1; omega⟩
        · obtain ⟨ss, hs, e⟩ := List.mem_map.mp h
          exact ⟨ss, e.symm, by have := (V.s2 ss hs).1; omega⟩
        · exact ⟨_, h, by have := V.n2; omega⟩
      obtain ⟨ss, rfl, hl⟩ := this
      simp [mvar, whole_dI ss hl]) o1
  obtain ⟨o3, e3⟩ := loop_env (i := 5) (fun o => [some (.dat (.lst (wb.first.map dI))), some (.dat (.lst (wb.second.map dI))), some (.dat (dI wb.marks)), some (.dat (.lst (wb.dues.map dDue))), o2, o]) (p := p)
    (body := sdrop (mcall D_check_due (acons (mvar 5) anil))) (fun _ _ => rfl) (ds := wb.dues.map dDue) (fun d hd => by
      obtain ⟨x, _, rfl⟩ := List.mem_map.mp hd
      simp [mvar, check_due_ok]) none
  have h1 := V.l1
  have h2 := V.l2
  have h3 := V.n2
  have hz : wb.marks.length + (wb.marks.length + 1) ≤ 1000 := by omega
  simp [D_check_kinds, denF, dn_check_kinds, locOf, encW, mvar, astar, e1, h1, h2, hz]
  simp [mvar, e2, e3]
theorem check_steps_ok {wb : Wb} (V : Valid wb) (p : List Int) : D_check_steps [.lst (wb.first.map dI), .lst (wb.second.map dI)] p = .ok .non p := by
  have hlen : ((wb.first.map dI).length : Int) = wb.marks.length := by rw [List.length_map, V.l1]
  have key : ∃ l' p', loop (gset2 2 3) (sseq (sfor (mbind (mtupd (astar (mvar 3) (astar (op2 fIx (mvar 1) (mvar 2)) anil))) fun x => mlift (tupOf x)) (gset 4) (sif (mor (mtest (op2 fLt (mvar 4) (mret (D.int 0)))) (mtest (op2 fGe (mvar 4) (opn fLen (acons (mvar 0) anil))))) (sraise 2) sskip))
    (sif (mtest (op2 fNe (opn fBool (acons (mvar 3) anil)) (opn fBool (acons (op2 fIx (mvar 1) (mvar 2)) anil)))) (sraise 2) sskip)) (enumD 0 (wb.first.map dI)) [some (.dat (.lst (wb.first.map dI))), some (.dat (.lst (wb.second.map dI))), none, none, none] p = .nx l' p' ∧ (p' = p ∧ ∃ a b e, l' = [some (.dat (.lst (wb.first.map dI))), some (.dat (.lst (wb.second.map dI))), a, b, e]) := by
    refine loop_run (fun (_ : Nat) (l : Den.Loc) (q : List Int) => q = p ∧ ∃ a b e, l = [some (.dat (.lst (wb.first.map dI))), some (.dat (.lst (wb.second.map dI))), a, b, e]) (k := 0) ⟨rfl, _, _, _, rfl⟩ fun i d l q hd hI => ?_
    obtain ⟨rfl, a, b, e, rfl⟩ := hI
    have hi : i < wb.first.length := by
      have := (List.getElem?_eq_some_iff.mp hd).1
      rwa [enumD_len, List.length_map] at this
    have hi2 : i < wb.second.length := by rw [V.l2, ← V.l1]; exact hi
    have g1 : (wb.first.map dI)[i]? = some (dI wb.first[i]) := by rw [List.getElem?_map, List.getElem?_eq_getElem hi]; rfl
    have g2 : (wb.second.map dI)[i]? = some (dI wb.second[i]) := by rw [List.getElem?_map, List.getElem?_eq_getElem hi2]; rfl
    have hde := enumD_get (wb.first.map dI) 0 i _ g1
    rw [Nat.zero_add, hd] at hde
    cases hde
    have g3 : atI (wb.second.map dI) (i : Int) = some (dI wb.second[i]) := atI_nat g2
    obtain ⟨z1, y1⟩ := V.s1 _ (List.getElem_mem hi)
    obtain ⟨z2, y2⟩ := V.s2 _ (List.getElem_mem hi2)
    obtain ⟨o', e1⟩ := loop_env (i := 4) (fun o => [some (.dat (.lst (wb.first.map dI))), some (.dat (.lst (wb.second.map dI))), some (.dat (.int i)), some (.dat (dI wb.first[i])), o]) (p := q)
      (body := sif (mor (mtest (op2 fLt (mvar 4) (mret (D.int 0)))) (mtest (op2 fGe (mvar 4) (opn fLen (acons (mvar 0) anil))))) (sraise 2) sskip) (fun _ _ => rfl) (ds := (wb.first[i].map D.int) ++ (wb.second[i].map D.int)) (fun d hd => by
        have : ∃ x : Int, d = .int x ∧ 0 ≤ x ∧ x < wb.marks.length := by
          rcases List.mem_append.mp hd with h | h
          · obtain ⟨x, hx, e⟩ := List.mem_map.mp h
            exact ⟨x, e.symm, y1 x hx⟩
          · obtain ⟨x, hx, e⟩ := List.mem_map.mp h
            exact ⟨x, e.symm, y2 x hx⟩
        obtain ⟨x, rfl, h0, h1⟩ := this
        have n1 : ¬ x < 0 := by omega
        have n2 : ¬ ((wb.first.length : Int) ≤ x) := by rw [V.l1]; omega
        simp [mvar, n1, n2]) e
    have hb := V.both i _ _ (List.getElem?_eq_getElem hi) (List.getElem?_eq_getElem hi2)
    have hz : wb.first[i].length + wb.second[i].length ≤ 1000 := by omega
    refine ⟨[some (.dat (.lst (wb.first.map dI))), some (.dat (.lst (wb.second.map dI))), some (.dat (.int i)), some (.dat (dI wb.first[i])), e], by simp [gset2, gset], [some (.dat (.lst (wb.first.map dI))), some (.dat (.lst (wb.second.map dI))), some (.dat (.int i)), some (.dat (dI wb.first[i])), o'], q, .inl ?_, rfl, _, _, _, rfl⟩
    · simp only [sseq_ev, sfor_ev, mbind_ev, mtupd_ev, mshort_ev, astar, mvar, List.getElem?_cons_succ, List.getElem?_cons_zero, bind_ok, op2_ev, fIx_lst, g3, mlift_some, dI, seqOf_lst, anil_ev, mret_ev, List.append_nil, List.length_append, List.length_map, if_pos hz, tupOf_tup, toO_ok]
      have e1' := e1
      simp only [dI] at e1'
      rw [e1']
      simp [mvar, g3, dI, fBool, hb, fNe, sc, scal]
  obtain ⟨l', p', e, rfl, _⟩ := key
  simp [D_check_steps, denF, dn_check_steps, locOf, mvar, enum1] at e ⊢
  rw [e]
  rfl

theorem eqv_3 (n : Int) : PyData.eqv (.list [.int n, .int n, .int n]) (.list [.int n, .int n, .int n]) = true := by
  simp [PyData.eqv, PyData.eqvAll]
theorem fEqD_3 (neg : Bool) (n : Int) : fEqD neg (.lst [.int n, .int n, .int n]) (.lst [.int n, .int n, .int n]) = some (.bl (if neg then false else true)) := by
  have e : pd (.lst [.int n, .int n, .int n]) = some (.list [.int n, .int n, .int n]) := by simp [pd, pdL]
  unfold fEqD
  rw [e]
  simp [PyData.depth, PyData.depthAll, eqv_3]
theorem mark_in (m : Int) (h : m = 1 ∨ m = 2) : fInB true (.int m) (.tup [.int 1, .int 2]) = some (.bl false) := by
  show some (D.bl (!inV (V.int m) [V.int 1, V.int 2])) = _
  rcases h with rfl | rfl <;> rfl
theorem check_parts_ok {wb : Wb} (V : Valid wb) (p : List Int) : D_check_parts (encW wb) p = .ok .non p := by
  have n1 := V.n1
  have n2 := V.n2
  have l1 := V.l1
  have l2 := V.l2
  have l3 := V.l3
  have F : ∀ (o5 o6 : Option L), True := fun _ _ => trivial
  obtain ⟨o1, e1⟩ := loop_env (i := 5) (fun o => [some (.dat (.lst (wb.first.map dI))), some (.dat (.lst (wb.second.map dI))), some (.dat (dI wb.marks)), some (.dat (.lst (wb.dues.map dDue))), some (.dat (.int wb.marks.length)), o, none]) (p := p)
    (body := sif (mtest (op2 (fInB true) (mvar 5) (mtupd (acons (mret (D.int 1)) (acons (mret (D.int 2)) anil))))) (sraise 2) sskip) (fun _ _ => rfl) (ds := wb.marks.map .int) (fun d hd => by
      obtain ⟨m, hm, rfl⟩ := List.mem_map.mp hd
      simp [mvar, mark_in m (V.mks m hm)]) none
  obtain ⟨o2, e2⟩ := loop_env (i := 6) (fun o => [some (.dat (.lst (wb.first.map dI))), some (.dat (.lst (wb.second.map dI))), some (.dat (dI wb.marks)), some (.dat (.lst (wb.dues.map dDue))), some (.dat (.int wb.marks.length)), o1, o]) (p := p)
    (body := sif (mnot (mtru (mcall D_due_in_range (acons (mvar 6) anil)))) (sraise 2) sskip) (fun _ _ => rfl) (ds := wb.dues.map dDue) (fun d hd => by
      obtain ⟨x, hx, rfl⟩ := List.mem_map.mp hd
      simp [mvar, due_in_range_ok x (fun b y e => (V.du x hx b y e).1)]) none
  obtain ⟨o3, e3⟩ := loop_env (i := 6) (fun o => [some (.dat (.lst (wb.first.map dI))), some (.dat (.lst (wb.second.map dI))), some (.dat (dI wb.marks)), some (.dat (.lst (wb.dues.map dDue))), some (.dat (.int wb.marks.length)), o1, o]) (p := p)
    (body := sif (mtru (mcall D_due_too_great (acons (mvar 6) anil))) (sraise 3) sskip) (fun _ _ => rfl) (ds := wb.dues.map dDue) (fun d hd => by
      obtain ⟨x, hx, rfl⟩ := List.mem_map.mp hd
      simp [mvar, due_too_great_no x (fun b y e => (V.du x hx b y e).2)]) o2
  have hk := check_kinds_ok V p
  have hs := check_steps_ok V p
  have hm := check_most_ev (wb.marks.length : Int) 60 p
  rw [if_pos (by omega)] at hm
  have hne : ¬ wb.marks = [] := fun z => by rw [z] at n1; simp at n1
  have hrep : fRep (.lst [.int (wb.marks.length : Int)]) (.int 3) = some (.lst [.int wb.marks.length, .int wb.marks.length, .int wb.marks.length]) := rfl
  simp only [encW] at hk
  simp [D_check_parts, denF, dn_check_parts, locOf, encW, mvar, hk, l1, l2, l3, hne, hrep, fEqD_3, hs, e1, e2, hm, e3]
end PL

namespace PL
open PySem L2 Den
theorem seq_nx {a b : MS} {l l' : Den.Loc} {p p' : List Int} (h : a l p = .nx l' p') : sseq a b l p = b l' p' := sseq_nx a b l l' p p' h
theorem ends_eq (wb : Wb) (n : Nat) (b : D → Bool) : (rngD 0 n).filter b = ((List.range n).filter fun (i : Nat) => b (.int (0 + (i : Int)))).map fun (i : Nat) => D.int (0 + (i : Int)) := by
  unfold rngD
  rw [List.filter_map]
  rfl
theorem pd_dS (ss : List Int) : pd (dS ss) = some (.tuple ((sortSet ss).map .int)) := by
  have : ∀ ns : List Int, pdL (ns.map D.int) = some (ns.map .int) := fun ns => by
    induction ns with
    | nil => rfl
    | cons n ns ih => simp [pdL, pd, ih]
  simp [dS, pd, this]
theorem pdL_dS (l : List (List Int)) : pdL (l.map dS) = some (l.map fun ss => .tuple ((sortSet ss).map .int)) := by
  induction l with
  | nil => rfl
  | cons s l ih => simp [pdL, pd_dS, ih]
theorem depth_ints (ns : List Int) : PyData.depthAll (ns.map .int) = 0 := by
  induction ns with
  | nil => rfl
  | cons n ns ih => simp [PyData.depthAll, PyData.depth, ih]
theorem depth_ll (l : List (List Int)) : PyData.depthAll (l.map fun ss => .tuple ((sortSet ss).map .int)) ≤ 1 := by
  induction l with
  | nil => exact Nat.zero_le _
  | cons s l ih => simp [PyData.depthAll, PyData.depth, depth_ints]; omega
theorem even_ev (wb : Wb) : fEqD false (.tup (wb.first.map dS)) (.tup (wb.second.map dS)) = some (.bl (evB wb)) := by
  have e1 : pd (.tup (wb.first.map dS)) = some (.tuple (wb.first.map fun ss => .tuple ((sortSet ss).map .int))) := by simp [pd, pdL_dS]
  have e2 : pd (.tup (wb.second.map dS)) = some (.tuple (wb.second.map fun ss => .tuple ((sortSet ss).map .int))) := by simp [pd, pdL_dS]
  unfold fEqD evB
  rw [e1, e2]
  have h1 := depth_ll wb.first
  have h2 := depth_ll wb.second
  dsimp only
  rw [if_pos (by simp only [PyData.depth]; omega)]
  rfl
theorem cA {wb : Wb} (V : Valid wb) (p : List Int) : ∀ o : Option L, mcomp (mbind (mvar 1) fun x => mlift (lstOf x)) 6 mtrue (mcall D_as_stands (acons (mvar 6) (acons (mvar 5) anil))) [o, some (.dat (.lst (wb.first.map dI))), some (.dat (.lst (wb.second.map dI))), some (.dat (dI wb.marks)), some (.dat (.lst (wb.dues.map dDue))), some (.dat (.int wb.marks.length)), none, none, none] p = .ok (wb.first.map dS) p := by
  have n1 := V.n1
  have n2 := V.n2
  have l1 := V.l1
  have l2 := V.l2
  have l3 := V.l3
  exact fun o => by
    rw [mcomp_ev (ds := wb.first.map dI) (p' := p) (by simp [mvar]) (by rw [List.length_map]; omega)]
    exact comp_mapL (by simp) dI dS fun ss hs => by
      have := V.s1 ss hs
      simp [mvar, as_stands_ok ss wb.marks.length this.1 this.2]
theorem cB {wb : Wb} (V : Valid wb) (p : List Int) : ∀ o : Option L, mcomp (mbind (mvar 2) fun x => mlift (lstOf x)) 6 mtrue (mcall D_as_stands (acons (mvar 6) (acons (mvar 5) anil))) [o, some (.dat (.lst (wb.first.map dI))), some (.dat (.lst (wb.second.map dI))), some (.dat (dI wb.marks)), some (.dat (.lst (wb.dues.map dDue))), some (.dat (.int wb.marks.length)), none, none, none] p = .ok (wb.second.map dS) p := by
  have n1 := V.n1
  have n2 := V.n2
  have l1 := V.l1
  have l2 := V.l2
  have l3 := V.l3
  exact fun o => by
    rw [mcomp_ev (ds := wb.second.map dI) (p' := p) (by simp [mvar]) (by rw [List.length_map]; omega)]
    exact comp_mapL (by simp) dI dS fun ss hs => by
      have := V.s2 ss hs
      simp [mvar, as_stands_ok ss wb.marks.length this.1 this.2]
theorem cD {wb : Wb} (V : Valid wb) (p : List Int) : ∀ o : Option L, mcomp (mbind (mvar 4) fun x => mlift (lstOf x)) 7 mtrue (mif (mtest (op2 fIsN (mvar 7) (mret D.non))) (mret D.non) (opn fTuple (acons (mvar 7) anil))) [o, some (.dat (.lst (wb.first.map dI))), some (.dat (.lst (wb.second.map dI))), some (.dat (dI wb.marks)), some (.dat (.lst (wb.dues.map dDue))), some (.dat (.int wb.marks.length)), none, none, none] p = .ok (wb.dues.map dDue) p := by
  have n1 := V.n1
  have n2 := V.n2
  have l1 := V.l1
  have l2 := V.l2
  have l3 := V.l3
  exact fun o => by
    rw [mcomp_ev (ds := wb.dues.map dDue) (p' := p) (by simp [mvar]) (by rw [List.length_map]; omega)]
    exact comp_mapL (by simp) dDue dDue fun d _ => by
      rcases dDue_cases d with rfl | ⟨b, x, rfl⟩
      · simp [mvar, dDue]
      · simp [mvar, dDue_some]
theorem cG {wb : Wb} (V : Valid wb) (p : List Int) : ∀ o : Option L, mcomp (mbind (mvar 4) fun x => mlift (lstOf x)) 7 mtrue (mif (mtest (op2 fIsN (mvar 7) (mret D.non))) (mret (D.int 0)) (op2 fIx (mvar 7) (mret (D.int 1)))) [o, some (.dat (.lst (wb.first.map dI))), some (.dat (.lst (wb.second.map dI))), some (.dat (dI wb.marks)), some (.dat (.lst (wb.dues.map dDue))), some (.dat (.int wb.marks.length)), none, none, none] p = .ok (wb.dues.map fun d => .int (gdI d)) p := by
  have n1 := V.n1
  have n2 := V.n2
  have l1 := V.l1
  have l2 := V.l2
  have l3 := V.l3
  exact fun o => by
    rw [mcomp_ev (ds := wb.dues.map dDue) (p' := p) (by simp [mvar]) (by rw [List.length_map]; omega)]
    exact comp_mapL (by simp) dDue (fun d => .int (gdI d)) fun d _ => by
      rcases dDue_cases d with rfl | ⟨b, x, rfl⟩
      · simp [mvar, dDue, gdI]
      · simp [mvar, dDue_some, gdI]
theorem hmv {wb : Wb} (V : Valid wb) : ∀ d ∈ rngD 0 wb.marks.length, (fIx (.lst (wb.first.map dI)) d).bind truOf = some (moves wb d) := by
  have n1 := V.n1
  have n2 := V.n2
  have l1 := V.l1
  have l2 := V.l2
  have l3 := V.l3
  exact fun d hd => by
    obtain ⟨i, hi, rfl⟩ := rngD_mem hd
    have hi' : i < wb.first.length := by omega
    have g : atI (wb.first.map dI) ((0 : Int) + (i : Int)) = some (dI wb.first[i]) := by
      rw [Int.zero_add]
      exact atI_nat (by rw [List.getElem?_map, List.getElem?_eq_getElem hi']; rfl)
    unfold moves
    simp only [fIx_lst, g, Option.bind_some, truOf_dI]
theorem hmv2 {wb : Wb} (V : Valid wb) (p : List Int) : ∀ (l : Den.Loc) d, d ∈ rngD 0 wb.marks.length → l[1]? = some (some (.dat (.lst (wb.first.map dI)))) → l[8]? = some (some (.dat d)) → mtru (op2 fIx (mvar 1) (mvar 8)) l p = .ok (moves wb d) p := by
  have n1 := V.n1
  have n2 := V.n2
  have l1 := V.l1
  have l2 := V.l2
  have l3 := V.l3
  exact fun l d hd h1 h8 => by
    have := hmv V d hd
    simp only [mtru_ev, op2_ev, mvar_ev h1, mvar_ev h8, bind_ok]
    cases e : fIx (.lst (wb.first.map dI)) d with
    | none => rw [e] at this; cases this
    | some y =>
      rw [e] at this
      simp only [Option.bind_some] at this
      simp [this]
theorem cE {wb : Wb} (V : Valid wb) (p : List Int) : ∀ o : Option L, mcomp (mbind (acons (mvar 5) anil) fun x => mlift (rng1 x)) 8 (mnot (mtru (op2 fIx (mvar 1) (mvar 8)))) (mvar 8) [o, some (.dat (.lst (wb.first.map dI))), some (.dat (.lst (wb.second.map dI))), some (.dat (dI wb.marks)), some (.dat (.lst (wb.dues.map dDue))), some (.dat (.int wb.marks.length)), none, none, none] p = .ok ((rngD 0 wb.marks.length).filter fun d => !moves wb d) p := by
  have n1 := V.n1
  have n2 := V.n2
  have l1 := V.l1
  have l2 := V.l2
  have l3 := V.l3
  exact fun o => by
    have hr : rng1 [D.int (wb.marks.length : Int)] = some (rngD 0 wb.marks.length) := by
      have h := rng1_int (n := (wb.marks.length : Int)) (by omega)
      rw [Int.toNat_natCast] at h
      exact h
    refine (mcomp_ev (ds := rngD 0 wb.marks.length) (p' := p) ?_ (by rw [rngD_len]; omega)).trans ?_
    · simp only [mbind_ev, acons_ev, mvar, List.getElem?_cons_succ, List.getElem?_cons_zero, bind_ok, anil_ev, hr, mlift_some]
    refine comp_filter (by simp) _ (fun d hd => ?_) fun d hd => mvar_ev (by simp)
    have q := hmv2 V p (List.set [o, some (.dat (.lst (wb.first.map dI))), some (.dat (.lst (wb.second.map dI))), some (.dat (dI wb.marks)), some (.dat (.lst (wb.dues.map dDue))), some (.dat (.int wb.marks.length)), none, none, none] 8 (some (.dat d))) d hd (by simp) (by simp)
    rw [mnot_ev, q]
    rfl
theorem cM {wb : Wb} (V : Valid wb) (p : List Int) : ∀ o : Option L, mcomp (mbind (acons (mvar 5) anil) fun x => mlift (rng1 x)) 8 (mtru (op2 fIx (mvar 1) (mvar 8))) (mvar 8) [o, some (.dat (.lst (wb.first.map dI))), some (.dat (.lst (wb.second.map dI))), some (.dat (dI wb.marks)), some (.dat (.lst (wb.dues.map dDue))), some (.dat (.int wb.marks.length)), none, none, none] p = .ok ((rngD 0 wb.marks.length).filter fun d => moves wb d) p := by
  have n1 := V.n1
  have n2 := V.n2
  have l1 := V.l1
  have l2 := V.l2
  have l3 := V.l3
  exact fun o => by
    have hr : rng1 [D.int (wb.marks.length : Int)] = some (rngD 0 wb.marks.length) := by
      have h := rng1_int (n := (wb.marks.length : Int)) (by omega)
      rw [Int.toNat_natCast] at h
      exact h
    refine (mcomp_ev (ds := rngD 0 wb.marks.length) (p' := p) ?_ (by rw [rngD_len]; omega)).trans ?_
    · simp only [mbind_ev, acons_ev, mvar, List.getElem?_cons_succ, List.getElem?_cons_zero, bind_ok, anil_ev, hr, mlift_some]
    refine comp_filter (by simp) _ (fun d hd => ?_) fun d hd => mvar_ev (by simp)
    exact hmv2 V p (List.set [o, some (.dat (.lst (wb.first.map dI))), some (.dat (.lst (wb.second.map dI))), some (.dat (dI wb.marks)), some (.dat (.lst (wb.dues.map dDue))), some (.dat (.int wb.marks.length)), none, none, none] 8 (some (.dat d))) d hd (by simp) (by simp)
theorem gdE {wb : Wb} (V : Valid wb) : fMaxL [.lst (wb.dues.map fun d => .int (gdI d))] = some (gdD wb) := by
  have n1 := V.n1
  have n2 := V.n2
  have l1 := V.l1
  have l2 := V.l2
  have l3 := V.l3
  have e : intsOf (wb.dues.map fun d => D.int (gdI d)) = some (wb.dues.map gdI) := by
    have := intsOf_map (wb.dues.map gdI)
    rwa [List.map_map] at this
  show (intsOf (wb.dues.map fun d => D.int (gdI d))).bind mostOf = some (gdD wb)
  rw [e]
  unfold gdD
  cases e2 : wb.dues.map gdI with
  | nil =>
    have h0 : wb.dues.length = 0 := by rw [← List.length_map (f := gdI), e2]; rfl
    omega
  | cons n ns => rfl
theorem init_eval {wb : Wb} (V : Valid wb) (x : Addr) (A : CA) (p : List Int) : denI x A.Web 5 9 (dn_Web_init A) (encW wb) p = .ok (wnames, wfields wb) p := by
  have n1 := V.n1
  have n2 := V.n2
  have l1 := V.l1
  have l2 := V.l2
  have l3 := V.l3
  have hp := check_parts_ok V p
  simp only [encW] at hp
  unfold denI
  rw [if_pos (show (encW wb).length + 1 = 5 from rfl)]
  show outI x A.Web (dn_Web_init A [some (.obj x A.Web [] []), some (.dat (.lst (wb.first.map dI))), some (.dat (.lst (wb.second.map dI))), some (.dat (dI wb.marks)), some (.dat (.lst (wb.dues.map dDue))), none, none, none, none] p) = _
  unfold dn_Web_init
  rw [seq_nx (l' := _) (p' := p) (by simp [mvar, hp]; rfl)]
  rw [seq_nx (l' := [some (.obj x A.Web [] []), some (.dat (.lst (wb.first.map dI))), some (.dat (.lst (wb.second.map dI))), some (.dat (dI wb.marks)), some (.dat (.lst (wb.dues.map dDue))), some (.dat (.int wb.marks.length)), none, none, none]) (p' := p) (by simp [mvar])]
  rw [seq_nx (sfldO_ev (x := .int wb.marks.length) (p' := p) (by simp [mvar]) rfl ⟨rfl, by decide, by decide +kernel⟩)]
  simp only [List.set_cons_zero, List.nil_append, List.cons_append]
  rw [seq_nx (sfldO_ev (x := .tup (wb.first.map dS)) (p' := p) (by simp [cA V p]) rfl ⟨rfl, by decide, by decide +kernel⟩)]
  simp only [List.set_cons_zero, List.nil_append, List.cons_append]
  rw [seq_nx (sfldO_ev (x := .tup (wb.second.map dS)) (p' := p) (by simp [cB V p]) rfl ⟨rfl, by decide, by decide +kernel⟩)]
  simp only [List.set_cons_zero, List.nil_append, List.cons_append]
  rw [seq_nx (sfldO_ev (x := .tup (wb.marks.map .int)) (p' := p) (by simp [mvar]) rfl ⟨rfl, by decide, by decide +kernel⟩)]
  simp only [List.set_cons_zero, List.nil_append, List.cons_append]
  rw [seq_nx (sfldO_ev (x := .tup (wb.dues.map dDue)) (p' := p) (by simp [cD V p]) rfl ⟨rfl, by decide, by decide +kernel⟩)]
  simp only [List.set_cons_zero, List.nil_append, List.cons_append]
  rw [seq_nx (sfldO_ev (x := .tup ((rngD 0 wb.marks.length).filter fun d => !moves wb d)) (p' := p) (by simp [cE V p]) rfl ⟨rfl, by decide, by decide +kernel⟩)]
  simp only [List.set_cons_zero, List.nil_append, List.cons_append]
  rw [seq_nx (sfldO_ev (x := .tup ((rngD 0 wb.marks.length).filter fun d => moves wb d)) (p' := p) (by simp [cM V p]) rfl ⟨rfl, by decide, by decide +kernel⟩)]
  simp only [List.set_cons_zero, List.nil_append, List.cons_append]
  rw [seq_nx (sfldO_ev (x := gdD wb) (p' := p) (by simp [cG V p, gdE V]) rfl ⟨rfl, by decide, by decide +kernel⟩)]
  simp only [List.set_cons_zero, List.nil_append, List.cons_append]
  rw [sfldO_ev (x := .bl (evB wb)) (p' := p) (by
    have b1 : (("_first" : Str) == "_size") = false := by decide +kernel
    have b2 : (("_second" : Str) == "_size") = false := by decide +kernel
    have b3 : (("_second" : Str) == "_first") = false := by decide +kernel
    simp [mfldO, List.lookup, b1, b2, b3, even_ev]) rfl ⟨rfl, by decide, by decide +kernel⟩]
  simp only [List.set_cons_zero, List.nil_append, List.cons_append]
  unfold outI
  simp [wnames, wfields]
theorem D_Web_init_len (A : CA) : ∀ ds pot, D_Web_init A ds pot ≠ .bad → ds.length + 1 = 5 := fun ds pot h => by
  unfold D_Web_init at h
  split at h
  · rename_i z
    obtain ⟨wb, _, rfl⟩ := z
    rfl
  · exact absurd rfl h
theorem D_Web_init_is (A : CA) : ∀ x ds pot, ds.length + 1 = 5 → D_Web_init A ds pot ≠ .bad → denI x A.Web 5 9 (dn_Web_init A) ds pot = D_Web_init A ds pot := fun x ds pot _ h => by
  unfold D_Web_init at h ⊢
  split
  · rename_i z
    obtain ⟨V, e⟩ := Classical.choose_spec z
    have q := init_eval V x A pot
    rw [← e] at q
    exact q
  · rename_i z
    rw [dif_neg z] at h
    exact absurd rfl h
theorem D_Web_init_eval {wb : Wb} (V : Valid wb) (A : CA) (p : List Int) : D_Web_init A (encW wb) p = .ok (wnames, wfields wb) p := by
  have hz : ∃ wb', Valid wb' ∧ encW wb = encW wb' := ⟨wb, V, rfl⟩
  have h : D_Web_init A (encW wb) p ≠ .bad := by
    unfold D_Web_init
    rw [dif_pos hz]
    exact fun z => nomatch z
  rw [← D_Web_init_is A 0 (encW wb) p rfl h]
  exact init_eval V 0 A p
end PL

namespace K05
open PySem L2 Den PL
noncomputable section
variable {c : Cfg} {P : Program} {w : World} {mg : Str → Option Value} {base : Heap} {A : Adr}
theorem ok_is_integer (T : Txt c mg A) : FnR P w c.K mg base (L2.CX P w) 1 A.is_integer (spD c (D_is_integer)) :=
  fn_ss (N := Nn_is_integer) (ps := ["thing"]) (s := dn_is_integer) T.F_is_integer sc_is_integer (T.F_is_integer.binds (ps := ["thing"]) fun _ _ _ _ _ _ us hl => match us, hl with | [_], _ => rfl) fun cdv A_ outer sh H E' hr => ⟨(tRet (tAndV (tCB (rIsi c.K) (tCons (tVar 0) (tCons (tC (V.ty "int")) tNil))) (tNotV (tCB (rIsi c.K) (tCons (tVar 0) (tCons (tC (V.ty "bool")) tNil)))))),
    (pss_one (ps_ret (pe_and (pe_callB call_isi (by rfl) T.n_isinstance (by decide +kernel) (pa_cons (pv 0) (pa_cons (pe_bltn (v := V.ty "int") (by rfl) T.n_int (by decide +kernel) rfl) pa_nil))) (pe_one (pe_not (pe_callB call_isi (by rfl) T.n_isinstance (by decide +kernel) (pa_cons (pv 0) (pa_cons (pe_bltn (v := V.ty "bool") (by rfl) T.n_bool (by decide +kernel) rfl) pa_nil)))))))),
    (ss_ret (se_and (se_cb sn_is1 (sa_cons se_var (sa_cons (se_c fun _ _ => At.ty Ty.int) sa_nil))) (se_not (se_cb sn_is1 (sa_cons se_var (sa_cons (se_c fun _ _ => At.ty Ty.bl) sa_nil))))))⟩
theorem ok_check_whole (T : Txt c mg A) : FnR P w c.K mg base (L2.CX P w) 2 A.check_whole (spD c (D_check_whole)) :=
  fn_star_ss (N := Nn_check_whole) (pv := "things") (s := dn_check_whole) T.F_check_whole sc_check_whole (fun _ _ _ _ _ _ rest => by cases rest <;> rfl) fun cdv A_ outer sh H E' hr => ⟨(tFor (iTup c.K (tVar 0)) (gName 1) (tIfS (tNot (fun σ H Q => (tCallS (spD c D_is_integer) (fun _ => E') (tCons (tVar 1) tNil)) σ H fun x H' => ∃ k, TruV c.K x H' k ∧ Q k H')) (fun _ σ H => E' (Value.ref (c.ec 0)) none H) tNext)),
    (pss_one (ps_for (passes_of rfl) rfl (pi_tup (pv 0)) (pg_name (i := 1) sc_check_whole.nd rfl (by first | exact Or.inl rfl | exact Or.inr rfl)) (pss_one (ps_if (pt_not (pt_truth (pe_callRS (ok_is_integer T) (hr.mono (by decide)) (by rfl) T.m_is_integer T.F_is_integer.kp (passE (takes_of rfl rfl rfl rfl)) (pa_cons (pv 1) pa_nil)) (by intro _; rfl))) (pss_one (ps_raise rfl (takes_of rfl rfl rfl rfl) (pmk_own PySem.F.excBase_Exception T.xE0 T.mE0 T.kE0 (raises_own T.bE0 T.tE0) (by exact rfl)))) pss_nil)))),
    (ss_for (si_tup se_var) sg_name (ss_if (st_not (st_tru (se_call (sa_cons se_var sa_nil)))) (ss_raise (n := 0)) ss_next))⟩
theorem ok_whole_list (T : Txt c mg A) : FnR P w c.K mg base (L2.CX P w) 3 A.whole_list (spD c (D_whole_list)) :=
  fn_ss (N := Nn_whole_list) (ps := ["thing"]) (s := dn_whole_list) T.F_whole_list sc_whole_list (T.F_whole_list.binds (ps := ["thing"]) fun _ _ _ _ _ _ us hl => match us, hl with | [_], _ => rfl) fun cdv A_ outer sh H E' hr => ⟨(tSeq (tIfS (tNot (fun σ H Q => (tCB (rIsiT c.K) (tCons (tVar 0) (tCons (tTup (tCons (tC (V.ty "list")) (tCons (tC (V.ty "tuple")) tNil))) tNil))) σ H fun x H' => ∃ k, TruV c.K x H' k ∧ Q k H')) (fun _ σ H => E' (Value.ref (c.ec 0)) none H) tNext)
    (tSeq (tDrop (tCallStar c.K (spD c D_check_whole) (fun _ => E') (tVar 0)))
    (tRet (tCB (rTupleF c.K) (tCons (tVar 0) tNil))))),
    (pss_cons (ps_if (pt_not (pt_truth (pe_callB call_isiT (by rfl) T.n_isinstance (by decide +kernel) (pa_cons (pv 0) (pa_cons (pe_tup (pa_cons (pe_bltn (v := V.ty "list") (by rfl) T.n_list (by decide +kernel) rfl) (pa_cons (pe_bltn (v := V.ty "tuple") (by rfl) T.n_tuple (by decide +kernel) rfl) pa_nil))) pa_nil))) (by intro _; rfl))) (pss_one (ps_raise rfl (takes_of rfl rfl rfl rfl) (pmk_own PySem.F.excBase_Exception T.xE0 T.mE0 T.kE0 (raises_own T.bE0 T.tE0) (by exact rfl)))) pss_nil)
    (pss_cons (ps_expr (pe_callStar (ok_check_whole T) (hr.mono (by decide)) T.F_check_whole.kp (by rfl) T.m_check_whole (passE (takes_of rfl rfl rfl rfl)) (pv 0)))
    (pss_one (ps_ret (pe_callTy call_tuple_of (by rfl) T.n_tuple (by decide +kernel) (pa_cons (pv 0) pa_nil)))))),
    (ss_seq (ss_if (st_not (st_tru (se_cb sn_is2 (sa_cons se_var (sa_cons (se_tup (sa_cons (se_c fun _ _ => At.ty Ty.lst) (sa_cons (se_c fun _ _ => At.ty Ty.tup) sa_nil))) sa_nil))))) (ss_raise (n := 0)) ss_next)
    (ss_seq (ss_drop (se_star se_var))
    (ss_ret (se_cb sn_tuple (sa_cons se_var sa_nil)))))⟩
theorem ok_check_size (T : Txt c mg A) : FnR P w c.K mg base (L2.CX P w) 1 A.check_size (spD c (D_check_size)) :=
  fn_ss (N := Nn_check_size) (ps := ["row", "size"]) (s := dn_check_size) T.F_check_size sc_check_size (T.F_check_size.binds (ps := ["row", "size"]) fun _ _ _ _ _ _ us hl => match us, hl with | [_, _], _ => rfl) fun cdv A_ outer sh H E' hr => ⟨(tIfS (tTest (tOp rNe (tCB (rLenS c.K) (tCons (tVar 0) tNil)) (tVar 1))) (fun _ σ H => E' (Value.ref (c.ec 1)) none H) tNext),
    (pss_one (ps_if (pt_cmpR op_ne (pe_callB call_len_seq (by rfl) T.n_len (by decide +kernel) (pa_cons (pv 0) pa_nil)) (pv 1) (nomark _)) (pss_one (ps_raise rfl (takes_of rfl rfl rfl rfl) (pmk_own PySem.F.excBase_Exception T.xE1 T.mE1 T.kE1 (raises_own T.bE1 T.tE1) (by exact rfl)))) pss_nil)),
    (ss_if (st_test (se_op2 s2_ne (se_cb sn_len (sa_cons se_var sa_nil)) se_var)) (ss_raise (n := 1)) ss_next)⟩
theorem ok_check_range (T : Txt c mg A) : FnR P w c.K mg base (L2.CX P w) 1 A.check_range (spD c (D_check_range)) :=
  fn_ss (N := Nn_check_range) (ps := ["number", "least", "most"]) (s := dn_check_range) T.F_check_range sc_check_range (T.F_check_range.binds (ps := ["number", "least", "most"]) fun _ _ _ _ _ _ us hl => match us, hl with | [_, _, _], _ => rfl) fun cdv A_ outer sh H E' hr => ⟨(tIfS (tOr (tTest (tOp (rI0 fun i j => V.bl (decide (i < j))) (tVar 0) (tVar 1))) (tTest (tOp (rI0 fun i j => V.bl (decide (j < i))) (tVar 0) (tVar 2)))) (fun _ σ H => E' (Value.ref (c.ec 1)) none H) tNext),
    (pss_one (ps_if (PW.pt (pw_or (pt_cmpR op_lt (pv 0) (pv 1) (nomark _)) (pw_or1 (pt_cmpR op_gt (pv 0) (pv 2) (nomark _))))) (pss_one (ps_raise rfl (takes_of rfl rfl rfl rfl) (pmk_own PySem.F.excBase_Exception T.xE1 T.mE1 T.kE1 (raises_own T.bE1 T.tE1) (by exact rfl)))) pss_nil)),
    (ss_if (st_or (st_test (se_op2 s2_lt se_var se_var)) (st_test (se_op2 s2_gt se_var se_var))) (ss_raise (n := 1)) ss_next)⟩
theorem ok_check_least (T : Txt c mg A) : FnR P w c.K mg base (L2.CX P w) 1 A.check_least (spD c (D_check_least)) :=
  fn_ss (N := Nn_check_least) (ps := ["number", "least"]) (s := dn_check_least) T.F_check_least sc_check_least (T.F_check_least.binds (ps := ["number", "least"]) fun _ _ _ _ _ _ us hl => match us, hl with | [_, _], _ => rfl) fun cdv A_ outer sh H E' hr => ⟨(tIfS (tTest (tOp (rI0 fun i j => V.bl (decide (i < j))) (tVar 0) (tVar 1))) (fun _ σ H => E' (Value.ref (c.ec 1)) none H) tNext),
    (pss_one (ps_if (pt_cmpR op_lt (pv 0) (pv 1) (nomark _)) (pss_one (ps_raise rfl (takes_of rfl rfl rfl rfl) (pmk_own PySem.F.excBase_Exception T.xE1 T.mE1 T.kE1 (raises_own T.bE1 T.tE1) (by exact rfl)))) pss_nil)),
    (ss_if (st_test (se_op2 s2_lt se_var se_var)) (ss_raise (n := 1)) ss_next)⟩
theorem ok_check_most (T : Txt c mg A) : FnR P w c.K mg base (L2.CX P w) 1 A.check_most (spD c (D_check_most)) :=
  fn_ss (N := Nn_check_most) (ps := ["number", "most"]) (s := dn_check_most) T.F_check_most sc_check_most (T.F_check_most.binds (ps := ["number", "most"]) fun _ _ _ _ _ _ us hl => match us, hl with | [_, _], _ => rfl) fun cdv A_ outer sh H E' hr => ⟨(tIfS (tTest (tOp (rI0 fun i j => V.bl (decide (j < i))) (tVar 0) (tVar 1))) (fun _ σ H => E' (Value.ref (c.ec 3)) none H) tNext),
    (pss_one (ps_if (pt_cmpR op_gt (pv 0) (pv 1) (nomark _)) (pss_one (ps_raise rfl (takes_of rfl rfl rfl rfl) (pmk_own PySem.F.excBase_Exception T.xE3 T.mE3 T.kE3 (raises_own T.bE3 T.tE3) (by exact rfl)))) pss_nil)),
    (ss_if (st_test (se_op2 s2_gt se_var se_var)) (ss_raise (n := 3)) ss_next)⟩
theorem ok_as_stands (T : Txt c mg A) : FnR P w c.K mg base (L2.CX P w) 4 A.as_stands (spD c (D_as_stands)) :=
  fn_ss (N := Nn_as_stands) (ps := ["thing", "size"]) (s := dn_as_stands) T.F_as_stands sc_as_stands (T.F_as_stands.binds (ps := ["thing", "size"]) fun _ _ _ _ _ _ us hl => match us, hl with | [_, _], _ => rfl) fun cdv A_ outer sh H E' hr => ⟨(tSeq (tAsg (tCallS (spD c D_whole_list) (fun _ => E') (tCons (tVar 0) tNil)) (gName 2))
    (tSeq (tFor (iTup c.K (tVar 2)) (gName 3) (tDrop (tCallS (spD c D_check_range) (fun _ => E') (tCons (tVar 3) (tCons (tC (V.int 0)) (tCons (tOp (rI0 fun i j => V.int (i - j)) (tVar 1) (tC (V.int 1))) tNil))))))
    (tRet (tCB (rTupleF c.K) (tCons (tCB (rSortedSet w) (tCons (tCB (rSetI c.K w) (tCons (tVar 2) tNil)) tNil)) tNil))))),
    (pss_cons (ps_asg (pe_callRS (ok_whole_list T) (hr.mono (by decide)) (by rfl) T.m_whole_list T.F_whole_list.kp (passE (takes_of rfl rfl rfl rfl)) (pa_cons (pv 0) pa_nil)) (pg_name (i := 2) sc_as_stands.nd rfl (by first | exact Or.inl rfl | exact Or.inr rfl)))
    (pss_cons (ps_for (passes_of rfl) rfl (pi_tup (pv 2)) (pg_name (i := 3) sc_as_stands.nd rfl (by first | exact Or.inl rfl | exact Or.inr rfl)) (pss_one (ps_expr (pe_callRS (ok_check_range T) (hr.mono (by decide)) (by rfl) T.m_check_range T.F_check_range.kp (passE (takes_of rfl rfl rfl rfl)) (pa_cons (pv 3) (pa_cons pe_int (pa_cons (pe_op op_sub (pv 1) pe_int) pa_nil)))))))
    (pss_one (ps_ret (pe_callTy call_tuple_of (by rfl) T.n_tuple (by decide +kernel) (pa_cons (pe_callB (cr_sortedSet rfl) (by rfl) T.n_sorted (by decide +kernel) (pa_cons (pe_callTy (cr_setI rfl) (by rfl) T.n_set (by decide +kernel) (pa_cons (pv 2) pa_nil)) pa_nil)) pa_nil)))))),
    (ss_seq (ss_asg (se_call (sa_cons se_var sa_nil)) sg_name)
    (ss_seq (ss_for (si_tup se_var) sg_name (ss_drop (se_call (sa_cons se_var (sa_cons se_int (sa_cons (se_op2 s2_sub se_var se_int) sa_nil))))))
    (ss_ret (se_cb sn_tuple (sa_cons (se_sortSet se_var) sa_nil)))))⟩
theorem ok_is_due (T : Txt c mg A) : FnR P w c.K mg base (L2.CX P w) 2 A.is_due (spD c (D_is_due)) :=
  fn_ss (N := Nn_is_due) (ps := ["due"]) (s := dn_is_due) T.F_is_due sc_is_due (T.F_is_due.binds (ps := ["due"]) fun _ _ _ _ _ _ us hl => match us, hl with | [_], _ => rfl) fun cdv A_ outer sh H E' hr => ⟨(tSeq (tIfS (tTest (tOp rIsNF (tVar 0) (tC V.non))) (tRet (tC (V.bl true))) tNext)
    (tSeq (tIfS (tOr (tNot (fun σ H Q => (tCB (rIsiT c.K) (tCons (tVar 0) (tCons (tTup (tCons (tC (V.ty "list")) (tCons (tC (V.ty "tuple")) tNil))) tNil))) σ H fun x H' => ∃ k, TruV c.K x H' k ∧ Q k H')) (tTest (tOp rNe (tCB (rLenS c.K) (tCons (tVar 0) tNil)) (tC (V.int 2))))) (tRet (tC (V.bl false))) tNext)
    (tRet (tAndV (tCB (rIsi c.K) (tCons (tOp (rIx c.K) (tVar 0) (tC (V.int 0))) (tCons (tC (V.ty "str")) tNil))) (tCallS (spD c D_is_integer) (fun _ => E') (tCons (tOp (rIx c.K) (tVar 0) (tC (V.int 1))) tNil)))))),
    (pss_cons (ps_if (pt_cmpR op_isN (pv 0) pe_non (nomark _)) (pss_one (ps_ret pe_bl)) pss_nil)
    (pss_cons (ps_if (PW.pt (pw_or (pt_not (pt_truth (pe_callB call_isiT (by rfl) T.n_isinstance (by decide +kernel) (pa_cons (pv 0) (pa_cons (pe_tup (pa_cons (pe_bltn (v := V.ty "list") (by rfl) T.n_list (by decide +kernel) rfl) (pa_cons (pe_bltn (v := V.ty "tuple") (by rfl) T.n_tuple (by decide +kernel) rfl) pa_nil))) pa_nil))) (by intro _; rfl))) (pw_or1 (pt_cmpR op_ne (pe_callB call_len_seq (by rfl) T.n_len (by decide +kernel) (pa_cons (pv 0) pa_nil)) pe_int (nomark _))))) (pss_one (ps_ret pe_bl)) pss_nil)
    (pss_one (ps_ret (pe_and (pe_callB call_isi (by rfl) T.n_isinstance (by decide +kernel) (pa_cons (pe_ix ix_seq (pv 0) pe_int (fun _ _ => rfl)) (pa_cons (pe_bltn (v := V.ty "str") (by rfl) T.n_str (by decide +kernel) rfl) pa_nil))) (pe_one (pe_callRS (ok_is_integer T) (hr.mono (by decide)) (by rfl) T.m_is_integer T.F_is_integer.kp (passE (takes_of rfl rfl rfl rfl)) (pa_cons (pe_ix ix_seq (pv 0) pe_int (fun _ _ => rfl)) pa_nil)))))))),
    (ss_seq (ss_if (st_test (se_op2 s2_isN se_var se_non)) (ss_ret se_bl) ss_next)
    (ss_seq (ss_if (st_or (st_not (st_tru (se_cb sn_is2 (sa_cons se_var (sa_cons (se_tup (sa_cons (se_c fun _ _ => At.ty Ty.lst) (sa_cons (se_c fun _ _ => At.ty Ty.tup) sa_nil))) sa_nil))))) (st_test (se_op2 s2_ne (se_cb sn_len (sa_cons se_var sa_nil)) se_int))) (ss_ret se_bl) ss_next)
    (ss_ret (se_and (se_cb sn_is1 (sa_cons (se_op2 s2_ix se_var se_int) (sa_cons (se_c fun _ _ => At.ty Ty.str) sa_nil))) (se_call (sa_cons (se_op2 s2_ix se_var se_int) sa_nil))))))⟩
theorem ok_due_in_range (T : Txt c mg A) : FnR P w c.K mg base (L2.CX P w) 1 A.due_in_range (spD c (D_due_in_range)) :=
  fn_ss (N := Nn_due_in_range) (ps := ["due"]) (s := dn_due_in_range) T.F_due_in_range sc_due_in_range (T.F_due_in_range.binds (ps := ["due"]) fun _ _ _ _ _ _ us hl => match us, hl with | [_], _ => rfl) fun cdv A_ outer sh H E' hr => ⟨(tRet (tOrV (tOp rIsNF (tVar 0) (tC V.non)) (tAndV (tOp (rIn c.K false) (tOp (rIx c.K) (tVar 0) (tC (V.int 0))) (tTup (tCons (tC (V.str "chips")) (tCons (tC (V.str "less")) tNil)))) (tOp (rI0 fun i j => V.bl (decide (j ≤ i))) (tOp (rIx c.K) (tVar 0) (tC (V.int 1))) (tC (V.int 0)))))),
    (pss_one (ps_ret (pe_or (pe_cmpR op_isN (pv 0) pe_non (nomark _)) (pe_one (pe_and (pe_cmpR op_in_seq (pe_ix ix_seq (pv 0) pe_int (fun _ _ => rfl)) (pe_tup (pa_cons pe_str (pa_cons pe_str pa_nil))) rfl) (pe_one (pe_cmpR op_ge (pe_ix ix_seq (pv 0) pe_int (fun _ _ => rfl)) pe_int (nomark _)))))))),
    (ss_ret (se_or (se_op2 s2_isN se_var se_non) (se_and (se_op2 s2_in (se_op2 s2_ix se_var se_int) (se_tup (sa_cons se_str (sa_cons se_str sa_nil)))) (se_op2 s2_ge (se_op2 s2_ix se_var se_int) se_int))))⟩
theorem ok_due_too_great (T : Txt c mg A) : FnR P w c.K mg base (L2.CX P w) 1 A.due_too_great (spD c (D_due_too_great)) :=
  fn_ss (N := Nn_due_too_great) (ps := ["due"]) (s := dn_due_too_great) T.F_due_too_great sc_due_too_great (T.F_due_too_great.binds (ps := ["due"]) fun _ _ _ _ _ _ us hl => match us, hl with | [_], _ => rfl) fun cdv A_ outer sh H E' hr => ⟨(tRet (tAndV (tOp rNotNF (tVar 0) (tC V.non)) (tOp (rI0 fun i j => V.bl (decide (j < i))) (tOp (rIx c.K) (tVar 0) (tC (V.int 1))) (tC (V.int 10000000000000000000000000000000000000000))))),
    (pss_one (ps_ret (pe_and (pe_cmpR op_notN (pv 0) pe_non (nomark _)) (pe_one (pe_cmpR op_gt (pe_ix ix_seq (pv 0) pe_int (fun _ _ => rfl)) (pe_gint (by rfl) T.c_GREATEST) (nomark _)))))),
    (ss_ret (se_and (se_op2 s2_notN se_var se_non) (se_op2 s2_gt (se_op2 s2_ix se_var se_int) se_int)))⟩
theorem ok_check_due (T : Txt c mg A) : FnR P w c.K mg base (L2.CX P w) 3 A.check_due (spD c (D_check_due)) :=
  fn_ss (N := Nn_check_due) (ps := ["due"]) (s := dn_check_due) T.F_check_due sc_check_due (T.F_check_due.binds (ps := ["due"]) fun _ _ _ _ _ _ us hl => match us, hl with | [_], _ => rfl) fun cdv A_ outer sh H E' hr => ⟨(tIfS (tNot (fun σ H Q => (tCallS (spD c D_is_due) (fun _ => E') (tCons (tVar 0) tNil)) σ H fun x H' => ∃ k, TruV c.K x H' k ∧ Q k H')) (fun _ σ H => E' (Value.ref (c.ec 0)) none H) tNext),
    (pss_one (ps_if (pt_not (pt_truth (pe_callRS (ok_is_due T) (hr.mono (by decide)) (by rfl) T.m_is_due T.F_is_due.kp (passE (takes_of rfl rfl rfl rfl)) (pa_cons (pv 0) pa_nil)) (by intro _; rfl))) (pss_one (ps_raise rfl (takes_of rfl rfl rfl rfl) (pmk_own PySem.F.excBase_Exception T.xE0 T.mE0 T.kE0 (raises_own T.bE0 T.tE0) (by exact rfl)))) pss_nil)),
    (ss_if (st_not (st_tru (se_call (sa_cons se_var sa_nil)))) (ss_raise (n := 0)) ss_next)⟩
theorem ok_check_kinds (T : Txt c mg A) : FnR P w c.K mg base (L2.CX P w) 4 A.check_kinds (spD c (D_check_kinds)) :=
  fn_ss (N := Nn_check_kinds) (ps := ["first", "second", "marks", "dues"]) (s := dn_check_kinds) T.F_check_kinds sc_check_kinds (T.F_check_kinds.binds (ps := ["first", "second", "marks", "dues"]) fun _ _ _ _ _ _ us hl => match us, hl with | [_, _, _, _], _ => rfl) fun cdv A_ outer sh H E' hr => ⟨(tSeq (tFor (iTup c.K (tTup (tCons (tVar 0) (tCons (tVar 1) (tCons (tVar 3) tNil))))) (gName 4) (tIfS (tNot (fun σ H Q => (tCB (rIsiT c.K) (tCons (tVar 4) (tCons (tTup (tCons (tC (V.ty "list")) (tCons (tC (V.ty "tuple")) tNil))) tNil))) σ H fun x H' => ∃ k, TruV c.K x H' k ∧ Q k H')) (fun _ σ H => E' (Value.ref (c.ec 0)) none H) tNext))
    (tSeq (tFor (iTup c.K (tTup (StX.tStar c.K (tVar 0) (StX.tStar c.K (tVar 1) (tCons (tVar 2) tNil))))) (gName 4) (tDrop (tCallS (spD c D_whole_list) (fun _ => E') (tCons (tVar 4) tNil))))
    (tFor (iList c.K (tVar 3)) (gName 5) (tDrop (tCallS (spD c D_check_due) (fun _ => E') (tCons (tVar 5) tNil)))))),
    (pss_cons (ps_for (passes_of rfl) rfl (pi_tup (pe_tup (pa_cons (pv 0) (pa_cons (pv 1) (pa_cons (pv 3) pa_nil))))) (pg_name (i := 4) sc_check_kinds.nd rfl (by first | exact Or.inl rfl | exact Or.inr rfl)) (pss_one (ps_if (pt_not (pt_truth (pe_callB call_isiT (by rfl) T.n_isinstance (by decide +kernel) (pa_cons (pv 4) (pa_cons (pe_tup (pa_cons (pe_bltn (v := V.ty "list") (by rfl) T.n_list (by decide +kernel) rfl) (pa_cons (pe_bltn (v := V.ty "tuple") (by rfl) T.n_tuple (by decide +kernel) rfl) pa_nil))) pa_nil))) (by intro _; rfl))) (pss_one (ps_raise rfl (takes_of rfl rfl rfl rfl) (pmk_own PySem.F.excBase_Exception T.xE0 T.mE0 T.kE0 (raises_own T.bE0 T.tE0) (by exact rfl)))) pss_nil)))
    (pss_cons (ps_for (passes_of rfl) rfl (pi_tup (pe_tup (StX.pa_star (pv 0) (StX.pa_star (pv 1) (pa_cons (pv 2) pa_nil))))) (pg_name (i := 4) sc_check_kinds.nd rfl (by first | exact Or.inl rfl | exact Or.inr rfl)) (pss_one (ps_expr (pe_callRS (ok_whole_list T) (hr.mono (by decide)) (by rfl) T.m_whole_list T.F_whole_list.kp (passE (takes_of rfl rfl rfl rfl)) (pa_cons (pv 4) pa_nil)))))
    (pss_one (ps_for (passes_of rfl) rfl (pi_list (pv 3)) (pg_name (i := 5) sc_check_kinds.nd rfl (by first | exact Or.inl rfl | exact Or.inr rfl)) (pss_one (ps_expr (pe_callRS (ok_check_due T) (hr.mono (by decide)) (by rfl) T.m_check_due T.F_check_due.kp (passE (takes_of rfl rfl rfl rfl)) (pa_cons (pv 5) pa_nil)))))))),
    (ss_seq (ss_for (si_tup (se_tup (sa_cons se_var (sa_cons se_var (sa_cons se_var sa_nil))))) sg_name (ss_if (st_not (st_tru (se_cb sn_is2 (sa_cons se_var (sa_cons (se_tup (sa_cons (se_c fun _ _ => At.ty Ty.lst) (sa_cons (se_c fun _ _ => At.ty Ty.tup) sa_nil))) sa_nil))))) (ss_raise (n := 0)) ss_next))
    (ss_seq (ss_for (si_tup (se_tup (sa_star se_var (sa_star se_var (sa_cons se_var sa_nil))))) sg_name (ss_drop (se_call (sa_cons se_var sa_nil))))
    (ss_for (si_list se_var) sg_name (ss_drop (se_call (sa_cons se_var sa_nil))))))⟩
theorem ok_check_steps (T : Txt c mg A) : FnR P w c.K mg base (L2.CX P w) 1 A.check_steps (spD c (D_check_steps)) :=
  fn_ss (N := Nn_check_steps) (ps := ["first", "second"]) (s := dn_check_steps) T.F_check_steps sc_check_steps (T.F_check_steps.binds (ps := ["first", "second"]) fun _ _ _ _ _ _ us hl => match us, hl with | [_, _], _ => rfl) fun cdv A_ outer sh H E' hr => ⟨(tFor (iEnum c.K (tCons (tVar 0) tNil)) (gTup c.K 2 (gCons (gName 2) (gCons (gName 3) gNil))) (tSeq (tFor (iTup c.K (tTup (StX.tStar c.K (tVar 3) (StX.tStar c.K (tOp (rIx c.K) (tVar 1) (tVar 2)) tNil)))) (gName 4) (tIfS (tOr (tTest (tOp (rI0 fun i j => V.bl (decide (i < j))) (tVar 4) (tC (V.int 0)))) (tTest (tOp (rI0 fun i j => V.bl (decide (j ≤ i))) (tVar 4) (tCB (rLenS c.K) (tCons (tVar 0) tNil))))) (fun _ σ H => E' (Value.ref (c.ec 2)) none H) tNext))
    (tIfS (tTest (tOp rNe (tCB (rBoolT c.K) (tCons (tVar 3) tNil)) (tCB (rBoolT c.K) (tCons (tOp (rIx c.K) (tVar 1) (tVar 2)) tNil)))) (fun _ σ H => E' (Value.ref (c.ec 2)) none H) tNext))),
    (pss_one (ps_for (passes_of rfl) rfl (pi_enum (by rfl) T.n_enumerate (pa_cons (pv 0) pa_nil)) (pg_tup rfl (pgs_cons (pg_name (i := 2) sc_check_steps.nd rfl (by first | exact Or.inl rfl | exact Or.inr rfl)) (pgs_cons (pg_name (i := 3) sc_check_steps.nd rfl (by first | exact Or.inl rfl | exact Or.inr rfl)) pgs_nil))) (pss_cons (ps_for (passes_of rfl) rfl (pi_tup (pe_tup (StX.pa_star (pv 3) (StX.pa_star (pe_ix ix_seq (pv 1) (pv 2) (fun _ _ => rfl)) pa_nil)))) (pg_name (i := 4) sc_check_steps.nd rfl (by first | exact Or.inl rfl | exact Or.inr rfl)) (pss_one (ps_if (PW.pt (pw_or (pt_cmpR op_lt (pv 4) pe_int (nomark _)) (pw_or1 (pt_cmpR op_ge (pv 4) (pe_callB call_len_seq (by rfl) T.n_len (by decide +kernel) (pa_cons (pv 0) pa_nil)) (nomark _))))) (pss_one (ps_raise rfl (takes_of rfl rfl rfl rfl) (pmk_own PySem.F.excBase_Exception T.xE2 T.mE2 T.kE2 (raises_own T.bE2 T.tE2) (by exact rfl)))) pss_nil)))
    (pss_one (ps_if (pt_cmpR op_ne (pe_callTy call_boolT (by rfl) T.n_bool (by decide +kernel) (pa_cons (pv 3) pa_nil)) (pe_callTy call_boolT (by rfl) T.n_bool (by decide +kernel) (pa_cons (pe_ix ix_seq (pv 1) (pv 2) (fun _ _ => rfl)) pa_nil)) (nomark _)) (pss_one (ps_raise rfl (takes_of rfl rfl rfl rfl) (pmk_own PySem.F.excBase_Exception T.xE2 T.mE2 T.kE2 (raises_own T.bE2 T.tE2) (by exact rfl)))) pss_nil))))),
    (ss_for (si_enum (sa_cons se_var sa_nil)) sg_pair (ss_seq (ss_for (si_tup (se_tup (sa_star se_var (sa_star (se_op2 s2_ix se_var se_var) sa_nil)))) sg_name (ss_if (st_or (st_test (se_op2 s2_lt se_var se_int)) (st_test (se_op2 s2_ge se_var (se_cb sn_len (sa_cons se_var sa_nil))))) (ss_raise (n := 2)) ss_next))
    (ss_if (st_test (se_op2 s2_ne (se_cb sn_bool (sa_cons se_var sa_nil)) (se_cb sn_bool (sa_cons (se_op2 s2_ix se_var se_var) sa_nil)))) (ss_raise (n := 2)) ss_next)))⟩
theorem ok_check_parts (T : Txt c mg A) : FnR P w c.K mg base (L2.CX P w) 5 A.check_parts (spD c (D_check_parts)) :=
  fn_ss (N := Nn_check_parts) (ps := ["first", "second", "marks", "dues"]) (s := dn_check_parts) T.F_check_parts sc_check_parts (T.F_check_parts.binds (ps := ["first", "second", "marks", "dues"]) fun _ _ _ _ _ _ us hl => match us, hl with | [_, _, _, _], _ => rfl) fun cdv A_ outer sh H E' hr => ⟨(tSeq (tDrop (tCallS (spD c D_check_kinds) (fun _ => E') (tCons (tVar 0) (tCons (tVar 1) (tCons (tVar 2) (tCons (tVar 3) tNil))))))
    (tSeq (tAsg (tCB (rLenS c.K) (tCons (tVar 2) tNil)) (gName 4))
    (tSeq (tIfS (tOr (tTest (tOp rEq (tVar 4) (tC (V.int 0)))) (tTest (tOp (rNeD c.K) (tLst (tCons (tCB (rLenS c.K) (tCons (tVar 0) tNil)) (tCons (tCB (rLenS c.K) (tCons (tVar 1) tNil)) (tCons (tCB (rLenS c.K) (tCons (tVar 3) tNil)) tNil)))) (tOp rRep (tLst (tCons (tVar 4) tNil)) (tC (V.int 3)))))) (fun _ σ H => E' (Value.ref (c.ec 2)) none H) tNext)
    (tSeq (tDrop (tCallS (spD c D_check_steps) (fun _ => E') (tCons (tVar 0) (tCons (tVar 1) tNil))))
    (tSeq (tFor (iList c.K (tVar 2)) (gName 5) (tIfS (tTest (tOp (rIn c.K true) (tVar 5) (tTup (tCons (tC (V.int 1)) (tCons (tC (V.int 2)) tNil))))) (fun _ σ H => E' (Value.ref (c.ec 2)) none H) tNext))
    (tSeq (tFor (iList c.K (tVar 3)) (gName 6) (tIfS (tNot (fun σ H Q => (tCallS (spD c D_due_in_range) (fun _ => E') (tCons (tVar 6) tNil)) σ H fun x H' => ∃ k, TruV c.K x H' k ∧ Q k H')) (fun _ σ H => E' (Value.ref (c.ec 2)) none H) tNext))
    (tSeq (tDrop (tCallS (spD c D_check_most) (fun _ => E') (tCons (tVar 4) (tCons (tC (V.int 60)) tNil))))
    (tFor (iList c.K (tVar 3)) (gName 6) (tIfS (fun σ H Q => (tCallS (spD c D_due_too_great) (fun _ => E') (tCons (tVar 6) tNil)) σ H fun x H' => ∃ k, TruV c.K x H' k ∧ Q k H') (fun _ σ H => E' (Value.ref (c.ec 3)) none H) tNext))))))))),
    (pss_cons (ps_expr (pe_callRS (ok_check_kinds T) (hr.mono (by decide)) (by rfl) T.m_check_kinds T.F_check_kinds.kp (passE (takes_of rfl rfl rfl rfl)) (pa_cons (pv 0) (pa_cons (pv 1) (pa_cons (pv 2) (pa_cons (pv 3) pa_nil))))))
    (pss_cons (ps_asg (pe_callB call_len_seq (by rfl) T.n_len (by decide +kernel) (pa_cons (pv 2) pa_nil)) (pg_name (i := 4) sc_check_parts.nd rfl (by first | exact Or.inl rfl | exact Or.inr rfl)))
    (pss_cons (ps_if (PW.pt (pw_or (pt_cmpR op_eq (pv 4) pe_int (nomark _)) (pw_or1 (pt_cmpR (op_neD (hr.units)) (pe_lst (pa_cons (pe_callB call_len_seq (by rfl) T.n_len (by decide +kernel) (pa_cons (pv 0) pa_nil)) (pa_cons (pe_callB call_len_seq (by rfl) T.n_len (by decide +kernel) (pa_cons (pv 1) pa_nil)) (pa_cons (pe_callB call_len_seq (by rfl) T.n_len (by decide +kernel) (pa_cons (pv 3) pa_nil)) pa_nil)))) (pe_op op_rep (pe_lst (pa_cons (pv 4) pa_nil)) pe_int) (nomark _))))) (pss_one (ps_raise rfl (takes_of rfl rfl rfl rfl) (pmk_own PySem.F.excBase_Exception T.xE2 T.mE2 T.kE2 (raises_own T.bE2 T.tE2) (by exact rfl)))) pss_nil)
    (pss_cons (ps_expr (pe_callRS (ok_check_steps T) (hr.mono (by decide)) (by rfl) T.m_check_steps T.F_check_steps.kp (passE (takes_of rfl rfl rfl rfl)) (pa_cons (pv 0) (pa_cons (pv 1) pa_nil))))
    (pss_cons (ps_for (passes_of rfl) rfl (pi_list (pv 2)) (pg_name (i := 5) sc_check_parts.nd rfl (by first | exact Or.inl rfl | exact Or.inr rfl)) (pss_one (ps_if (pt_cmpR op_notIn_seq (pv 5) (pe_tup (pa_cons pe_int (pa_cons pe_int pa_nil))) rfl) (pss_one (ps_raise rfl (takes_of rfl rfl rfl rfl) (pmk_own PySem.F.excBase_Exception T.xE2 T.mE2 T.kE2 (raises_own T.bE2 T.tE2) (by exact rfl)))) pss_nil)))
    (pss_cons (ps_for (passes_of rfl) rfl (pi_list (pv 3)) (pg_name (i := 6) sc_check_parts.nd rfl (by first | exact Or.inl rfl | exact Or.inr rfl)) (pss_one (ps_if (pt_not (pt_truth (pe_callRS (ok_due_in_range T) (hr.mono (by decide)) (by rfl) T.m_due_in_range T.F_due_in_range.kp (passE (takes_of rfl rfl rfl rfl)) (pa_cons (pv 6) pa_nil)) (by intro _; rfl))) (pss_one (ps_raise rfl (takes_of rfl rfl rfl rfl) (pmk_own PySem.F.excBase_Exception T.xE2 T.mE2 T.kE2 (raises_own T.bE2 T.tE2) (by exact rfl)))) pss_nil)))
    (pss_cons (ps_expr (pe_callRS (ok_check_most T) (hr.mono (by decide)) (by rfl) T.m_check_most T.F_check_most.kp (passE (takes_of rfl rfl rfl rfl)) (pa_cons (pv 4) (pa_cons (pe_gint (by rfl) T.c_MOST_STANDS) pa_nil))))
    (pss_one (ps_for (passes_of rfl) rfl (pi_list (pv 3)) (pg_name (i := 6) sc_check_parts.nd rfl (by first | exact Or.inl rfl | exact Or.inr rfl)) (pss_one (ps_if (pt_truth (pe_callRS (ok_due_too_great T) (hr.mono (by decide)) (by rfl) T.m_due_too_great T.F_due_too_great.kp (passE (takes_of rfl rfl rfl rfl)) (pa_cons (pv 6) pa_nil)) (by intro _; rfl)) (pss_one (ps_raise rfl (takes_of rfl rfl rfl rfl) (pmk_own PySem.F.excBase_Exception T.xE3 T.mE3 T.kE3 (raises_own T.bE3 T.tE3) (by exact rfl)))) pss_nil))))))))))),
    (ss_seq (ss_drop (se_call (sa_cons se_var (sa_cons se_var (sa_cons se_var (sa_cons se_var sa_nil))))))
    (ss_seq (ss_asg (se_cb sn_len (sa_cons se_var sa_nil)) sg_name)
    (ss_seq (ss_if (st_or (st_test (se_op2 s2_eq se_var se_int)) (st_test (se_op2 s2_neD (se_new (sen_lst (sa_cons (se_cb sn_len (sa_cons se_var sa_nil)) (sa_cons (se_cb sn_len (sa_cons se_var sa_nil)) (sa_cons (se_cb sn_len (sa_cons se_var sa_nil)) sa_nil))))) (se_op2 s2_rep (se_new (sen_lst (sa_cons se_var sa_nil))) se_int)))) (ss_raise (n := 2)) ss_next)
    (ss_seq (ss_drop (se_call (sa_cons se_var (sa_cons se_var sa_nil))))
    (ss_seq (ss_for (si_list se_var) sg_name (ss_if (st_test (se_op2 s2_in se_var (se_tup (sa_cons se_int (sa_cons se_int sa_nil))))) (ss_raise (n := 2)) ss_next))
    (ss_seq (ss_for (si_list se_var) sg_name (ss_if (st_not (st_tru (se_call (sa_cons se_var sa_nil)))) (ss_raise (n := 2)) ss_next))
    (ss_seq (ss_drop (se_call (sa_cons se_var (sa_cons se_int sa_nil))))
    (ss_for (si_list se_var) sg_name (ss_if (st_tru (se_call (sa_cons se_var sa_nil))) (ss_raise (n := 3)) ss_next)))))))))⟩
theorem ok_Web_init (T : Txt c mg A) : FnR P w c.K mg base (L2.CX P w) 6 A.Web_init (spI c A.ca.Web (D_Web_init A.ca)) :=
  init_ss (N := Nn_Web_init) (s := dn_Web_init A.ca) T.F_Web_init sc_Web_init (T.F_Web_init.binds (ps := ["self", "first", "second", "marks", "dues"]) fun _ _ _ _ _ _ us hl => match us, hl with | [_, _, _, _, _], _ => rfl) (D_Web_init_is A.ca) (D_Web_init_len A.ca) fun cdv A_ outer sh H E' hr => ⟨(tSeq (tDrop (tCallS (spD c D_check_parts) (fun _ => E') (tCons (tVar 1) (tCons (tVar 2) (tCons (tVar 3) (tCons (tVar 4) tNil))))))
    (tSeq (tAsg (tCB (rLenS c.K) (tCons (tVar 3) tNil)) (gName 5))
    (tSeq (sFld c.K (tVar 0) (tVar 5) "_size")
    (tSeq (sFld c.K (tVar 0) (tCB (rTupleF c.K) (tCons (tLc (iList c.K (tVar 1)) (gName 6) tYes (tCallS (spD c D_as_stands) (fun _ => L2.E0) (tCons (tVar 6) (tCons (tVar 5) tNil))) [6]) tNil)) "_first")
    (tSeq (sFld c.K (tVar 0) (tCB (rTupleF c.K) (tCons (tLc (iList c.K (tVar 2)) (gName 6) tYes (tCallS (spD c D_as_stands) (fun _ => L2.E0) (tCons (tVar 6) (tCons (tVar 5) tNil))) [6]) tNil)) "_second")
    (tSeq (sFld c.K (tVar 0) (tCB (rTupleF c.K) (tCons (tVar 3) tNil)) "_marks")
    (tSeq (sFld c.K (tVar 0) (tCB (rTupleF c.K) (tCons (tLc (iList c.K (tVar 4)) (gName 7) tYes (tIf (tTest (tOp rIsNF (tVar 7) (tC V.non))) (tC V.non) (tCB (rTupleF c.K) (tCons (tVar 7) tNil))) [7]) tNil)) "_dues")
    (tSeq (sFld c.K (tVar 0) (tCB (rTupleF c.K) (tCons (tLc (iRng1 (tCons (tVar 5) tNil)) (gName 8) (tNot (fun σ H Q => (tOp (rIx c.K) (tVar 1) (tVar 8)) σ H fun x H' => ∃ k, TruV c.K x H' k ∧ Q k H')) (tVar 8) [8]) tNil)) "_ends")
    (tSeq (sFld c.K (tVar 0) (tCB (rTupleF c.K) (tCons (tLc (iRng1 (tCons (tVar 5) tNil)) (gName 8) (fun σ H Q => (tOp (rIx c.K) (tVar 1) (tVar 8)) σ H fun x H' => ∃ k, TruV c.K x H' k ∧ Q k H') (tVar 8) [8]) tNil)) "_moving")
    (tSeq (sFld c.K (tVar 0) (tCB (rMax c.K) (tCons (tLc (iList c.K (tVar 4)) (gName 7) tYes (tIf (tTest (tOp rIsNF (tVar 7) (tC V.non))) (tC (V.int 0)) (tOp (rIx c.K) (tVar 7) (tC (V.int 1)))) [7]) tNil)) "_greatest_due")
    (sFld c.K (tVar 0) (tOp (rEqD c.K) (tFld c.K (tVar 0) "_first") (tFld c.K (tVar 0) "_second")) "_even"))))))))))),
    (pss_cons (ps_expr (pe_callRS (ok_check_parts T) (hr.mono (by decide)) (by rfl) T.m_check_parts T.F_check_parts.kp (passE (takes_of rfl rfl rfl rfl)) (pa_cons (pv 1) (pa_cons (pv 2) (pa_cons (pv 3) (pa_cons (pv 4) pa_nil))))))
    (pss_cons (ps_asg (pe_callB call_len_seq (by rfl) T.n_len (by decide +kernel) (pa_cons (pv 3) pa_nil)) (pg_name (i := 5) sc_Web_init.nd rfl (by first | exact Or.inl rfl | exact Or.inr rfl)))
    (pss_cons (ps_fld (pv 0) (pv 5) rfl)
    (pss_cons (ps_fld (pv 0) (pe_callTy call_tuple_of (by rfl) T.n_tuple (by decide +kernel) (pa_cons (pe_lc (own := [("steps", 6)]) (g := gName 6) (wi := (iList c.K (tVar 1))) (tt := tYes) (te := (tCallS (spD c D_as_stands) (fun _ => L2.E0) (tCons (tVar 6) (tCons (tVar 5) tNil)))) rfl sc_Web_init.nd (pi_list (pv 1)) (blkOk_by (N := Nn_Web_init) (sc := defScope s_Web_init) (by decide +kernel)) (fun _ _ _ _ _ => pg_name (i := 6) sc_Web_init.nd rfl (by first | exact Or.inl rfl | exact Or.inr rfl)) (fun _ _ _ _ _ => pts_nil) (fun _ _ _ _ _ => (pe_callRS (ok_as_stands T) (hr.mono (by decide)) (by rfl) T.m_as_stands T.F_as_stands.kp passNo (pa_cons (pv 6) (pa_cons (pv 5) pa_nil))))) pa_nil)) rfl)
    (pss_cons (ps_fld (pv 0) (pe_callTy call_tuple_of (by rfl) T.n_tuple (by decide +kernel) (pa_cons (pe_lc (own := [("steps", 6)]) (g := gName 6) (wi := (iList c.K (tVar 2))) (tt := tYes) (te := (tCallS (spD c D_as_stands) (fun _ => L2.E0) (tCons (tVar 6) (tCons (tVar 5) tNil)))) rfl sc_Web_init.nd (pi_list (pv 2)) (blkOk_by (N := Nn_Web_init) (sc := defScope s_Web_init) (by decide +kernel)) (fun _ _ _ _ _ => pg_name (i := 6) sc_Web_init.nd rfl (by first | exact Or.inl rfl | exact Or.inr rfl)) (fun _ _ _ _ _ => pts_nil) (fun _ _ _ _ _ => (pe_callRS (ok_as_stands T) (hr.mono (by decide)) (by rfl) T.m_as_stands T.F_as_stands.kp passNo (pa_cons (pv 6) (pa_cons (pv 5) pa_nil))))) pa_nil)) rfl)
    (pss_cons (ps_fld (pv 0) (pe_callTy call_tuple_of (by rfl) T.n_tuple (by decide +kernel) (pa_cons (pv 3) pa_nil)) rfl)
    (pss_cons (ps_fld (pv 0) (pe_callTy call_tuple_of (by rfl) T.n_tuple (by decide +kernel) (pa_cons (pe_lc (own := [("due", 7)]) (g := gName 7) (wi := (iList c.K (tVar 4))) (tt := tYes) (te := (tIf (tTest (tOp rIsNF (tVar 7) (tC V.non))) (tC V.non) (tCB (rTupleF c.K) (tCons (tVar 7) tNil)))) rfl sc_Web_init.nd (pi_list (pv 4)) (blkOk_by (N := Nn_Web_init) (sc := defScope s_Web_init) (by decide +kernel)) (fun _ _ _ _ _ => pg_name (i := 7) sc_Web_init.nd rfl (by first | exact Or.inl rfl | exact Or.inr rfl)) (fun _ _ _ _ _ => pts_nil) (fun _ _ _ _ _ => (pe_ifExp (pt_cmpR op_isN (pv 7) pe_non (nomark _)) pe_non (pe_callTy call_tuple_of (by rfl) T.n_tuple (by decide +kernel) (pa_cons (pv 7) pa_nil))))) pa_nil)) rfl)
    (pss_cons (ps_fld (pv 0) (pe_callTy call_tuple_of (by rfl) T.n_tuple (by decide +kernel) (pa_cons (pe_lc (own := [("stand", 8)]) (g := gName 8) (wi := (iRng1 (tCons (tVar 5) tNil))) (tt := (tNot (fun σ H Q => (tOp (rIx c.K) (tVar 1) (tVar 8)) σ H fun x H' => ∃ k, TruV c.K x H' k ∧ Q k H'))) (te := (tVar 8)) rfl sc_Web_init.nd (pi_range1 (by rfl) T.n_range (pa_cons (pv 5) pa_nil)) (blkOk_by (N := Nn_Web_init) (sc := defScope s_Web_init) (by decide +kernel)) (fun _ _ _ _ _ => pg_name (i := 8) sc_Web_init.nd rfl (by first | exact Or.inl rfl | exact Or.inr rfl)) (fun _ _ _ _ _ => (pts_one (pt_not (pt_truth (pe_ix ix_seq (pv 1) (pv 8) (fun _ _ => rfl)) (by intro _; rfl))))) (fun _ _ _ _ _ => (pv 8))) pa_nil)) rfl)
    (pss_cons (ps_fld (pv 0) (pe_callTy call_tuple_of (by rfl) T.n_tuple (by decide +kernel) (pa_cons (pe_lc (own := [("stand", 8)]) (g := gName 8) (wi := (iRng1 (tCons (tVar 5) tNil))) (tt := (fun σ H Q => (tOp (rIx c.K) (tVar 1) (tVar 8)) σ H fun x H' => ∃ k, TruV c.K x H' k ∧ Q k H')) (te := (tVar 8)) rfl sc_Web_init.nd (pi_range1 (by rfl) T.n_range (pa_cons (pv 5) pa_nil)) (blkOk_by (N := Nn_Web_init) (sc := defScope s_Web_init) (by decide +kernel)) (fun _ _ _ _ _ => pg_name (i := 8) sc_Web_init.nd rfl (by first | exact Or.inl rfl | exact Or.inr rfl)) (fun _ _ _ _ _ => (pts_one (pt_truth (pe_ix ix_seq (pv 1) (pv 8) (fun _ _ => rfl)) (by intro _; rfl)))) (fun _ _ _ _ _ => (pv 8))) pa_nil)) rfl)
    (pss_cons (ps_fld (pv 0) (pe_callB (cr_max rfl) (by rfl) T.n_max (by decide +kernel) (pa_cons (pe_lc (own := [("due", 7)]) (g := gName 7) (wi := (iList c.K (tVar 4))) (tt := tYes) (te := (tIf (tTest (tOp rIsNF (tVar 7) (tC V.non))) (tC (V.int 0)) (tOp (rIx c.K) (tVar 7) (tC (V.int 1))))) rfl sc_Web_init.nd (pi_list (pv 4)) (blkOk_by (N := Nn_Web_init) (sc := defScope s_Web_init) (by decide +kernel)) (fun _ _ _ _ _ => pg_name (i := 7) sc_Web_init.nd rfl (by first | exact Or.inl rfl | exact Or.inr rfl)) (fun _ _ _ _ _ => pts_nil) (fun _ _ _ _ _ => (pe_ifExp (pt_cmpR op_isN (pv 7) pe_non (nomark _)) pe_int (pe_ix ix_seq (pv 7) pe_int (fun _ _ => rfl))))) pa_nil)) rfl)
    (pss_one (ps_fld (pv 0) (pe_cmpR (op_eqD (hr.units)) (pe_fld (pv 0) rfl) (pe_fld (pv 0) rfl) (nomark _)) rfl)))))))))))),
    (ss_seq (ss_drop (se_call (sa_cons se_var (sa_cons se_var (sa_cons se_var (sa_cons se_var sa_nil))))))
    (ss_seq (ss_asg (se_cb sn_len (sa_cons se_var sa_nil)) sg_name)
    (ss_seq (ss_fldO T.f_Web.cl T.a_Web__size se_var)
    (ss_seq (ss_fldO T.f_Web.cl T.a_Web__first (se_cb sn_tuple (sa_cons (se_new (sen_comp (si_list se_var) st_true (se_call (sa_cons se_var (sa_cons se_var sa_nil))))) sa_nil)))
    (ss_seq (ss_fldO T.f_Web.cl T.a_Web__second (se_cb sn_tuple (sa_cons (se_new (sen_comp (si_list se_var) st_true (se_call (sa_cons se_var (sa_cons se_var sa_nil))))) sa_nil)))
    (ss_seq (ss_fldO T.f_Web.cl T.a_Web__marks (se_cb sn_tuple (sa_cons se_var sa_nil)))
    (ss_seq (ss_fldO T.f_Web.cl T.a_Web__dues (se_cb sn_tuple (sa_cons (se_new (sen_comp (si_list se_var) st_true (se_if (st_test (se_op2 s2_isN se_var se_non)) se_non (se_cb sn_tuple (sa_cons se_var sa_nil))))) sa_nil)))
    (ss_seq (ss_fldO T.f_Web.cl T.a_Web__ends (se_cb sn_tuple (sa_cons (se_new (sen_comp (si_rng1 (sa_cons se_var sa_nil)) (st_not (st_tru (se_op2 s2_ix se_var se_var))) se_var)) sa_nil)))
    (ss_seq (ss_fldO T.f_Web.cl T.a_Web__moving (se_cb sn_tuple (sa_cons (se_new (sen_comp (si_rng1 (sa_cons se_var sa_nil)) (st_tru (se_op2 s2_ix se_var se_var)) se_var)) sa_nil)))
    (ss_seq (ss_fldO T.f_Web.cl T.a_Web__greatest_due (se_cb sn_maxL (sa_cons (se_new (sen_comp (si_list se_var) st_true (se_if (st_test (se_op2 s2_isN se_var se_non)) se_int (se_op2 s2_ix se_var se_int)))) sa_nil)))
    (ss_fldO T.f_Web.cl T.a_Web__even (se_op2 s2_eqD (se_fldO T.f_Web.cl T.a_Web__first) (se_fldO T.f_Web.cl T.a_Web__second)))))))))))))⟩
theorem ok_check_web (T : Txt c mg A) : FnR P w c.K mg base (L2.CX P w) 1 A.check_web (spD c (D_check_web A.ca)) :=
  fn_ss (N := Nn_check_web) (ps := ["thing"]) (s := dn_check_web A.ca) T.F_check_web sc_check_web (T.F_check_web.binds (ps := ["thing"]) fun _ _ _ _ _ _ us hl => match us, hl with | [_], _ => rfl) fun cdv A_ outer sh H E' hr => ⟨(tIfS (tNot (fun σ H Q => (tCB (rIsi c.K) (tCons (tVar 0) (tCons (tC (V.ref A.ca.Web)) tNil))) σ H fun x H' => ∃ k, TruV c.K x H' k ∧ Q k H')) (fun _ σ H => E' (Value.ref (c.ec 0)) none H) tNext),
    (pss_one (ps_if (pt_not (pt_truth (pe_callB call_isi (by rfl) T.n_isinstance (by decide +kernel) (pa_cons (pv 0) (pa_cons (pe_glob (by rfl) T.m_Web rfl) pa_nil))) (by intro _; rfl))) (pss_one (ps_raise rfl (takes_of rfl rfl rfl rfl) (pmk_own PySem.F.excBase_Exception T.xE0 T.mE0 T.kE0 (raises_own T.bE0 T.tE0) (by exact rfl)))) pss_nil)),
    (ss_if (st_not (st_tru (se_cb (sn_isC T.f_Web) (sa_cons se_var (sa_cons (se_c fun _ _ => At.cls A.ca.Web) sa_nil))))) (ss_raise (n := 0)) ss_next)⟩
theorem ok_check_stand (T : Txt c mg A) : FnR P w c.K mg base (L2.CX P w) 3 A.check_stand (spD c (D_check_stand A.ca)) :=
  fn_ss (N := Nn_check_stand) (ps := ["web", "stand"]) (s := dn_check_stand A.ca) T.F_check_stand sc_check_stand (T.F_check_stand.binds (ps := ["web", "stand"]) fun _ _ _ _ _ _ us hl => match us, hl with | [_, _], _ => rfl) fun cdv A_ outer sh H E' hr => ⟨(tDrop (tCallS (spD c D_check_range) (fun _ => E') (tCons (tVar 1) (tCons (tC (V.int 0)) (tCons (tOp (rI0 fun i j => V.int (i - j)) (tProp A.ca.Web (getSp A.ca.Web "_size") [] L2.E0 (tVar 0)) (tC (V.int 1))) tNil))))),
    (pss_one (ps_expr (pe_callRS (ok_check_range T) (hr.mono (by decide)) (by rfl) T.m_check_range T.F_check_range.kp (passE (takes_of rfl rfl rfl rfl)) (pa_cons (pv 1) (pa_cons pe_int (pa_cons (pe_op op_sub (pe_prop (pv 0) T.f_Web.cl T.p_Web_size (getter_of T.F_Web_size gsc_Web_size rfl rfl T.f_Web.cl T.a_Web__size) (hr.mono (by decide)) (T.F_Web_size.binds (ps := ["self"]) fun _ _ _ _ _ _ us hl => match us, hl with | [_], _ => rfl) .nil passL rfl) pe_int) pa_nil)))))),
    (ss_drop (se_call (sa_cons se_var (sa_cons se_int (sa_cons (se_op2 s2_sub (se_prop se_var) se_int) sa_nil)))))⟩
theorem ok_check_moving (T : Txt c mg A) : FnR P w c.K mg base (L2.CX P w) 3 A.check_moving (spD c (D_check_moving A.ca)) :=
  fn_ss (N := Nn_check_moving) (ps := ["web", "stand"]) (s := dn_check_moving A.ca) T.F_check_moving sc_check_moving (T.F_check_moving.binds (ps := ["web", "stand"]) fun _ _ _ _ _ _ us hl => match us, hl with | [_, _], _ => rfl) fun cdv A_ outer sh H E' hr => ⟨(tIfS (tNot (fun σ H Q => (tOp (rIx c.K) (tProp A.ca.Web (getSp A.ca.Web "_first") [] L2.E0 (tVar 0)) (tVar 1)) σ H fun x H' => ∃ k, TruV c.K x H' k ∧ Q k H')) (fun _ σ H => E' (Value.ref (c.ec 2)) none H) tNext),
    (pss_one (ps_if (pt_not (pt_truth (pe_ix ix_seq (pe_prop (pv 0) T.f_Web.cl T.p_Web_first (getter_of T.F_Web_first gsc_Web_first rfl rfl T.f_Web.cl T.a_Web__first) (hr.mono (by decide)) (T.F_Web_first.binds (ps := ["self"]) fun _ _ _ _ _ _ us hl => match us, hl with | [_], _ => rfl) .nil passL rfl) (pv 1) (fun _ _ => rfl)) (by intro _; rfl))) (pss_one (ps_raise rfl (takes_of rfl rfl rfl rfl) (pmk_own PySem.F.excBase_Exception T.xE2 T.mE2 T.kE2 (raises_own T.bE2 T.tE2) (by exact rfl)))) pss_nil)),
    (ss_if (st_not (st_tru (se_op2 s2_ix (se_prop se_var) se_var))) (ss_raise (n := 2)) ss_next)⟩
theorem ok_half_of (T : Txt c mg A) : FnR P w c.K mg base (L2.CX P w) 1 A.half_of (spD c (D_half_of)) :=
  fn_ss (N := Nn_half_of) (ps := ["mark", "x", "y"]) (s := dn_half_of) T.F_half_of sc_half_of (T.F_half_of.binds (ps := ["mark", "x", "y"]) fun _ _ _ _ _ _ us hl => match us, hl with | [_, _, _], _ => rfl) fun cdv A_ outer sh H E' hr => ⟨(tSeq (tIfS (tTest (tOp rEq (tVar 0) (tC (V.int 1)))) (tRet (tOp (rI CDiv fun i j => V.int (i / j)) (tOp (rI0 fun i j => V.int (i + j)) (tVar 1) (tCB rMax2F (tCons (tVar 1) (tCons (tVar 2) tNil)))) (tC (V.int 2)))) tNext)
    (tRet (tOp (rI CDiv fun i j => V.int (i / j)) (tOp (rI0 fun i j => V.int (i + j)) (tOp (rI0 fun i j => V.int (i + j)) (tCB rMin2F (tCons (tVar 1) (tCons (tVar 2) tNil))) (tVar 2)) (tC (V.int 1))) (tC (V.int 2))))),
    (pss_cons (ps_if (pt_cmpR op_eq (pv 0) pe_int (nomark _)) (pss_one (ps_ret (pe_op op_fdiv (pe_op op_add (pv 1) (pe_callB (call_max2 rfl) (by rfl) T.n_max (by decide +kernel) (pa_cons (pv 1) (pa_cons (pv 2) pa_nil)))) pe_int))) pss_nil)
    (pss_one (ps_ret (pe_op op_fdiv (pe_op op_add (pe_op op_add (pe_callB (call_min2 rfl) (by rfl) T.n_min (by decide +kernel) (pa_cons (pv 1) (pa_cons (pv 2) pa_nil))) (pv 2)) pe_int) pe_int)))),
    (ss_seq (ss_if (st_test (se_op2 s2_eq se_var se_int)) (ss_ret (se_op2 s2_div (se_op2 s2_add se_var (se_cb sn_max2 (sa_cons se_var (sa_cons se_var sa_nil)))) se_int)) ss_next)
    (ss_ret (se_op2 s2_div (se_op2 s2_add (se_op2 s2_add (se_cb sn_min2 (sa_cons se_var (sa_cons se_var sa_nil))) se_var) se_int) se_int)))⟩
theorem ok_low_of (T : Txt c mg A) : FnR P w c.K mg base (L2.CX P w) 3 A.low_of (spD c (D_low_of A.ca)) :=
  fn_ss (N := Nn_low_of) (ps := ["web", "row", "stand"]) (s := dn_low_of A.ca) T.F_low_of sc_low_of (T.F_low_of.binds (ps := ["web", "row", "stand"]) fun _ _ _ _ _ _ us hl => match us, hl with | [_, _, _], _ => rfl) fun cdv A_ outer sh H E' hr => ⟨(tRet (tCB (rMin c.K) (tCons (tLc (iTup c.K (tOp (rIx c.K) (tProp A.ca.Web (getSp A.ca.Web "_first") [] L2.E0 (tVar 0)) (tVar 2))) (gName 3) tYes (tOp (rIx c.K) (tVar 1) (tVar 3)) [3]) tNil))),
    (pss_one (ps_ret (pe_callB (cr_min rfl) (by rfl) T.n_min (by decide +kernel) (pa_cons (pe_lc (own := [("step", 3)]) (g := gName 3) (wi := (iTup c.K (tOp (rIx c.K) (tProp A.ca.Web (getSp A.ca.Web "_first") [] L2.E0 (tVar 0)) (tVar 2)))) (tt := tYes) (te := (tOp (rIx c.K) (tVar 1) (tVar 3))) rfl sc_low_of.nd (pi_tup (pe_ix ix_seq (pe_prop (pv 0) T.f_Web.cl T.p_Web_first (getter_of T.F_Web_first gsc_Web_first rfl rfl T.f_Web.cl T.a_Web__first) (hr.mono (by decide)) (T.F_Web_first.binds (ps := ["self"]) fun _ _ _ _ _ _ us hl => match us, hl with | [_], _ => rfl) .nil passL rfl) (pv 2) (fun _ _ => rfl))) (blkOk_by (N := Nn_low_of) (sc := defScope s_low_of) (by decide +kernel)) (fun _ _ _ _ _ => pg_name (i := 3) sc_low_of.nd rfl (by first | exact Or.inl rfl | exact Or.inr rfl)) (fun _ _ _ _ _ => pts_nil) (fun _ _ _ _ _ => (pe_ix ix_seq (pv 1) (pv 3) (fun _ _ => rfl)))) pa_nil)))),
    (ss_ret (se_cb sn_minL (sa_cons (se_new (sen_comp (si_tup (se_op2 s2_ix (se_prop se_var) se_var)) st_true (se_op2 s2_ix se_var se_var))) sa_nil)))⟩
theorem ok_high_of (T : Txt c mg A) : FnR P w c.K mg base (L2.CX P w) 3 A.high_of (spD c (D_high_of A.ca)) :=
  fn_ss (N := Nn_high_of) (ps := ["web", "row", "stand"]) (s := dn_high_of A.ca) T.F_high_of sc_high_of (T.F_high_of.binds (ps := ["web", "row", "stand"]) fun _ _ _ _ _ _ us hl => match us, hl with | [_, _, _], _ => rfl) fun cdv A_ outer sh H E' hr => ⟨(tRet (tCB (rMax c.K) (tCons (tLc (iTup c.K (tOp (rIx c.K) (tProp A.ca.Web (getSp A.ca.Web "_second") [] L2.E0 (tVar 0)) (tVar 2))) (gName 3) tYes (tOp (rIx c.K) (tVar 1) (tVar 3)) [3]) tNil))),
    (pss_one (ps_ret (pe_callB (cr_max rfl) (by rfl) T.n_max (by decide +kernel) (pa_cons (pe_lc (own := [("step", 3)]) (g := gName 3) (wi := (iTup c.K (tOp (rIx c.K) (tProp A.ca.Web (getSp A.ca.Web "_second") [] L2.E0 (tVar 0)) (tVar 2)))) (tt := tYes) (te := (tOp (rIx c.K) (tVar 1) (tVar 3))) rfl sc_high_of.nd (pi_tup (pe_ix ix_seq (pe_prop (pv 0) T.f_Web.cl T.p_Web_second (getter_of T.F_Web_second gsc_Web_second rfl rfl T.f_Web.cl T.a_Web__second) (hr.mono (by decide)) (T.F_Web_second.binds (ps := ["self"]) fun _ _ _ _ _ _ us hl => match us, hl with | [_], _ => rfl) .nil passL rfl) (pv 2) (fun _ _ => rfl))) (blkOk_by (N := Nn_high_of) (sc := defScope s_high_of) (by decide +kernel)) (fun _ _ _ _ _ => pg_name (i := 3) sc_high_of.nd rfl (by first | exact Or.inl rfl | exact Or.inr rfl)) (fun _ _ _ _ _ => pts_nil) (fun _ _ _ _ _ => (pe_ix ix_seq (pv 1) (pv 3) (fun _ _ => rfl)))) pa_nil)))),
    (ss_ret (se_cb sn_maxL (sa_cons (se_new (sen_comp (si_tup (se_op2 s2_ix (se_prop se_var) se_var)) st_true (se_op2 s2_ix se_var se_var))) sa_nil)))⟩
theorem ok_price_of (T : Txt c mg A) : FnR P w c.K mg base (L2.CX P w) 4 A.price_of (spD c (D_price_of A.ca)) :=
  fn_ss (N := Nn_price_of) (ps := ["web", "k", "row", "stand"]) (s := dn_price_of A.ca) T.F_price_of sc_price_of (T.F_price_of.binds (ps := ["web", "k", "row", "stand"]) fun _ _ _ _ _ _ us hl => match us, hl with | [_, _, _, _], _ => rfl) fun cdv A_ outer sh H E' hr => ⟨(tSeq (tIfS (tNot (fun σ H Q => (tOp (rIx c.K) (tProp A.ca.Web (getSp A.ca.Web "_first") [] L2.E0 (tVar 0)) (tVar 3)) σ H fun x H' => ∃ k, TruV c.K x H' k ∧ Q k H')) (tRet (tOp (rI0 fun i j => V.int (i + j)) (tVar 1) (tC (V.int 1)))) tNext)
    (tRet (tCallS (spD c D_half_of) (fun _ => E') (tCons (tOp (rIx c.K) (tProp A.ca.Web (getSp A.ca.Web "_marks") [] L2.E0 (tVar 0)) (tVar 3)) (tCons (tCallS (spD c (D_low_of A.ca)) (fun _ => E') (tCons (tVar 0) (tCons (tVar 2) (tCons (tVar 3) tNil)))) (tCons (tCallS (spD c (D_high_of A.ca)) (fun _ => E') (tCons (tVar 0) (tCons (tVar 2) (tCons (tVar 3) tNil)))) tNil)))))),
    (pss_cons (ps_if (pt_not (pt_truth (pe_ix ix_seq (pe_prop (pv 0) T.f_Web.cl T.p_Web_first (getter_of T.F_Web_first gsc_Web_first rfl rfl T.f_Web.cl T.a_Web__first) (hr.mono (by decide)) (T.F_Web_first.binds (ps := ["self"]) fun _ _ _ _ _ _ us hl => match us, hl with | [_], _ => rfl) .nil passL rfl) (pv 3) (fun _ _ => rfl)) (by intro _; rfl))) (pss_one (ps_ret (pe_op op_add (pv 1) pe_int))) pss_nil)
    (pss_one (ps_ret (pe_callRS (ok_half_of T) (hr.mono (by decide)) (by rfl) T.m_half_of T.F_half_of.kp (passE (takes_of rfl rfl rfl rfl)) (pa_cons (pe_ix ix_seq (pe_prop (pv 0) T.f_Web.cl T.p_Web_marks (getter_of T.F_Web_marks gsc_Web_marks rfl rfl T.f_Web.cl T.a_Web__marks) (hr.mono (by decide)) (T.F_Web_marks.binds (ps := ["self"]) fun _ _ _ _ _ _ us hl => match us, hl with | [_], _ => rfl) .nil passL rfl) (pv 3) (fun _ _ => rfl)) (pa_cons (pe_callRS (ok_low_of T) (hr.mono (by decide)) (by rfl) T.m_low_of T.F_low_of.kp (passE (takes_of rfl rfl rfl rfl)) (pa_cons (pv 0) (pa_cons (pv 2) (pa_cons (pv 3) pa_nil)))) (pa_cons (pe_callRS (ok_high_of T) (hr.mono (by decide)) (by rfl) T.m_high_of T.F_high_of.kp (passE (takes_of rfl rfl rfl rfl)) (pa_cons (pv 0) (pa_cons (pv 2) (pa_cons (pv 3) pa_nil)))) pa_nil))))))),
    (ss_seq (ss_if (st_not (st_tru (se_op2 s2_ix (se_prop se_var) se_var))) (ss_ret (se_op2 s2_add se_var se_int)) ss_next)
    (ss_ret (se_call (sa_cons (se_op2 s2_ix (se_prop se_var) se_var) (sa_cons (se_call (sa_cons se_var (sa_cons se_var (sa_cons se_var sa_nil)))) (sa_cons (se_call (sa_cons se_var (sa_cons se_var (sa_cons se_var sa_nil)))) sa_nil))))))⟩
theorem ok_check_steps_at (T : Txt c mg A) : FnR P w c.K mg base (L2.CX P w) 4 A.check_steps_at (spD c (D_check_steps_at A.ca)) :=
  fn_ss (N := Nn_check_steps_at) (ps := ["web", "row", "stand"]) (s := dn_check_steps_at A.ca) T.F_check_steps_at sc_check_steps_at (T.F_check_steps_at.binds (ps := ["web", "row", "stand"]) fun _ _ _ _ _ _ us hl => match us, hl with | [_, _, _], _ => rfl) fun cdv A_ outer sh H E' hr => ⟨(tSeq (tDrop (tCallS (spD c (D_check_web A.ca)) (fun _ => E') (tCons (tVar 0) tNil)))
    (tSeq (tDrop (tCallS (spD c D_whole_list) (fun _ => E') (tCons (tVar 1) tNil)))
    (tSeq (tDrop (tCallS (spD c D_check_whole) (fun _ => E') (tCons (tVar 2) tNil)))
    (tSeq (tDrop (tCallS (spD c D_check_size) (fun _ => E') (tCons (tVar 1) (tCons (tProp A.ca.Web (getSp A.ca.Web "_size") [] L2.E0 (tVar 0)) tNil))))
    (tSeq (tDrop (tCallS (spD c (D_check_stand A.ca)) (fun _ => E') (tCons (tVar 0) (tCons (tVar 2) tNil))))
    (tDrop (tCallS (spD c (D_check_moving A.ca)) (fun _ => E') (tCons (tVar 0) (tCons (tVar 2) tNil))))))))),
    (pss_cons (ps_expr (pe_callRS (ok_check_web T) (hr.mono (by decide)) (by rfl) T.m_check_web T.F_check_web.kp (passE (takes_of rfl rfl rfl rfl)) (pa_cons (pv 0) pa_nil)))
    (pss_cons (ps_expr (pe_callRS (ok_whole_list T) (hr.mono (by decide)) (by rfl) T.m_whole_list T.F_whole_list.kp (passE (takes_of rfl rfl rfl rfl)) (pa_cons (pv 1) pa_nil)))
    (pss_cons (ps_expr (pe_callRS (ok_check_whole T) (hr.mono (by decide)) (by rfl) T.m_check_whole T.F_check_whole.kp (passE (takes_of rfl rfl rfl rfl)) (pa_cons (pv 2) pa_nil)))
    (pss_cons (ps_expr (pe_callRS (ok_check_size T) (hr.mono (by decide)) (by rfl) T.m_check_size T.F_check_size.kp (passE (takes_of rfl rfl rfl rfl)) (pa_cons (pv 1) (pa_cons (pe_prop (pv 0) T.f_Web.cl T.p_Web_size (getter_of T.F_Web_size gsc_Web_size rfl rfl T.f_Web.cl T.a_Web__size) (hr.mono (by decide)) (T.F_Web_size.binds (ps := ["self"]) fun _ _ _ _ _ _ us hl => match us, hl with | [_], _ => rfl) .nil passL rfl) pa_nil))))
    (pss_cons (ps_expr (pe_callRS (ok_check_stand T) (hr.mono (by decide)) (by rfl) T.m_check_stand T.F_check_stand.kp (passE (takes_of rfl rfl rfl rfl)) (pa_cons (pv 0) (pa_cons (pv 2) pa_nil))))
    (pss_one (ps_expr (pe_callRS (ok_check_moving T) (hr.mono (by decide)) (by rfl) T.m_check_moving T.F_check_moving.kp (passE (takes_of rfl rfl rfl rfl)) (pa_cons (pv 0) (pa_cons (pv 2) pa_nil)))))))))),
    (ss_seq (ss_drop (se_call (sa_cons se_var sa_nil)))
    (ss_seq (ss_drop (se_call (sa_cons se_var sa_nil)))
    (ss_seq (ss_drop (se_call (sa_cons se_var sa_nil)))
    (ss_seq (ss_drop (se_call (sa_cons se_var (sa_cons (se_prop se_var) sa_nil))))
    (ss_seq (ss_drop (se_call (sa_cons se_var (sa_cons se_var sa_nil))))
    (ss_drop (se_call (sa_cons se_var (sa_cons se_var sa_nil)))))))))⟩
theorem ok_low (T : Txt c mg A) : FnR P w c.K mg base (L2.CX P w) 5 A.low (spD c (D_low A.ca)) :=
  fn_ss (N := Nn_low) (ps := ["web", "row", "stand"]) (s := dn_low A.ca) T.F_low sc_low (T.F_low.binds (ps := ["web", "row", "stand"]) fun _ _ _ _ _ _ us hl => match us, hl with | [_, _, _], _ => rfl) fun cdv A_ outer sh H E' hr => ⟨(tSeq (tDrop (tCallS (spD c (D_check_steps_at A.ca)) (fun _ => E') (tCons (tVar 0) (tCons (tVar 1) (tCons (tVar 2) tNil)))))
    (tRet (tCallS (spD c (D_low_of A.ca)) (fun _ => E') (tCons (tVar 0) (tCons (tVar 1) (tCons (tVar 2) tNil)))))),
    (pss_cons (ps_expr (pe_callRS (ok_check_steps_at T) (hr.mono (by decide)) (by rfl) T.m_check_steps_at T.F_check_steps_at.kp (passE (takes_of rfl rfl rfl rfl)) (pa_cons (pv 0) (pa_cons (pv 1) (pa_cons (pv 2) pa_nil)))))
    (pss_one (ps_ret (pe_callRS (ok_low_of T) (hr.mono (by decide)) (by rfl) T.m_low_of T.F_low_of.kp (passE (takes_of rfl rfl rfl rfl)) (pa_cons (pv 0) (pa_cons (pv 1) (pa_cons (pv 2) pa_nil))))))),
    (ss_seq (ss_drop (se_call (sa_cons se_var (sa_cons se_var (sa_cons se_var sa_nil)))))
    (ss_ret (se_call (sa_cons se_var (sa_cons se_var (sa_cons se_var sa_nil))))))⟩
theorem ok_high (T : Txt c mg A) : FnR P w c.K mg base (L2.CX P w) 5 A.high (spD c (D_high A.ca)) :=
  fn_ss (N := Nn_high) (ps := ["web", "row", "stand"]) (s := dn_high A.ca) T.F_high sc_high (T.F_high.binds (ps := ["web", "row", "stand"]) fun _ _ _ _ _ _ us hl => match us, hl with | [_, _, _], _ => rfl) fun cdv A_ outer sh H E' hr => ⟨(tSeq (tDrop (tCallS (spD c (D_check_steps_at A.ca)) (fun _ => E') (tCons (tVar 0) (tCons (tVar 1) (tCons (tVar 2) tNil)))))
    (tRet (tCallS (spD c (D_high_of A.ca)) (fun _ => E') (tCons (tVar 0) (tCons (tVar 1) (tCons (tVar 2) tNil)))))),
    (pss_cons (ps_expr (pe_callRS (ok_check_steps_at T) (hr.mono (by decide)) (by rfl) T.m_check_steps_at T.F_check_steps_at.kp (passE (takes_of rfl rfl rfl rfl)) (pa_cons (pv 0) (pa_cons (pv 1) (pa_cons (pv 2) pa_nil)))))
    (pss_one (ps_ret (pe_callRS (ok_high_of T) (hr.mono (by decide)) (by rfl) T.m_high_of T.F_high_of.kp (passE (takes_of rfl rfl rfl rfl)) (pa_cons (pv 0) (pa_cons (pv 1) (pa_cons (pv 2) pa_nil))))))),
    (ss_seq (ss_drop (se_call (sa_cons se_var (sa_cons se_var (sa_cons se_var sa_nil)))))
    (ss_ret (se_call (sa_cons se_var (sa_cons se_var (sa_cons se_var sa_nil))))))⟩
theorem ok_price (T : Txt c mg A) : FnR P w c.K mg base (L2.CX P w) 5 A.price (spD c (D_price A.ca)) :=
  fn_ss (N := Nn_price) (ps := ["web", "k", "row", "stand"]) (s := dn_price A.ca) T.F_price sc_price (T.F_price.binds (ps := ["web", "k", "row", "stand"]) fun _ _ _ _ _ _ us hl => match us, hl with | [_, _, _, _], _ => rfl) fun cdv A_ outer sh H E' hr => ⟨(tSeq (tDrop (tCallS (spD c (D_check_web A.ca)) (fun _ => E') (tCons (tVar 0) tNil)))
    (tSeq (tDrop (tCallS (spD c D_check_whole) (fun _ => E') (tCons (tVar 1) (tCons (tVar 3) tNil))))
    (tSeq (tDrop (tCallS (spD c D_whole_list) (fun _ => E') (tCons (tVar 2) tNil)))
    (tSeq (tDrop (tCallS (spD c D_check_least) (fun _ => E') (tCons (tVar 1) (tCons (tC (V.int 0)) tNil))))
    (tSeq (tDrop (tCallS (spD c D_check_size) (fun _ => E') (tCons (tVar 2) (tCons (tProp A.ca.Web (getSp A.ca.Web "_size") [] L2.E0 (tVar 0)) tNil))))
    (tSeq (tDrop (tCallS (spD c (D_check_stand A.ca)) (fun _ => E') (tCons (tVar 0) (tCons (tVar 3) tNil))))
    (tSeq (tDrop (tCallS (spD c D_check_most) (fun _ => E') (tCons (tVar 1) (tCons (tC (V.int 10000000000000000000000000000000000000000)) tNil))))
    (tRet (tCallS (spD c (D_price_of A.ca)) (fun _ => E') (tCons (tVar 0) (tCons (tVar 1) (tCons (tVar 2) (tCons (tVar 3) tNil))))))))))))),
    (pss_cons (ps_expr (pe_callRS (ok_check_web T) (hr.mono (by decide)) (by rfl) T.m_check_web T.F_check_web.kp (passE (takes_of rfl rfl rfl rfl)) (pa_cons (pv 0) pa_nil)))
    (pss_cons (ps_expr (pe_callRS (ok_check_whole T) (hr.mono (by decide)) (by rfl) T.m_check_whole T.F_check_whole.kp (passE (takes_of rfl rfl rfl rfl)) (pa_cons (pv 1) (pa_cons (pv 3) pa_nil))))
    (pss_cons (ps_expr (pe_callRS (ok_whole_list T) (hr.mono (by decide)) (by rfl) T.m_whole_list T.F_whole_list.kp (passE (takes_of rfl rfl rfl rfl)) (pa_cons (pv 2) pa_nil)))
    (pss_cons (ps_expr (pe_callRS (ok_check_least T) (hr.mono (by decide)) (by rfl) T.m_check_least T.F_check_least.kp (passE (takes_of rfl rfl rfl rfl)) (pa_cons (pv 1) (pa_cons pe_int pa_nil))))
    (pss_cons (ps_expr (pe_callRS (ok_check_size T) (hr.mono (by decide)) (by rfl) T.m_check_size T.F_check_size.kp (passE (takes_of rfl rfl rfl rfl)) (pa_cons (pv 2) (pa_cons (pe_prop (pv 0) T.f_Web.cl T.p_Web_size (getter_of T.F_Web_size gsc_Web_size rfl rfl T.f_Web.cl T.a_Web__size) (hr.mono (by decide)) (T.F_Web_size.binds (ps := ["self"]) fun _ _ _ _ _ _ us hl => match us, hl with | [_], _ => rfl) .nil passL rfl) pa_nil))))
    (pss_cons (ps_expr (pe_callRS (ok_check_stand T) (hr.mono (by decide)) (by rfl) T.m_check_stand T.F_check_stand.kp (passE (takes_of rfl rfl rfl rfl)) (pa_cons (pv 0) (pa_cons (pv 3) pa_nil))))
    (pss_cons (ps_expr (pe_callRS (ok_check_most T) (hr.mono (by decide)) (by rfl) T.m_check_most T.F_check_most.kp (passE (takes_of rfl rfl rfl rfl)) (pa_cons (pv 1) (pa_cons (pe_gint (by rfl) T.c_GREATEST) pa_nil))))
    (pss_one (ps_ret (pe_callRS (ok_price_of T) (hr.mono (by decide)) (by rfl) T.m_price_of T.F_price_of.kp (passE (takes_of rfl rfl rfl rfl)) (pa_cons (pv 0) (pa_cons (pv 1) (pa_cons (pv 2) (pa_cons (pv 3) pa_nil)))))))))))))),
    (ss_seq (ss_drop (se_call (sa_cons se_var sa_nil)))
    (ss_seq (ss_drop (se_call (sa_cons se_var (sa_cons se_var sa_nil))))
    (ss_seq (ss_drop (se_call (sa_cons se_var sa_nil)))
    (ss_seq (ss_drop (se_call (sa_cons se_var (sa_cons se_int sa_nil))))
    (ss_seq (ss_drop (se_call (sa_cons se_var (sa_cons (se_prop se_var) sa_nil))))
    (ss_seq (ss_drop (se_call (sa_cons se_var (sa_cons se_var sa_nil))))
    (ss_seq (ss_drop (se_call (sa_cons se_var (sa_cons se_int sa_nil))))
    (ss_ret (se_call (sa_cons se_var (sa_cons se_var (sa_cons se_var (sa_cons se_var sa_nil)))))))))))))⟩
theorem ok_law_draw (T : Txt c mg A) : FnR P w c.K mg base (L2.CX P w) 1 A.law_draw (spD c (D_law_draw)) :=
  fn_ss (N := Nn_law_draw) (ps := ["_law_pot_here", "_law_many"]) (s := dn_law_draw) T.F_law_draw sc_law_draw (T.F_law_draw.binds (ps := ["_law_pot_here", "_law_many"]) fun _ _ _ _ _ _ us hl => match us, hl with | [_, _], _ => rfl) fun cdv A_ outer sh H E' hr => ⟨(tSeq (tIfS (tTest (tOp rEq (tCB (rLenS c.K) (tCons (tVar 0) tNil)) (tC (V.int 0)))) (tRet (tC (V.int 0))) tNext)
    (tRet (tOp (rI (fun _ j => 0 < j) fun i j => V.int (i % j)) (tCB rIntF (tCons (tBM0 c.K "list" rPop (tVar 0)) tNil)) (tVar 1)))),
    (pss_cons (ps_if (pt_cmpR op_eq (pe_callB call_len_seq (by rfl) T.n_len PySem.boot_len (pa_cons (pv 0) pa_nil)) pe_int (nomark _)) (pss_one (ps_ret pe_int)) pss_nil)
    (pss_one (ps_ret (pe_op op_mod (pe_callTy call_int1 (by rfl) T.n_int (by decide +kernel) (pa_cons (pe_bm0 PySem.F.plainAttrs_list PySem.F.slot_list_pop PySem.F.type_list_pop mt_pop (pv 0)) pa_nil)) (pv 1))))),
    (ss_seq (ss_if (st_test (se_op2 s2_eq (se_lenp se_var) se_int)) (ss_ret se_int) ss_next)
    (ss_ret (se_op2 s2_mod (se_cb sn_int (sa_cons (se_pop se_var) sa_nil)) se_var)))⟩
theorem ok_law_whole (T : Txt c mg A) : FnR P w c.K mg base (L2.CX P w) 1 A.law_whole (spD c (D_is_integer)) :=
  fn_ss (N := Nn_law_whole) (ps := ["_law_thing"]) (s := dn_is_integer) T.F_law_whole sc_law_whole (T.F_law_whole.binds (ps := ["_law_thing"]) fun _ _ _ _ _ _ us hl => match us, hl with | [_], _ => rfl) fun cdv A_ outer sh H E' hr => ⟨(tRet (tAndV (tCB (rIsi c.K) (tCons (tVar 0) (tCons (tC (V.ty "int")) tNil))) (tNotV (tCB (rIsi c.K) (tCons (tVar 0) (tCons (tC (V.ty "bool")) tNil)))))),
    (pss_one (ps_ret (pe_and (pe_callB call_isi (by rfl) T.n_isinstance (by decide +kernel) (pa_cons (pv 0) (pa_cons (pe_bltn (v := V.ty "int") (by rfl) T.n_int (by decide +kernel) rfl) pa_nil))) (pe_one (pe_not (pe_callB call_isi (by rfl) T.n_isinstance (by decide +kernel) (pa_cons (pv 0) (pa_cons (pe_bltn (v := V.ty "bool") (by rfl) T.n_bool (by decide +kernel) rfl) pa_nil)))))))),
    (ss_ret (se_and (se_cb sn_is1 (sa_cons se_var (sa_cons (se_c fun _ _ => At.ty Ty.int) sa_nil))) (se_not (se_cb sn_is1 (sa_cons se_var (sa_cons (se_c fun _ _ => At.ty Ty.bl) sa_nil))))))⟩
theorem ok_law_lot (T : Txt c mg A) : FnR P w c.K mg base (L2.CX P w) 2 A.law_lot (spD c (D_law_lot)) :=
  fn_ss (N := Nn_law_lot) (ps := ["_law_pot_here", "_law_size"]) (s := dn_law_lot) T.F_law_lot sc_law_lot (T.F_law_lot.binds (ps := ["_law_pot_here", "_law_size"]) fun _ _ _ _ _ _ us hl => match us, hl with | [_, _], _ => rfl) fun cdv A_ outer sh H E' hr => ⟨(tSeq (tAsg (tLst (tCons (tCallS (spD c D_law_draw) (fun _ => E') (tCons (tVar 0) (tCons (tVar 1) tNil))) tNil)) (gName 2))
    (tSeq (tFor (iRng1 (tCons (tCallS (spD c D_law_draw) (fun _ => E') (tCons (tVar 0) (tCons (tC (V.int 3)) tNil))) tNil)) (gName 3) (tSeq (tAsg (tCallS (spD c D_law_draw) (fun _ => E') (tCons (tVar 0) (tCons (tVar 1) tNil))) (gName 4))
    (tIfS (tTest (tOp (rIn c.K true) (tVar 4) (tVar 2))) (tDrop (tBM c.K "list" rAppend (tVar 2) (tCons (tVar 4) tNil))) tNext)))
    (tRet (tVar 2)))),
    (pss_cons (ps_asg (pe_lst (pa_cons (pe_callRS (ok_law_draw T) (hr.mono (by decide)) (by rfl) T.m_law_draw T.F_law_draw.kp (passE (takes_of rfl rfl rfl rfl)) (pa_cons (pv 0) (pa_cons (pv 1) pa_nil))) pa_nil)) (pg_name (i := 2) sc_law_lot.nd rfl (by first | exact Or.inl rfl | exact Or.inr rfl)))
    (pss_cons (ps_for (passes_of rfl) rfl (pi_range1 (by rfl) T.n_range (pa_cons (pe_callRS (ok_law_draw T) (hr.mono (by decide)) (by rfl) T.m_law_draw T.F_law_draw.kp (passE (takes_of rfl rfl rfl rfl)) (pa_cons (pv 0) (pa_cons pe_int pa_nil))) pa_nil)) (pg_name (i := 3) sc_law_lot.nd rfl (by first | exact Or.inl rfl | exact Or.inr rfl)) (pss_cons (ps_asg (pe_callRS (ok_law_draw T) (hr.mono (by decide)) (by rfl) T.m_law_draw T.F_law_draw.kp (passE (takes_of rfl rfl rfl rfl)) (pa_cons (pv 0) (pa_cons (pv 1) pa_nil))) (pg_name (i := 4) sc_law_lot.nd rfl (by first | exact Or.inl rfl | exact Or.inr rfl)))
    (pss_one (ps_if (pt_cmpR op_notIn_seq (pv 4) (pv 2) rfl) (pss_one (ps_expr (pe_bm PySem.F.plainAttrs_list PySem.F.slot_list_append PySem.F.type_list_append mt_append (pv 2) (pa_cons (pv 4) pa_nil)))) pss_nil))))
    (pss_one (ps_ret (pv 2))))),
    (ss_seq (ss_own (sen_lst (sa_cons (se_call (sa_cons se_var (sa_cons se_var sa_nil))) sa_nil)))
    (ss_seq (ss_for (si_rng1 (sa_cons (se_call (sa_cons se_var (sa_cons se_int sa_nil))) sa_nil)) sg_name (ss_seq (ss_asg (se_call (sa_cons se_var (sa_cons se_var sa_nil))) sg_name)
    (ss_if (st_test (se_inc se_var)) (ss_append se_var) ss_next)))
    (ss_give (i := 2) (ss_ret se_var))))⟩
theorem ok_law_due (T : Txt c mg A) : FnR P w c.K mg base (L2.CX P w) 2 A.law_due (spD c (D_law_due)) :=
  fn_ss (N := Nn_law_due) (ps := ["_law_pot_here"]) (s := dn_law_due) T.F_law_due sc_law_due (T.F_law_due.binds (ps := ["_law_pot_here"]) fun _ _ _ _ _ _ us hl => match us, hl with | [_], _ => rfl) fun cdv A_ outer sh H E' hr => ⟨(tSeq (tAsg (tCallS (spD c D_law_draw) (fun _ => E') (tCons (tVar 0) (tCons (tC (V.int 6)) tNil))) (gName 1))
    (tSeq (tIfS (tTest (tOp (rI0 fun i j => V.bl (decide (i ≤ j))) (tVar 1) (tC (V.int 2)))) (tRet (tTup (tCons (tC (V.str "chips")) (tCons (tC (V.int 0)) tNil)))) tNext)
    (tSeq (tIfS (tTest (tOp rEq (tVar 1) (tC (V.int 3)))) (tRet (tTup (tCons (tC (V.str "chips")) (tCons (tOp (rI0 fun i j => V.int (i + j)) (tC (V.int 1)) (tCallS (spD c D_law_draw) (fun _ => E') (tCons (tVar 0) (tCons (tC (V.int 4)) tNil)))) tNil)))) tNext)
    (tSeq (tIfS (tTest (tOp rEq (tVar 1) (tC (V.int 4)))) (tRet (tTup (tCons (tC (V.str "less")) (tCons (tOp (rI0 fun i j => V.int (i + j)) (tC (V.int 1)) (tCallS (spD c D_law_draw) (fun _ => E') (tCons (tVar 0) (tCons (tC (V.int 3)) tNil)))) tNil)))) tNext)
    (tRet (tC V.non)))))),
    (pss_cons (ps_asg (pe_callRS (ok_law_draw T) (hr.mono (by decide)) (by rfl) T.m_law_draw T.F_law_draw.kp (passE (takes_of rfl rfl rfl rfl)) (pa_cons (pv 0) (pa_cons pe_int pa_nil))) (pg_name (i := 1) sc_law_due.nd rfl (by first | exact Or.inl rfl | exact Or.inr rfl)))
    (pss_cons (ps_if (pt_cmpR op_le (pv 1) pe_int (nomark _)) (pss_one (ps_ret (pe_tup (pa_cons pe_str (pa_cons pe_int pa_nil))))) pss_nil)
    (pss_cons (ps_if (pt_cmpR op_eq (pv 1) pe_int (nomark _)) (pss_one (ps_ret (pe_tup (pa_cons pe_str (pa_cons (pe_op op_add pe_int (pe_callRS (ok_law_draw T) (hr.mono (by decide)) (by rfl) T.m_law_draw T.F_law_draw.kp (passE (takes_of rfl rfl rfl rfl)) (pa_cons (pv 0) (pa_cons pe_int pa_nil)))) pa_nil))))) pss_nil)
    (pss_cons (ps_if (pt_cmpR op_eq (pv 1) pe_int (nomark _)) (pss_one (ps_ret (pe_tup (pa_cons pe_str (pa_cons (pe_op op_add pe_int (pe_callRS (ok_law_draw T) (hr.mono (by decide)) (by rfl) T.m_law_draw T.F_law_draw.kp (passE (takes_of rfl rfl rfl rfl)) (pa_cons (pv 0) (pa_cons pe_int pa_nil)))) pa_nil))))) pss_nil)
    (pss_one (ps_ret pe_non)))))),
    (ss_seq (ss_asg (se_call (sa_cons se_var (sa_cons se_int sa_nil))) sg_name)
    (ss_seq (ss_if (st_test (se_op2 s2_le se_var se_int)) (ss_ret (se_tup (sa_cons se_str (sa_cons se_int sa_nil)))) ss_next)
    (ss_seq (ss_if (st_test (se_op2 s2_eq se_var se_int)) (ss_ret (se_tup (sa_cons se_str (sa_cons (se_op2 s2_add se_int (se_call (sa_cons se_var (sa_cons se_int sa_nil)))) sa_nil)))) ss_next)
    (ss_seq (ss_if (st_test (se_op2 s2_eq se_var se_int)) (ss_ret (se_tup (sa_cons se_str (sa_cons (se_op2 s2_add se_int (se_call (sa_cons se_var (sa_cons se_int sa_nil)))) sa_nil)))) ss_next)
    (ss_ret se_non)))))⟩
theorem ok_law_marks (T : Txt c mg A) : FnR P w c.K mg base (L2.CX P w) 2 A.law_marks (spD c (D_law_marks)) :=
  fn_ss (N := Nn_law_marks) (ps := ["_law_pot_here", "_law_size"]) (s := dn_law_marks) T.F_law_marks sc_law_marks (T.F_law_marks.binds (ps := ["_law_pot_here", "_law_size"]) fun _ _ _ _ _ _ us hl => match us, hl with | [_, _], _ => rfl) fun cdv A_ outer sh H E' hr => ⟨(tSeq (tAsg (tCallS (spD c D_law_draw) (fun _ => E') (tCons (tVar 0) (tCons (tC (V.int 4)) tNil))) (gName 2))
    (tSeq (tIfS (tTest (tOp (rI0 fun i j => V.bl (decide (i ≤ j))) (tVar 2) (tC (V.int 1)))) (tRet (tLc (iRng1 (tCons (tVar 1) tNil)) (gName 3) tYes (tOp (rI0 fun i j => V.int (i + j)) (tC (V.int 1)) (tVar 2)) [3])) tNext)
    (tRet (tLc (iRng1 (tCons (tVar 1) tNil)) (gName 3) tYes (tOp (rI0 fun i j => V.int (i + j)) (tC (V.int 1)) (tCallS (spD c D_law_draw) (fun _ => L2.E0) (tCons (tVar 0) (tCons (tC (V.int 2)) tNil)))) [3])))),
    (pss_cons (ps_asg (pe_callRS (ok_law_draw T) (hr.mono (by decide)) (by rfl) T.m_law_draw T.F_law_draw.kp (passE (takes_of rfl rfl rfl rfl)) (pa_cons (pv 0) (pa_cons pe_int pa_nil))) (pg_name (i := 2) sc_law_marks.nd rfl (by first | exact Or.inl rfl | exact Or.inr rfl)))
    (pss_cons (ps_if (pt_cmpR op_le (pv 2) pe_int (nomark _)) (pss_one (ps_ret (pe_lc (own := [("_law_stand", 3)]) (g := gName 3) (wi := (iRng1 (tCons (tVar 1) tNil))) (tt := tYes) (te := (tOp (rI0 fun i j => V.int (i + j)) (tC (V.int 1)) (tVar 2))) rfl sc_law_marks.nd (pi_range1 (by rfl) T.n_range (pa_cons (pv 1) pa_nil)) (blkOk_by (N := Nn_law_marks) (sc := defScope s_law_marks) (by decide +kernel)) (fun _ _ _ _ _ => pg_name (i := 3) sc_law_marks.nd rfl (by first | exact Or.inl rfl | exact Or.inr rfl)) (fun _ _ _ _ _ => pts_nil) (fun _ _ _ _ _ => (pe_op op_add pe_int (pv 2)))))) pss_nil)
    (pss_one (ps_ret (pe_lc (own := [("_law_stand", 3)]) (g := gName 3) (wi := (iRng1 (tCons (tVar 1) tNil))) (tt := tYes) (te := (tOp (rI0 fun i j => V.int (i + j)) (tC (V.int 1)) (tCallS (spD c D_law_draw) (fun _ => L2.E0) (tCons (tVar 0) (tCons (tC (V.int 2)) tNil))))) rfl sc_law_marks.nd (pi_range1 (by rfl) T.n_range (pa_cons (pv 1) pa_nil)) (blkOk_by (N := Nn_law_marks) (sc := defScope s_law_marks) (by decide +kernel)) (fun _ _ _ _ _ => pg_name (i := 3) sc_law_marks.nd rfl (by first | exact Or.inl rfl | exact Or.inr rfl)) (fun _ _ _ _ _ => pts_nil) (fun _ _ _ _ _ => (pe_op op_add pe_int (pe_callRS (ok_law_draw T) (hr.mono (by decide)) (by rfl) T.m_law_draw T.F_law_draw.kp passNo (pa_cons (pv 0) (pa_cons pe_int pa_nil)))))))))),
    (ss_seq (ss_asg (se_call (sa_cons se_var (sa_cons se_int sa_nil))) sg_name)
    (ss_seq (ss_if (st_test (se_op2 s2_le se_var se_int)) (ss_ret (se_new (sen_comp (si_rng1 (sa_cons se_var sa_nil)) st_true (se_op2 s2_add se_int se_var)))) ss_next)
    (ss_ret (se_new (sen_comp (si_rng1 (sa_cons se_var sa_nil)) st_true (se_op2 s2_add se_int (se_call (sa_cons se_var (sa_cons se_int sa_nil)))))))))⟩
theorem ok_law_path (T : Txt c mg A) : FnR P w c.K mg base (L2.CX P w) 1 A.law_path (spD c (D_law_path)) :=
  fn_ss (N := Nn_law_path) (ps := ["_law_size"]) (s := dn_law_path) T.F_law_path sc_law_path (T.F_law_path.binds (ps := ["_law_size"]) fun _ _ _ _ _ _ us hl => match us, hl with | [_], _ => rfl) fun cdv A_ outer sh H E' hr => ⟨(tSeq (tAsg (tLst (tCons (tLst tNil) (tCons (tLst tNil) tNil))) (gName 1))
    (tSeq (tFor (iRng2 (tCons (tC (V.int 2)) (tCons (tVar 0) tNil))) (gName 2) (tSeq (tAsg (tOp (rI0 fun i j => V.int (i - j)) (tVar 2) (tC (V.int 1))) (gName 3))
    (tSeq (tIfS (tTest (tOp rEq (tVar 2) (tC (V.int 2)))) (tAsg (tC (V.int 0)) (gName 3)) tNext)
    (tSeq (tAsg (tOp (rI0 fun i j => V.int (i + j)) (tVar 2) (tC (V.int 1))) (gName 4))
    (tSeq (tIfS (tTest (tOp rEq (tVar 2) (tOp (rI0 fun i j => V.int (i - j)) (tVar 0) (tC (V.int 1))))) (tAsg (tC (V.int 1)) (gName 4)) tNext)
    (tDrop (tBM c.K "list" rAppend (tVar 1) (tCons (tLst (tCons (tVar 3) (tCons (tVar 4) tNil))) tNil))))))))
    (tRet (tVar 1)))),
    (pss_cons (ps_asg (pe_lst (pa_cons (pe_lst pa_nil) (pa_cons (pe_lst pa_nil) pa_nil))) (pg_name (i := 1) sc_law_path.nd rfl (by first | exact Or.inl rfl | exact Or.inr rfl)))
    (pss_cons (ps_for (passes_of rfl) rfl (pi_range2 (by rfl) T.n_range (pa_cons pe_int (pa_cons (pv 0) pa_nil))) (pg_name (i := 2) sc_law_path.nd rfl (by first | exact Or.inl rfl | exact Or.inr rfl)) (pss_cons (ps_asg (pe_op op_sub (pv 2) pe_int) (pg_name (i := 3) sc_law_path.nd rfl (by first | exact Or.inl rfl | exact Or.inr rfl)))
    (pss_cons (ps_if (pt_cmpR op_eq (pv 2) pe_int (nomark _)) (pss_one (ps_asg pe_int (pg_name (i := 3) sc_law_path.nd rfl (by first | exact Or.inl rfl | exact Or.inr rfl)))) pss_nil)
    (pss_cons (ps_asg (pe_op op_add (pv 2) pe_int) (pg_name (i := 4) sc_law_path.nd rfl (by first | exact Or.inl rfl | exact Or.inr rfl)))
    (pss_cons (ps_if (pt_cmpR op_eq (pv 2) (pe_op op_sub (pv 0) pe_int) (nomark _)) (pss_one (ps_asg pe_int (pg_name (i := 4) sc_law_path.nd rfl (by first | exact Or.inl rfl | exact Or.inr rfl)))) pss_nil)
    (pss_one (ps_expr (pe_bm PySem.F.plainAttrs_list PySem.F.slot_list_append PySem.F.type_list_append mt_append (pv 1) (pa_cons (pe_lst (pa_cons (pv 3) (pa_cons (pv 4) pa_nil))) pa_nil)))))))))
    (pss_one (ps_ret (pv 1))))),
    (ss_seq (ss_own (sen_lst (sa_cons (se_new (sen_lst sa_nil)) (sa_cons (se_new (sen_lst sa_nil)) sa_nil))))
    (ss_seq (ss_for (si_rng2 (sa_cons se_int (sa_cons se_var sa_nil))) sg_name (ss_seq (ss_asg (se_op2 s2_sub se_var se_int) sg_name)
    (ss_seq (ss_if (st_test (se_op2 s2_eq se_var se_int)) (ss_asg se_int sg_name) ss_next)
    (ss_seq (ss_asg (se_op2 s2_add se_var se_int) sg_name)
    (ss_seq (ss_if (st_test (se_op2 s2_eq se_var (se_op2 s2_sub se_var se_int))) (ss_asg se_int sg_name) ss_next)
    (ss_append (se_new (sen_lst (sa_cons se_var (sa_cons se_var sa_nil))))))))))
    (ss_give (i := 1) (ss_ret se_var))))⟩
theorem ok_law_web (T : Txt c mg A) : FnR P w c.K mg base (L2.CX P w) 3 A.law_web (spD c (D_law_web)) :=
  fn_ss (N := Nn_law_web) (ps := ["_law_pot_here", "_law_most", "_law_even"]) (s := dn_law_web) T.F_law_web sc_law_web (T.F_law_web.binds (ps := ["_law_pot_here", "_law_most", "_law_even"]) fun _ _ _ _ _ _ us hl => match us, hl with | [_, _, _], _ => rfl) fun cdv A_ outer sh H E' hr => ⟨(tSeq (tAsg (tCB rMin2F (tCons (tVar 1) (tCons (tOp (rIx c.K) (tLst (tCons (tC (V.int 4)) (tCons (tC (V.int 3)) (tCons (tC (V.int 5)) (tCons (tC (V.int 4)) (tCons (tC (V.int 6)) (tCons (tC (V.int 2)) (tCons (tC (V.int 5)) (tCons (tC (V.int 3)) (tCons (tC (V.int 7)) (tCons (tC (V.int 1)) tNil))))))))))) (tCallS (spD c D_law_draw) (fun _ => E') (tCons (tVar 0) (tCons (tC (V.int 10)) tNil)))) tNil))) (gName 3))
    (tSeq (tAsg (tCallS (spD c D_law_draw) (fun _ => E') (tCons (tVar 0) (tCons (tC (V.int 5)) tNil))) (gName 4))
    (tSeq (tAsg (tLst tNil) (gName 5))
    (tSeq (tAsg (tLst tNil) (gName 6))
    (tSeq (tIfS (tAnd (tTest (tOp rEq (tVar 4) (tC (V.int 0)))) (tTest (tOp (rI0 fun i j => V.bl (decide (j ≤ i))) (tVar 3) (tC (V.int 2))))) (tSeq (tAsg (tCallS (spD c D_law_path) (fun _ => E') (tCons (tVar 3) tNil)) (gName 5))
    (tSeq (tAsg (tOp rCat (tLst (tCons (tTup (tCons (tC (V.str "chips")) (tCons (tC (V.int 0)) tNil))) tNil)) (tLc (iRng1 (tCons (tOp (rI0 fun i j => V.int (i - j)) (tVar 3) (tC (V.int 1))) tNil)) (gName 7) tYes (tC V.non) [7])) (gName 6))
    (tAsg (tLc (iList c.K (tVar 5)) (gName 9) tYes (tCB (rListF c.K) (tCons (tVar 9) tNil)) [9]) (gName 8)))) (tSeq (tAsg (tLst tNil) (gName 8))
    (tFor (iRng1 (tCons (tVar 3) tNil)) (gName 7) (tSeq (tAsg (tAndV (tOp rEq (tVar 7) (tC (V.int 0))) (tOp rNe (tVar 4) (tC (V.int 4)))) (gName 10))
    (tSeq (tIfS (tAnd (tTest (tOp rEq (tVar 7) (tC (V.int 1)))) (tTest (tOp rNe (tVar 4) (tC (V.int 3))))) (tAsg (tC (V.bl true)) (gName 10)) tNext)
    (tSeq (tIfS (tAnd (tTest (tOp (rI0 fun i j => V.bl (decide (j ≤ i))) (tVar 7) (tC (V.int 2)))) (tTest (tOp rEq (tCallS (spD c D_law_draw) (fun _ => E') (tCons (tVar 0) (tCons (tC (V.int 8)) tNil))) (tC (V.int 7))))) (tAsg (tC (V.bl true)) (gName 10)) tNext)
    (tSeq (tIfS (fun σ H Q => (tVar 10) σ H fun x H' => ∃ k, TruV c.K x H' k ∧ Q k H') (tSeq (tDrop (tBM c.K "list" rAppend (tVar 5) (tCons (tLst tNil) tNil)))
    (tDrop (tBM c.K "list" rAppend (tVar 8) (tCons (tLst tNil) tNil)))) (tSeq (tAsg (tCallS (spD c D_law_lot) (fun _ => E') (tCons (tVar 0) (tCons (tVar 3) tNil))) (gName 9))
    (tSeq (tDrop (tBM c.K "list" rAppend (tVar 5) (tCons (tVar 9) tNil)))
    (tIfS (tOr (fun σ H Q => (tVar 2) σ H fun x H' => ∃ k, TruV c.K x H' k ∧ Q k H') (tTest (tOp rEq (tCallS (spD c D_law_draw) (fun _ => E') (tCons (tVar 0) (tCons (tC (V.int 2)) tNil))) (tC (V.int 0))))) (tDrop (tBM c.K "list" rAppend (tVar 8) (tCons (tCB (rListF c.K) (tCons (tVar 9) tNil)) tNil))) (tDrop (tBM c.K "list" rAppend (tVar 8) (tCons (tCallS (spD c D_law_lot) (fun _ => E') (tCons (tVar 0) (tCons (tVar 3) tNil))) tNil)))))))
    (tSeq (tAsg (tC V.non) (gName 11))
    (tSeq (tIfS (tOr (tTest (tOp rEq (tVar 7) (tC (V.int 0)))) (tAnd (fun σ H Q => (tVar 10) σ H fun x H' => ∃ k, TruV c.K x H' k ∧ Q k H') (tTest (tOp (rI0 fun i j => V.bl (decide (j ≤ i))) (tVar 7) (tC (V.int 2)))))) (tAsg (tCallS (spD c D_law_due) (fun _ => E') (tCons (tVar 0) tNil)) (gName 11)) (tIfS (tAnd (tNot (fun σ H Q => (tVar 10) σ H fun x H' => ∃ k, TruV c.K x H' k ∧ Q k H')) (tTest (tOp rEq (tCallS (spD c D_law_draw) (fun _ => E') (tCons (tVar 0) (tCons (tC (V.int 8)) tNil))) (tC (V.int 7))))) (tAsg (tCallS (spD c D_law_due) (fun _ => E') (tCons (tVar 0) tNil)) (gName 11)) tNext))
    (tDrop (tBM c.K "list" rAppend (tVar 6) (tCons (tVar 11) tNil))))))))))))
    (tRet (tLst (tCons (tVar 5) (tCons (tVar 8) (tCons (tCallS (spD c D_law_marks) (fun _ => E') (tCons (tVar 0) (tCons (tVar 3) tNil))) (tCons (tVar 6) tNil))))))))))),
    (pss_cons (ps_asg (pe_callB (call_min2 rfl) (by rfl) T.n_min (by decide +kernel) (pa_cons (pv 1) (pa_cons (pe_ix ix_seq (pe_lst (pa_cons pe_int (pa_cons pe_int (pa_cons pe_int (pa_cons pe_int (pa_cons pe_int (pa_cons pe_int (pa_cons pe_int (pa_cons pe_int (pa_cons pe_int (pa_cons pe_int pa_nil))))))))))) (pe_callRS (ok_law_draw T) (hr.mono (by decide)) (by rfl) T.m_law_draw T.F_law_draw.kp (passE (takes_of rfl rfl rfl rfl)) (pa_cons (pv 0) (pa_cons pe_int pa_nil))) (fun _ _ => rfl)) pa_nil))) (pg_name (i := 3) sc_law_web.nd rfl (by first | exact Or.inl rfl | exact Or.inr rfl)))
    (pss_cons (ps_asg (pe_callRS (ok_law_draw T) (hr.mono (by decide)) (by rfl) T.m_law_draw T.F_law_draw.kp (passE (takes_of rfl rfl rfl rfl)) (pa_cons (pv 0) (pa_cons pe_int pa_nil))) (pg_name (i := 4) sc_law_web.nd rfl (by first | exact Or.inl rfl | exact Or.inr rfl)))
    (pss_cons (ps_asg (pe_lst pa_nil) (pg_name (i := 5) sc_law_web.nd rfl (by first | exact Or.inl rfl | exact Or.inr rfl)))
    (pss_cons (ps_asg (pe_lst pa_nil) (pg_name (i := 6) sc_law_web.nd rfl (by first | exact Or.inl rfl | exact Or.inr rfl)))
    (pss_cons (ps_if (PW.pt (pw_and (pt_cmpR op_eq (pv 4) pe_int (nomark _)) (pw_and1 (pt_cmpR op_ge (pv 3) pe_int (nomark _))))) (pss_cons (ps_asg (pe_callRS (ok_law_path T) (hr.mono (by decide)) (by rfl) T.m_law_path T.F_law_path.kp (passE (takes_of rfl rfl rfl rfl)) (pa_cons (pv 3) pa_nil)) (pg_name (i := 5) sc_law_web.nd rfl (by first | exact Or.inl rfl | exact Or.inr rfl)))
    (pss_cons (ps_asg (pe_op op_cat (pe_lst (pa_cons (pe_tup (pa_cons pe_str (pa_cons pe_int pa_nil))) pa_nil)) (pe_lc (own := [("_law_stand", 7)]) (g := gName 7) (wi := (iRng1 (tCons (tOp (rI0 fun i j => V.int (i - j)) (tVar 3) (tC (V.int 1))) tNil))) (tt := tYes) (te := (tC V.non)) rfl sc_law_web.nd (pi_range1 (by rfl) T.n_range (pa_cons (pe_op op_sub (pv 3) pe_int) pa_nil)) (blkOk_by (N := Nn_law_web) (sc := defScope s_law_web) (by decide +kernel)) (fun _ _ _ _ _ => pg_name (i := 7) sc_law_web.nd rfl (by first | exact Or.inl rfl | exact Or.inr rfl)) (fun _ _ _ _ _ => pts_nil) (fun _ _ _ _ _ => pe_non))) (pg_name (i := 6) sc_law_web.nd rfl (by first | exact Or.inl rfl | exact Or.inr rfl)))
    (pss_one (ps_setLc (i := 8) (own := [("_law_lot_here", 9)]) (g := gName 9) (wi := (iList c.K (tVar 5))) (tt := tYes) (te := (tCB (rListF c.K) (tCons (tVar 9) tNil))) rfl sc_law_web.nd rfl rfl (sw_true rfl rfl rfl (by decide +kernel)) (pi_list (pv 5)) (blkOk_by (N := Nn_law_web) (sc := defScope s_law_web) (by decide +kernel)) (fun _ _ _ _ _ => pg_name (i := 9) sc_law_web.nd rfl (by first | exact Or.inl rfl | exact Or.inr rfl)) (fun _ _ _ _ _ => pts_nil) (fun _ _ _ _ _ => (pe_callTy call_list_of (by rfl) T.n_list (by decide +kernel) (pa_cons (pv 9) pa_nil))))))) (pss_cons (ps_asg (pe_lst pa_nil) (pg_name (i := 8) sc_law_web.nd rfl (by first | exact Or.inl rfl | exact Or.inr rfl)))
    (pss_one (ps_for (passes_of rfl) rfl (pi_range1 (by rfl) T.n_range (pa_cons (pv 3) pa_nil)) (pg_name (i := 7) sc_law_web.nd rfl (by first | exact Or.inl rfl | exact Or.inr rfl)) (pss_cons (ps_asg (pe_and (pe_cmpR op_eq (pv 7) pe_int (nomark _)) (pe_one (pe_cmpR op_ne (pv 4) pe_int (nomark _)))) (pg_name (i := 10) sc_law_web.nd rfl (by first | exact Or.inl rfl | exact Or.inr rfl)))
    (pss_cons (ps_if (PW.pt (pw_and (pt_cmpR op_eq (pv 7) pe_int (nomark _)) (pw_and1 (pt_cmpR op_ne (pv 4) pe_int (nomark _))))) (pss_one (ps_asg pe_bl (pg_name (i := 10) sc_law_web.nd rfl (by first | exact Or.inl rfl | exact Or.inr rfl)))) pss_nil)
    (pss_cons (ps_if (PW.pt (pw_and (pt_cmpR op_ge (pv 7) pe_int (nomark _)) (pw_and1 (pt_cmpR op_eq (pe_callRS (ok_law_draw T) (hr.mono (by decide)) (by rfl) T.m_law_draw T.F_law_draw.kp (passE (takes_of rfl rfl rfl rfl)) (pa_cons (pv 0) (pa_cons pe_int pa_nil))) pe_int (nomark _))))) (pss_one (ps_asg pe_bl (pg_name (i := 10) sc_law_web.nd rfl (by first | exact Or.inl rfl | exact Or.inr rfl)))) pss_nil)
    (pss_cons (ps_if (pt_truth (pv 10) (by intro _; rfl)) (pss_cons (ps_expr (pe_bm PySem.F.plainAttrs_list PySem.F.slot_list_append PySem.F.type_list_append mt_append (pv 5) (pa_cons (pe_lst pa_nil) pa_nil)))
    (pss_one (ps_expr (pe_bm PySem.F.plainAttrs_list PySem.F.slot_list_append PySem.F.type_list_append mt_append (pv 8) (pa_cons (pe_lst pa_nil) pa_nil))))) (pss_cons (ps_asg (pe_callRS (ok_law_lot T) (hr.mono (by decide)) (by rfl) T.m_law_lot T.F_law_lot.kp (passE (takes_of rfl rfl rfl rfl)) (pa_cons (pv 0) (pa_cons (pv 3) pa_nil))) (pg_name (i := 9) sc_law_web.nd rfl (by first | exact Or.inl rfl | exact Or.inr rfl)))
    (pss_cons (ps_expr (pe_bm PySem.F.plainAttrs_list PySem.F.slot_list_append PySem.F.type_list_append mt_append (pv 5) (pa_cons (pv 9) pa_nil)))
    (pss_one (ps_if (PW.pt (pw_or (pt_truth (pv 2) (by intro _; rfl)) (pw_or1 (pt_cmpR op_eq (pe_callRS (ok_law_draw T) (hr.mono (by decide)) (by rfl) T.m_law_draw T.F_law_draw.kp (passE (takes_of rfl rfl rfl rfl)) (pa_cons (pv 0) (pa_cons pe_int pa_nil))) pe_int (nomark _))))) (pss_one (ps_expr (pe_bm PySem.F.plainAttrs_list PySem.F.slot_list_append PySem.F.type_list_append mt_append (pv 8) (pa_cons (pe_callTy call_list_of (by rfl) T.n_list (by decide +kernel) (pa_cons (pv 9) pa_nil)) pa_nil)))) (pss_one (ps_expr (pe_bm PySem.F.plainAttrs_list PySem.F.slot_list_append PySem.F.type_list_append mt_append (pv 8) (pa_cons (pe_callRS (ok_law_lot T) (hr.mono (by decide)) (by rfl) T.m_law_lot T.F_law_lot.kp (passE (takes_of rfl rfl rfl rfl)) (pa_cons (pv 0) (pa_cons (pv 3) pa_nil))) pa_nil)))))))))
    (pss_cons (ps_asg pe_non (pg_name (i := 11) sc_law_web.nd rfl (by first | exact Or.inl rfl | exact Or.inr rfl)))
    (pss_cons (ps_if (PW.pt (pw_or (pt_cmpR op_eq (pv 7) pe_int (nomark _)) (pw_or1 (PW.pt (pw_and (pt_truth (pv 10) (by intro _; rfl)) (pw_and1 (pt_cmpR op_ge (pv 7) pe_int (nomark _)))))))) (pss_one (ps_asg (pe_callRS (ok_law_due T) (hr.mono (by decide)) (by rfl) T.m_law_due T.F_law_due.kp (passE (takes_of rfl rfl rfl rfl)) (pa_cons (pv 0) pa_nil)) (pg_name (i := 11) sc_law_web.nd rfl (by first | exact Or.inl rfl | exact Or.inr rfl)))) (pss_one (ps_if (PW.pt (pw_and (pt_not (pt_truth (pv 10) (by intro _; rfl))) (pw_and1 (pt_cmpR op_eq (pe_callRS (ok_law_draw T) (hr.mono (by decide)) (by rfl) T.m_law_draw T.F_law_draw.kp (passE (takes_of rfl rfl rfl rfl)) (pa_cons (pv 0) (pa_cons pe_int pa_nil))) pe_int (nomark _))))) (pss_one (ps_asg (pe_callRS (ok_law_due T) (hr.mono (by decide)) (by rfl) T.m_law_due T.F_law_due.kp (passE (takes_of rfl rfl rfl rfl)) (pa_cons (pv 0) pa_nil)) (pg_name (i := 11) sc_law_web.nd rfl (by first | exact Or.inl rfl | exact Or.inr rfl)))) pss_nil)))
    (pss_one (ps_expr (pe_bm PySem.F.plainAttrs_list PySem.F.slot_list_append PySem.F.type_list_append mt_append (pv 6) (pa_cons (pv 11) pa_nil))))))))))))))
    (pss_one (ps_ret (pe_lst (pa_cons (pv 5) (pa_cons (pv 8) (pa_cons (pe_callRS (ok_law_marks T) (hr.mono (by decide)) (by rfl) T.m_law_marks T.F_law_marks.kp (passE (takes_of rfl rfl rfl rfl)) (pa_cons (pv 0) (pa_cons (pv 3) pa_nil))) (pa_cons (pv 6) pa_nil)))))))))))),
    (ss_seq (ss_asg (se_cb sn_min2 (sa_cons se_var (sa_cons (se_op2 s2_ix (se_new (sen_lst (sa_cons se_int (sa_cons se_int (sa_cons se_int (sa_cons se_int (sa_cons se_int (sa_cons se_int (sa_cons se_int (sa_cons se_int (sa_cons se_int (sa_cons se_int sa_nil)))))))))))) (se_call (sa_cons se_var (sa_cons se_int sa_nil)))) sa_nil))) sg_name)
    (ss_seq (ss_asg (se_call (sa_cons se_var (sa_cons se_int sa_nil))) sg_name)
    (ss_seq (ss_own (sen_lst sa_nil))
    (ss_seq (ss_own (sen_lst sa_nil))
    (ss_seq (ss_if (st_and (st_test (se_op2 s2_eq se_var se_int)) (st_test (se_op2 s2_ge se_var se_int))) (ss_seq (ss_asg (se_call (sa_cons se_var sa_nil)) sg_name)
    (ss_seq (ss_asg (se_op2 s2_cat (se_new (sen_lst (sa_cons (se_tup (sa_cons se_str (sa_cons se_int sa_nil))) sa_nil))) (se_new (sen_comp (si_rng1 (sa_cons (se_op2 s2_sub se_var se_int) sa_nil)) st_true se_non))) sg_name)
    (ss_give (i := 5) (ss_own (sen_comp (si_list se_var) st_true (se_new (sen_list (sa_cons se_var sa_nil)))))))) (ss_seq (ss_own (sen_lst sa_nil))
    (ss_for (si_rng1 (sa_cons se_var sa_nil)) sg_name (ss_seq (ss_asg (se_and (se_op2 s2_eq se_var se_int) (se_op2 s2_ne se_var se_int)) sg_name)
    (ss_seq (ss_if (st_and (st_test (se_op2 s2_eq se_var se_int)) (st_test (se_op2 s2_ne se_var se_int))) (ss_asg se_bl sg_name) ss_next)
    (ss_seq (ss_if (st_and (st_test (se_op2 s2_ge se_var se_int)) (st_test (se_op2 s2_eq (se_call (sa_cons se_var (sa_cons se_int sa_nil))) se_int))) (ss_asg se_bl sg_name) ss_next)
    (ss_seq (ss_if (st_tru se_var) (ss_seq (ss_append (se_new (sen_lst sa_nil)))
    (ss_append (se_new (sen_lst sa_nil)))) (ss_seq (ss_asg (se_call (sa_cons se_var (sa_cons se_var sa_nil))) sg_name)
    (ss_seq (ss_append se_var)
    (ss_if (st_or (st_tru se_var) (st_test (se_op2 s2_eq (se_call (sa_cons se_var (sa_cons se_int sa_nil))) se_int))) (ss_append (se_new (sen_list (sa_cons se_var sa_nil)))) (ss_append (se_call (sa_cons se_var (sa_cons se_var sa_nil))))))))
    (ss_seq (ss_asg se_non sg_name)
    (ss_seq (ss_if (st_or (st_test (se_op2 s2_eq se_var se_int)) (st_and (st_tru se_var) (st_test (se_op2 s2_ge se_var se_int)))) (ss_asg (se_call (sa_cons se_var sa_nil)) sg_name) (ss_if (st_and (st_not (st_tru se_var)) (st_test (se_op2 s2_eq (se_call (sa_cons se_var (sa_cons se_int sa_nil))) se_int))) (ss_asg (se_call (sa_cons se_var sa_nil)) sg_name) ss_next))
    (ss_append se_var))))))))))
    (ss_give (i := 8) (ss_give (i := 5) (ss_give (i := 6) (ss_ret (se_new (sen_lst (sa_cons se_var (sa_cons se_var (sa_cons (se_call (sa_cons se_var (sa_cons se_var sa_nil))) (sa_cons se_var sa_nil)))))))))))))))⟩
theorem ok_law_built (T : Txt c mg A) : FnR P w c.K mg base (L2.CX P w) 8 A.law_built (spD c (D_law_built A.ca)) :=
  fn_ss (N := Nn_law_built) (ps := ["_law_web_here"]) (s := dn_law_built A.ca) T.F_law_built sc_law_built (T.F_law_built.binds (ps := ["_law_web_here"]) fun _ _ _ _ _ _ us hl => match us, hl with | [_], _ => rfl) fun cdv A_ outer sh H E' hr => ⟨(tRet (StX.tMakeR A.ca.Web (spI c A.ca.Web (D_Web_init A.ca)) E' (tCons (tLc (iList c.K (tOp (rIx c.K) (tVar 0) (tC (V.int 0)))) (gName 1) tYes (tCB (rListF c.K) (tCons (tVar 1) tNil)) [1]) (tCons (tLc (iList c.K (tOp (rIx c.K) (tVar 0) (tC (V.int 1)))) (gName 1) tYes (tCB (rListF c.K) (tCons (tVar 1) tNil)) [1]) (tCons (tCB (rListF c.K) (tCons (tOp (rIx c.K) (tVar 0) (tC (V.int 2))) tNil)) (tCons (tCB (rListF c.K) (tCons (tOp (rIx c.K) (tVar 0) (tC (V.int 3))) tNil)) tNil)))))),
    (pss_one (ps_ret (StX.pe_makeR T.mk_Web (ok_Web_init T) (hr.mono (by decide)) (by rfl) T.m_Web (fun pins σ H s e s' I h => passE (takes_of rfl rfl rfl rfl) σ pins H s e s' I h) (pa_cons (pe_lc (own := [("_law_lot_here", 1)]) (g := gName 1) (wi := (iList c.K (tOp (rIx c.K) (tVar 0) (tC (V.int 0))))) (tt := tYes) (te := (tCB (rListF c.K) (tCons (tVar 1) tNil))) rfl sc_law_built.nd (pi_list (pe_ix ix_seq (pv 0) pe_int (fun _ _ => rfl))) (blkOk_by (N := Nn_law_built) (sc := defScope s_law_built) (by decide +kernel)) (fun _ _ _ _ _ => pg_name (i := 1) sc_law_built.nd rfl (by first | exact Or.inl rfl | exact Or.inr rfl)) (fun _ _ _ _ _ => pts_nil) (fun _ _ _ _ _ => (pe_callTy call_list_of (by rfl) T.n_list (by decide +kernel) (pa_cons (pv 1) pa_nil)))) (pa_cons (pe_lc (own := [("_law_lot_here", 1)]) (g := gName 1) (wi := (iList c.K (tOp (rIx c.K) (tVar 0) (tC (V.int 1))))) (tt := tYes) (te := (tCB (rListF c.K) (tCons (tVar 1) tNil))) rfl sc_law_built.nd (pi_list (pe_ix ix_seq (pv 0) pe_int (fun _ _ => rfl))) (blkOk_by (N := Nn_law_built) (sc := defScope s_law_built) (by decide +kernel)) (fun _ _ _ _ _ => pg_name (i := 1) sc_law_built.nd rfl (by first | exact Or.inl rfl | exact Or.inr rfl)) (fun _ _ _ _ _ => pts_nil) (fun _ _ _ _ _ => (pe_callTy call_list_of (by rfl) T.n_list (by decide +kernel) (pa_cons (pv 1) pa_nil)))) (pa_cons (pe_callTy call_list_of (by rfl) T.n_list (by decide +kernel) (pa_cons (pe_ix ix_seq (pv 0) pe_int (fun _ _ => rfl)) pa_nil)) (pa_cons (pe_callTy call_list_of (by rfl) T.n_list (by decide +kernel) (pa_cons (pe_ix ix_seq (pv 0) pe_int (fun _ _ => rfl)) pa_nil)) pa_nil))))))),
    (ss_ret (se_make (sa_cons (se_new (sen_comp (si_list (se_op2 s2_ix se_var se_int)) st_true (se_new (sen_list (sa_cons se_var sa_nil))))) (sa_cons (se_new (sen_comp (si_list (se_op2 s2_ix se_var se_int)) st_true (se_new (sen_list (sa_cons se_var sa_nil))))) (sa_cons (se_new (sen_list (sa_cons (se_op2 s2_ix se_var se_int) sa_nil))) (sa_cons (se_new (sen_list (sa_cons (se_op2 s2_ix se_var se_int) sa_nil))) sa_nil))))))⟩
theorem ok_law_good (T : Txt c mg A) : FnR P w c.K mg base (L2.CX P w) 1 A.law_good (spD c (D_law_good)) :=
  fn_ss (N := Nn_law_good) (ps := ["_law_web_here", "_law_row", "_law_stand", "_law_purse", "_law_p", "_law_q"]) (s := dn_law_good) T.F_law_good sc_law_good (T.F_law_good.binds (ps := ["_law_web_here", "_law_row", "_law_stand", "_law_purse", "_law_p", "_law_q"]) fun _ _ _ _ _ _ us hl => match us, hl with | [_, _, _, _, _, _], _ => rfl) fun cdv A_ outer sh H E' hr => ⟨(tSeq (tIfS (tOr (tTest (tOp (rI0 fun i j => V.bl (decide (j < i))) (tVar 4) (tVar 5))) (tAnd (tTest (tOp rEq (tVar 4) (tVar 5))) (tTest (tOp rEq (tOp (rIx c.K) (tOp (rIx c.K) (tVar 0) (tC (V.int 2))) (tVar 2)) (tC (V.int 1)))))) (tRet (tOp (rI0 fun i j => V.bl (decide (j < i))) (tCB (rLenS c.K) (tCons (tLc (iList c.K (tOp (rIx c.K) (tOp (rIx c.K) (tVar 0) (tC (V.int 0))) (tVar 2))) (gName 6) (tTest (tOp (rI0 fun i j => V.bl (decide (j ≤ i))) (tOp (rI0 fun i j => V.int (i - j)) (tVar 3) (tVar 4)) (tOp (rIx c.K) (tVar 1) (tVar 6)))) (tVar 6) [6]) tNil)) (tC (V.int 0)))) tNext)
    (tRet (tOp rEq (tCB (rLenS c.K) (tCons (tLc (iList c.K (tOp (rIx c.K) (tOp (rIx c.K) (tVar 0) (tC (V.int 1))) (tVar 2))) (gName 6) (tTest (tOp (rI0 fun i j => V.bl (decide (i < j))) (tOp (rI0 fun i j => V.int (i + j)) (tVar 3) (tVar 5)) (tOp (rIx c.K) (tVar 1) (tVar 6)))) (tVar 6) [6]) tNil)) (tC (V.int 0))))),
    (pss_cons (ps_if (PW.pt (pw_or (pt_cmpR op_gt (pv 4) (pv 5) (nomark _)) (pw_or1 (PW.pt (pw_and (pt_cmpR op_eq (pv 4) (pv 5) (nomark _)) (pw_and1 (pt_cmpR op_eq (pe_ix ix_seq (pe_ix ix_seq (pv 0) pe_int (fun _ _ => rfl)) (pv 2) (fun _ _ => rfl)) pe_int (nomark _)))))))) (pss_one (ps_ret (pe_cmpR op_gt (pe_callB call_len_seq (by rfl) T.n_len (by decide +kernel) (pa_cons (pe_lc (own := [("_law_step", 6)]) (g := gName 6) (wi := (iList c.K (tOp (rIx c.K) (tOp (rIx c.K) (tVar 0) (tC (V.int 0))) (tVar 2)))) (tt := (tTest (tOp (rI0 fun i j => V.bl (decide (j ≤ i))) (tOp (rI0 fun i j => V.int (i - j)) (tVar 3) (tVar 4)) (tOp (rIx c.K) (tVar 1) (tVar 6))))) (te := (tVar 6)) rfl sc_law_good.nd (pi_list (pe_ix ix_seq (pe_ix ix_seq (pv 0) pe_int (fun _ _ => rfl)) (pv 2) (fun _ _ => rfl))) (blkOk_by (N := Nn_law_good) (sc := defScope s_law_good) (by decide +kernel)) (fun _ _ _ _ _ => pg_name (i := 6) sc_law_good.nd rfl (by first | exact Or.inl rfl | exact Or.inr rfl)) (fun _ _ _ _ _ => (pts_one (pt_cmpR op_ge (pe_op op_sub (pv 3) (pv 4)) (pe_ix ix_seq (pv 1) (pv 6) (fun _ _ => rfl)) (nomark _)))) (fun _ _ _ _ _ => (pv 6))) pa_nil)) pe_int (nomark _)))) pss_nil)
    (pss_one (ps_ret (pe_cmpR op_eq (pe_callB call_len_seq (by rfl) T.n_len (by decide +kernel) (pa_cons (pe_lc (own := [("_law_step", 6)]) (g := gName 6) (wi := (iList c.K (tOp (rIx c.K) (tOp (rIx c.K) (tVar 0) (tC (V.int 1))) (tVar 2)))) (tt := (tTest (tOp (rI0 fun i j => V.bl (decide (i < j))) (tOp (rI0 fun i j => V.int (i + j)) (tVar 3) (tVar 5)) (tOp (rIx c.K) (tVar 1) (tVar 6))))) (te := (tVar 6)) rfl sc_law_good.nd (pi_list (pe_ix ix_seq (pe_ix ix_seq (pv 0) pe_int (fun _ _ => rfl)) (pv 2) (fun _ _ => rfl))) (blkOk_by (N := Nn_law_good) (sc := defScope s_law_good) (by decide +kernel)) (fun _ _ _ _ _ => pg_name (i := 6) sc_law_good.nd rfl (by first | exact Or.inl rfl | exact Or.inr rfl)) (fun _ _ _ _ _ => (pts_one (pt_cmpR op_lt (pe_op op_add (pv 3) (pv 5)) (pe_ix ix_seq (pv 1) (pv 6) (fun _ _ => rfl)) (nomark _)))) (fun _ _ _ _ _ => (pv 6))) pa_nil)) pe_int (nomark _))))),
    (ss_seq (ss_if (st_or (st_test (se_op2 s2_gt se_var se_var)) (st_and (st_test (se_op2 s2_eq se_var se_var)) (st_test (se_op2 s2_eq (se_op2 s2_ix (se_op2 s2_ix se_var se_int) se_var) se_int)))) (ss_ret (se_op2 s2_gt (se_cb sn_len (sa_cons (se_new (sen_comp (si_list (se_op2 s2_ix (se_op2 s2_ix se_var se_int) se_var)) (st_test (se_op2 s2_ge (se_op2 s2_sub se_var se_var) (se_op2 s2_ix se_var se_var))) se_var)) sa_nil)) se_int)) ss_next)
    (ss_ret (se_op2 s2_eq (se_cb sn_len (sa_cons (se_new (sen_comp (si_list (se_op2 s2_ix (se_op2 s2_ix se_var se_int) se_var)) (st_test (se_op2 s2_lt (se_op2 s2_add se_var se_var) (se_op2 s2_ix se_var se_var))) se_var)) sa_nil)) se_int)))⟩
theorem ok_law_least (T : Txt c mg A) : FnR P w c.K mg base (L2.CX P w) 2 A.law_least (spD c (D_law_least)) :=
  fn_ss (N := Nn_law_least) (ps := ["_law_web_here", "_law_k", "_law_row", "_law_stand"]) (s := dn_law_least) T.F_law_least sc_law_least (T.F_law_least.binds (ps := ["_law_web_here", "_law_k", "_law_row", "_law_stand"]) fun _ _ _ _ _ _ us hl => match us, hl with | [_, _, _, _], _ => rfl) fun cdv A_ outer sh H E' hr => ⟨(tSeq (tIfS (tTest (tOp (rI0 fun i j => V.bl (decide (j < i))) (tCB (rLenS c.K) (tCons (tOp (rIx c.K) (tOp (rIx c.K) (tVar 0) (tC (V.int 0))) (tVar 3)) tNil)) (tC (V.int 0)))) (tFor (iRng1 (tCons (tOp (rI0 fun i j => V.int (i + j)) (tVar 1) (tC (V.int 1))) tNil)) (gName 4) (tFor (iRng1 (tCons (tOp (rI0 fun i j => V.int (i + j)) (tVar 4) (tC (V.int 1))) tNil)) (gName 5) (tSeq (tAsg (tLc (iRng1 (tCons (tOp (rI0 fun i j => V.int (i + j)) (tOp (rI0 fun i j => V.int (i - j)) (tVar 1) (tVar 4)) (tC (V.int 1))) tNil)) (gName 7) (tNot (fun σ H Q => (tCallS (spD c D_law_good) (fun _ => L2.E0) (tCons (tVar 0) (tCons (tVar 2) (tCons (tVar 3) (tCons (tVar 4) (tCons (tVar 5) (tCons (tVar 7) tNil))))))) σ H fun x H' => ∃ k, TruV c.K x H' k ∧ Q k H')) (tVar 7) [7]) (gName 6))
    (tIfS (tTest (tOp rEq (tCB (rLenS c.K) (tCons (tVar 6) tNil)) (tC (V.int 0)))) (tRet (tVar 4)) tNext)))) tNext)
    (tRet (tOp (rI0 fun i j => V.int (i + j)) (tVar 1) (tC (V.int 1))))),
    (pss_cons (ps_if (pt_cmpR op_gt (pe_callB call_len_seq (by rfl) T.n_len (by decide +kernel) (pa_cons (pe_ix ix_seq (pe_ix ix_seq (pv 0) pe_int (fun _ _ => rfl)) (pv 3) (fun _ _ => rfl)) pa_nil)) pe_int (nomark _)) (pss_one (ps_for (passes_of rfl) rfl (pi_range1 (by rfl) T.n_range (pa_cons (pe_op op_add (pv 1) pe_int) pa_nil)) (pg_name (i := 4) sc_law_least.nd rfl (by first | exact Or.inl rfl | exact Or.inr rfl)) (pss_one (ps_for (passes_of rfl) rfl (pi_range1 (by rfl) T.n_range (pa_cons (pe_op op_add (pv 4) pe_int) pa_nil)) (pg_name (i := 5) sc_law_least.nd rfl (by first | exact Or.inl rfl | exact Or.inr rfl)) (pss_cons (ps_setLc (i := 6) (own := [("_law_q", 7)]) (g := gName 7) (wi := (iRng1 (tCons (tOp (rI0 fun i j => V.int (i + j)) (tOp (rI0 fun i j => V.int (i - j)) (tVar 1) (tVar 4)) (tC (V.int 1))) tNil))) (tt := (tNot (fun σ H Q => (tCallS (spD c D_law_good) (fun _ => L2.E0) (tCons (tVar 0) (tCons (tVar 2) (tCons (tVar 3) (tCons (tVar 4) (tCons (tVar 5) (tCons (tVar 7) tNil))))))) σ H fun x H' => ∃ k, TruV c.K x H' k ∧ Q k H'))) (te := (tVar 7)) rfl sc_law_least.nd rfl rfl (sw_true rfl rfl rfl (by decide +kernel)) (pi_range1 (by rfl) T.n_range (pa_cons (pe_op op_add (pe_op op_sub (pv 1) (pv 4)) pe_int) pa_nil)) (blkOk_by (N := Nn_law_least) (sc := defScope s_law_least) (by decide +kernel)) (fun _ _ _ _ _ => pg_name (i := 7) sc_law_least.nd rfl (by first | exact Or.inl rfl | exact Or.inr rfl)) (fun _ _ _ _ _ => (pts_one (pt_not (pt_truth (pe_callRS (ok_law_good T) (hr.mono (by decide)) (by rfl) T.m_law_good T.F_law_good.kp passNo (pa_cons (pv 0) (pa_cons (pv 2) (pa_cons (pv 3) (pa_cons (pv 4) (pa_cons (pv 5) (pa_cons (pv 7) pa_nil))))))) (by intro _; rfl))))) (fun _ _ _ _ _ => (pv 7)))
    (pss_one (ps_if (pt_cmpR op_eq (pe_callB call_len_seq (by rfl) T.n_len (by decide +kernel) (pa_cons (pv 6) pa_nil)) pe_int (nomark _)) (pss_one (ps_ret (pv 4))) pss_nil))))))) pss_nil)
    (pss_one (ps_ret (pe_op op_add (pv 1) pe_int)))),
    (ss_seq (ss_if (st_test (se_op2 s2_gt (se_cb sn_len (sa_cons (se_op2 s2_ix (se_op2 s2_ix se_var se_int) se_var) sa_nil)) se_int)) (ss_for (si_rng1 (sa_cons (se_op2 s2_add se_var se_int) sa_nil)) sg_name (ss_for (si_rng1 (sa_cons (se_op2 s2_add se_var se_int) sa_nil)) sg_name (ss_seq (ss_asg (se_new (sen_comp (si_rng1 (sa_cons (se_op2 s2_add (se_op2 s2_sub se_var se_var) se_int) sa_nil)) (st_not (st_tru (se_call (sa_cons se_var (sa_cons se_var (sa_cons se_var (sa_cons se_var (sa_cons se_var (sa_cons se_var sa_nil))))))))) se_var)) sg_name)
    (ss_if (st_test (se_op2 s2_eq (se_cb sn_len (sa_cons se_var sa_nil)) se_int)) (ss_ret se_var) ss_next)))) ss_next)
    (ss_ret (se_op2 s2_add se_var se_int)))⟩
theorem ok_law_refused (T : Txt c mg A) : FnR P w c.K mg base (L2.CX P w) 6 A.law_refused (spD c (D_law_refused A.ca)) :=
  fn_ss (N := Nn_law_refused) (ps := ["_law_built_here", "_law_k", "_law_row", "_law_stand", "_law_way"]) (s := dn_law_refused A.ca) T.F_law_refused sc_law_refused (T.F_law_refused.binds (ps := ["_law_built_here", "_law_k", "_law_row", "_law_stand", "_law_way"]) fun _ _ _ _ _ _ us hl => match us, hl with | [_, _, _, _, _], _ => rfl) fun cdv A_ outer sh H E' hr => ⟨(tSeq (tAsg (tC (V.int 0)) (gName 5))
    (tSeq (fun D σ H => (fun W => (tIfS (tTest (tOp rEq (tVar 4) (tC (V.int 1)))) (tDrop (tCallS (spD c (D_low A.ca)) (fun σ cls d H => W cls d σ H) (tCons (tVar 0) (tCons (tVar 2) (tCons (tVar 3) tNil))))) (tIfS (tTest (tOp rEq (tVar 4) (tC (V.int 2)))) (tDrop (tCallS (spD c (D_high A.ca)) (fun σ cls d H => W cls d σ H) (tCons (tVar 0) (tCons (tVar 2) (tCons (tVar 3) tNil))))) (tDrop (tCallS (spD c (D_price A.ca)) (fun σ cls d H => W cls d σ H) (tCons (tVar 0) (tCons (tVar 1) (tCons (tVar 2) (tCons (tVar 3) tNil))))))))) (wMany c.K (fun cls d σ H => (fun _ => E') σ cls d H) D [(Value.ref (c.ec 0), fun _ _ _ => (tAsg (tC (V.int 1)) (gName 5))), (Value.ref (c.ec 1), fun _ _ _ => (tAsg (tC (V.int 2)) (gName 5))), (Value.ref (c.ec 2), fun _ _ _ => (tAsg (tC (V.int 3)) (gName 5))), (Value.ref (c.ec 3), fun _ _ _ => (tAsg (tC (V.int 4)) (gName 5)))]) D σ H)
    (tRet (tVar 5)))),
    (pss_cons (ps_asg pe_int (pg_name (i := 5) sc_law_refused.nd rfl (by first | exact Or.inl rfl | exact Or.inr rfl)))
    (pss_cons (ps_try_many (l := [(Value.ref (c.ec 0), fun _ _ _ => (tAsg (tC (V.int 1)) (gName 5))), (Value.ref (c.ec 1), fun _ _ _ => (tAsg (tC (V.int 2)) (gName 5))), (Value.ref (c.ec 2), fun _ _ _ => (tAsg (tC (V.int 3)) (gName 5))), (Value.ref (c.ec 3), fun _ _ _ => (tAsg (tC (V.int 4)) (gName 5)))]) (tb := fun W => (tIfS (tTest (tOp rEq (tVar 4) (tC (V.int 1)))) (tDrop (tCallS (spD c (D_low A.ca)) (fun σ cls d H => W cls d σ H) (tCons (tVar 0) (tCons (tVar 2) (tCons (tVar 3) tNil))))) (tIfS (tTest (tOp rEq (tVar 4) (tC (V.int 2)))) (tDrop (tCallS (spD c (D_high A.ca)) (fun σ cls d H => W cls d σ H) (tCons (tVar 0) (tCons (tVar 2) (tCons (tVar 3) tNil))))) (tDrop (tCallS (spD c (D_price A.ca)) (fun σ cls d H => W cls d σ H) (tCons (tVar 0) (tCons (tVar 1) (tCons (tVar 2) (tCons (tVar 3) tNil))))))))) rfl rfl (takes_of rfl rfl rfl rfl) (fun W pn xe tk _ => (pss_one (ps_if (pt_cmpR op_eq (pv 4) pe_int (nomark _)) (pss_one (ps_expr (pe_callRS (ok_low T) (hr.mono (by decide)) (by rfl) T.m_low T.F_low.kp (fun σ => passAt tk σ) (pa_cons (pv 0) (pa_cons (pv 2) (pa_cons (pv 3) pa_nil)))))) (pss_one (ps_if (pt_cmpR op_eq (pv 4) pe_int (nomark _)) (pss_one (ps_expr (pe_callRS (ok_high T) (hr.mono (by decide)) (by rfl) T.m_high T.F_high.kp (fun σ => passAt tk σ) (pa_cons (pv 0) (pa_cons (pv 2) (pa_cons (pv 3) pa_nil)))))) (pss_one (ps_expr (pe_callRS (ok_price T) (hr.mono (by decide)) (by rfl) T.m_price T.F_price.kp (fun σ => passAt tk σ) (pa_cons (pv 0) (pa_cons (pv 1) (pa_cons (pv 2) (pa_cons (pv 3) pa_nil)))))))))))) (HdsOk.cons (by exact ⟨rfl, by decide, .inl T.mE0⟩) (fun a oe cls d pn _ _ => (pss_one (ps_asg pe_int (pg_name (i := 5) sc_law_refused.nd rfl (by first | exact Or.inl rfl | exact Or.inr rfl))))) (HdsOk.cons (by exact ⟨rfl, by decide, .inl T.mE1⟩) (fun a oe cls d pn _ _ => (pss_one (ps_asg pe_int (pg_name (i := 5) sc_law_refused.nd rfl (by first | exact Or.inl rfl | exact Or.inr rfl))))) (HdsOk.cons (by exact ⟨rfl, by decide, .inl T.mE2⟩) (fun a oe cls d pn _ _ => (pss_one (ps_asg pe_int (pg_name (i := 5) sc_law_refused.nd rfl (by first | exact Or.inl rfl | exact Or.inr rfl))))) (HdsOk.cons (by exact ⟨rfl, by decide, .inl T.mE3⟩) (fun a oe cls d pn _ _ => (pss_one (ps_asg pe_int (pg_name (i := 5) sc_law_refused.nd rfl (by first | exact Or.inl rfl | exact Or.inr rfl))))) HdsOk.nil)))))
    (pss_one (ps_ret (pv 5))))),
    (ss_seq (ss_asg se_int sg_name)
    (ss_seq (ss_try rfl T.apart (fun W => (ss_if (st_test (se_op2 s2_eq se_var se_int)) (ss_drop (se_call (sa_cons se_var (sa_cons se_var (sa_cons se_var sa_nil))))) (ss_if (st_test (se_op2 s2_eq se_var se_int)) (ss_drop (se_call (sa_cons se_var (sa_cons se_var (sa_cons se_var sa_nil))))) (ss_drop (se_call (sa_cons se_var (sa_cons se_var (sa_cons se_var (sa_cons se_var sa_nil))))))))) (Suites.cons (by decide) (fun _ _ _ => (ss_asg se_int sg_name)) (Suites.cons (by decide) (fun _ _ _ => (ss_asg se_int sg_name)) (Suites.cons (by decide) (fun _ _ _ => (ss_asg se_int sg_name)) (Suites.cons (by decide) (fun _ _ _ => (ss_asg se_int sg_name)) Suites.nil)))))
    (ss_ret se_var)))⟩
theorem ok_law_refusals (T : Txt c mg A) : FnR P w c.K mg base (L2.CX P w) 7 A.law_refusals (spD c (D_law_refusals A.ca)) :=
  fn_ss (N := Nn_law_refusals) (ps := ["_law_built_here", "_law_k", "_law_row", "_law_stand", "_law_size"]) (s := dn_law_refusals A.ca) T.F_law_refusals sc_law_refusals (T.F_law_refusals.binds (ps := ["_law_built_here", "_law_k", "_law_row", "_law_stand", "_law_size"]) fun _ _ _ _ _ _ us hl => match us, hl with | [_, _, _, _, _], _ => rfl) fun cdv A_ outer sh H E' hr => ⟨(tSeq (tIfS (tOr (tTest (tOp rNe (tCallS (spD c (D_law_refused A.ca)) (fun _ => E') (tCons (tVar 0) (tCons (tVar 1) (tCons (tOp rCat (tVar 2) (tLst (tCons (tC (V.int 0)) tNil))) (tCons (tVar 3) (tCons (tC (V.int 0)) tNil)))))) (tC (V.int 2)))) (tTest (tOp rNe (tCallS (spD c (D_law_refused A.ca)) (fun _ => E') (tCons (tVar 0) (tCons (tVar 1) (tCons (tSl (rSlL c.K) (tVar 2) (tPart (tC (V.int 1))) tNoPart) (tCons (tC (V.int 0)) (tCons (tC (V.int 1)) tNil)))))) (tC (V.int 2))))) (tRet (tC (V.bl false))) tNext)
    (tSeq (tIfS (tOr (tTest (tOp rNe (tCallS (spD c (D_law_refused A.ca)) (fun _ => E') (tCons (tVar 0) (tCons (tVar 1) (tCons (tOp rCat (tVar 2) (tLst (tCons (tC (V.int 0)) tNil))) (tCons (tC (V.int 0)) (tCons (tC (V.int 2)) tNil)))))) (tC (V.int 2)))) (tTest (tOp rNe (tCallS (spD c (D_law_refused A.ca)) (fun _ => E') (tCons (tVar 0) (tCons (tVar 1) (tCons (tVar 2) (tCons (tVar 4) (tCons (tC (V.int 2)) tNil)))))) (tC (V.int 2))))) (tRet (tC (V.bl false))) tNext)
    (tSeq (tFor (iRng1 (tCons (tC (V.int 3)) tNil)) (gName 5) (tSeq (tIfS (tOr (tTest (tOp rNe (tCallS (spD c (D_law_refused A.ca)) (fun _ => E') (tCons (tVar 0) (tCons (tVar 1) (tCons (tVar 2) (tCons (tVar 4) (tCons (tVar 5) tNil)))))) (tC (V.int 2)))) (tTest (tOp rNe (tCallS (spD c (D_law_refused A.ca)) (fun _ => E') (tCons (tVar 0) (tCons (tVar 1) (tCons (tVar 2) (tCons (tOp (rI0 fun i j => V.int (i - j)) (tC (V.int 0)) (tC (V.int 1))) (tCons (tVar 5) tNil)))))) (tC (V.int 2))))) (tRet (tC (V.bl false))) tNext)
    (tIfS (tOr (tTest (tOp rNe (tCallS (spD c (D_law_refused A.ca)) (fun _ => E') (tCons (tVar 0) (tCons (tVar 1) (tCons (tOp rCat (tLst (tCons (tC V.non) tNil)) (tSl (rSlL c.K) (tVar 2) (tPart (tC (V.int 1))) tNoPart)) (tCons (tVar 4) (tCons (tVar 5) tNil)))))) (tC (V.int 1)))) (tTest (tOp rNe (tCallS (spD c (D_law_refused A.ca)) (fun _ => E') (tCons (tLst tNil) (tCons (tVar 1) (tCons (tVar 2) (tCons (tVar 3) (tCons (tVar 5) tNil)))))) (tC (V.int 1))))) (tRet (tC (V.bl false))) tNext)))
    (tSeq (tIfS (tOr (tTest (tOp rNe (tCallS (spD c (D_law_refused A.ca)) (fun _ => E') (tCons (tVar 0) (tCons (tOp (rI0 fun i j => V.int (i - j)) (tC (V.int 0)) (tC (V.int 1))) (tCons (tVar 2) (tCons (tVar 3) (tCons (tC (V.int 0)) tNil)))))) (tC (V.int 2)))) (tTest (tOp rNe (tCallS (spD c (D_law_refused A.ca)) (fun _ => E') (tCons (tVar 0) (tCons (tC (V.bl true)) (tCons (tVar 2) (tCons (tVar 4) (tCons (tC (V.int 0)) tNil)))))) (tC (V.int 1))))) (tRet (tC (V.bl false))) tNext)
    (tSeq (tIfS (tOr (tTest (tOp rNe (tCallS (spD c (D_law_refused A.ca)) (fun _ => E') (tCons (tVar 0) (tCons (tOp (rI0 fun i j => V.int (i + j)) (tOp (rI CPow fun i j => V.int (i ^ j.toNat)) (tC (V.int 10)) (tC (V.int 40))) (tC (V.int 1))) (tCons (tVar 2) (tCons (tVar 3) (tCons (tC (V.int 0)) tNil)))))) (tC (V.int 4)))) (tTest (tOp rNe (tCallS (spD c (D_law_refused A.ca)) (fun _ => E') (tCons (tVar 0) (tCons (tOp (rI CPow fun i j => V.int (i ^ j.toNat)) (tC (V.int 10)) (tC (V.int 40))) (tCons (tVar 2) (tCons (tVar 3) (tCons (tC (V.int 0)) tNil)))))) (tC (V.int 0))))) (tRet (tC (V.bl false))) tNext)
    (tRet (tOp rEq (tCallS (spD c (D_law_refused A.ca)) (fun _ => E') (tCons (tVar 0) (tCons (tVar 1) (tCons (tCB rStrF (tCons (tVar 1) tNil)) (tCons (tVar 3) (tCons (tC (V.int 0)) tNil)))))) (tC (V.int 1))))))))),
    (pss_cons (ps_if (PW.pt (pw_or (pt_cmpR op_ne (pe_callRS (ok_law_refused T) (hr.mono (by decide)) (by rfl) T.m_law_refused T.F_law_refused.kp (passE (takes_of rfl rfl rfl rfl)) (pa_cons (pv 0) (pa_cons (pv 1) (pa_cons (pe_op op_cat (pv 2) (pe_lst (pa_cons pe_int pa_nil))) (pa_cons (pv 3) (pa_cons pe_int pa_nil)))))) pe_int (nomark _)) (pw_or1 (pt_cmpR op_ne (pe_callRS (ok_law_refused T) (hr.mono (by decide)) (by rfl) T.m_law_refused T.F_law_refused.kp (passE (takes_of rfl rfl rfl rfl)) (pa_cons (pv 0) (pa_cons (pv 1) (pa_cons (pe_slice sl_list (pv 2) (po_some pe_int) po_none) (pa_cons pe_int (pa_cons pe_int pa_nil)))))) pe_int (nomark _))))) (pss_one (ps_ret pe_bl)) pss_nil)
    (pss_cons (ps_if (PW.pt (pw_or (pt_cmpR op_ne (pe_callRS (ok_law_refused T) (hr.mono (by decide)) (by rfl) T.m_law_refused T.F_law_refused.kp (passE (takes_of rfl rfl rfl rfl)) (pa_cons (pv 0) (pa_cons (pv 1) (pa_cons (pe_op op_cat (pv 2) (pe_lst (pa_cons pe_int pa_nil))) (pa_cons pe_int (pa_cons pe_int pa_nil)))))) pe_int (nomark _)) (pw_or1 (pt_cmpR op_ne (pe_callRS (ok_law_refused T) (hr.mono (by decide)) (by rfl) T.m_law_refused T.F_law_refused.kp (passE (takes_of rfl rfl rfl rfl)) (pa_cons (pv 0) (pa_cons (pv 1) (pa_cons (pv 2) (pa_cons (pv 4) (pa_cons pe_int pa_nil)))))) pe_int (nomark _))))) (pss_one (ps_ret pe_bl)) pss_nil)
    (pss_cons (ps_for (passes_of rfl) rfl (pi_range1 (by rfl) T.n_range (pa_cons pe_int pa_nil)) (pg_name (i := 5) sc_law_refusals.nd rfl (by first | exact Or.inl rfl | exact Or.inr rfl)) (pss_cons (ps_if (PW.pt (pw_or (pt_cmpR op_ne (pe_callRS (ok_law_refused T) (hr.mono (by decide)) (by rfl) T.m_law_refused T.F_law_refused.kp (passE (takes_of rfl rfl rfl rfl)) (pa_cons (pv 0) (pa_cons (pv 1) (pa_cons (pv 2) (pa_cons (pv 4) (pa_cons (pv 5) pa_nil)))))) pe_int (nomark _)) (pw_or1 (pt_cmpR op_ne (pe_callRS (ok_law_refused T) (hr.mono (by decide)) (by rfl) T.m_law_refused T.F_law_refused.kp (passE (takes_of rfl rfl rfl rfl)) (pa_cons (pv 0) (pa_cons (pv 1) (pa_cons (pv 2) (pa_cons (pe_op op_sub pe_int pe_int) (pa_cons (pv 5) pa_nil)))))) pe_int (nomark _))))) (pss_one (ps_ret pe_bl)) pss_nil)
    (pss_one (ps_if (PW.pt (pw_or (pt_cmpR op_ne (pe_callRS (ok_law_refused T) (hr.mono (by decide)) (by rfl) T.m_law_refused T.F_law_refused.kp (passE (takes_of rfl rfl rfl rfl)) (pa_cons (pv 0) (pa_cons (pv 1) (pa_cons (pe_op op_cat (pe_lst (pa_cons pe_non pa_nil)) (pe_slice sl_list (pv 2) (po_some pe_int) po_none)) (pa_cons (pv 4) (pa_cons (pv 5) pa_nil)))))) pe_int (nomark _)) (pw_or1 (pt_cmpR op_ne (pe_callRS (ok_law_refused T) (hr.mono (by decide)) (by rfl) T.m_law_refused T.F_law_refused.kp (passE (takes_of rfl rfl rfl rfl)) (pa_cons (pe_lst pa_nil) (pa_cons (pv 1) (pa_cons (pv 2) (pa_cons (pv 3) (pa_cons (pv 5) pa_nil)))))) pe_int (nomark _))))) (pss_one (ps_ret pe_bl)) pss_nil))))
    (pss_cons (ps_if (PW.pt (pw_or (pt_cmpR op_ne (pe_callRS (ok_law_refused T) (hr.mono (by decide)) (by rfl) T.m_law_refused T.F_law_refused.kp (passE (takes_of rfl rfl rfl rfl)) (pa_cons (pv 0) (pa_cons (pe_op op_sub pe_int pe_int) (pa_cons (pv 2) (pa_cons (pv 3) (pa_cons pe_int pa_nil)))))) pe_int (nomark _)) (pw_or1 (pt_cmpR op_ne (pe_callRS (ok_law_refused T) (hr.mono (by decide)) (by rfl) T.m_law_refused T.F_law_refused.kp (passE (takes_of rfl rfl rfl rfl)) (pa_cons (pv 0) (pa_cons pe_bl (pa_cons (pv 2) (pa_cons (pv 4) (pa_cons pe_int pa_nil)))))) pe_int (nomark _))))) (pss_one (ps_ret pe_bl)) pss_nil)
    (pss_cons (ps_if (PW.pt (pw_or (pt_cmpR op_ne (pe_callRS (ok_law_refused T) (hr.mono (by decide)) (by rfl) T.m_law_refused T.F_law_refused.kp (passE (takes_of rfl rfl rfl rfl)) (pa_cons (pv 0) (pa_cons (pe_op op_add (pe_op op_pow pe_int pe_int) pe_int) (pa_cons (pv 2) (pa_cons (pv 3) (pa_cons pe_int pa_nil)))))) pe_int (nomark _)) (pw_or1 (pt_cmpR op_ne (pe_callRS (ok_law_refused T) (hr.mono (by decide)) (by rfl) T.m_law_refused T.F_law_refused.kp (passE (takes_of rfl rfl rfl rfl)) (pa_cons (pv 0) (pa_cons (pe_op op_pow pe_int pe_int) (pa_cons (pv 2) (pa_cons (pv 3) (pa_cons pe_int pa_nil)))))) pe_int (nomark _))))) (pss_one (ps_ret pe_bl)) pss_nil)
    (pss_one (ps_ret (pe_cmpR op_eq (pe_callRS (ok_law_refused T) (hr.mono (by decide)) (by rfl) T.m_law_refused T.F_law_refused.kp (passE (takes_of rfl rfl rfl rfl)) (pa_cons (pv 0) (pa_cons (pv 1) (pa_cons (pe_callTy call_str_int (by rfl) T.n_str (by decide +kernel) (pa_cons (pv 1) pa_nil)) (pa_cons (pv 3) (pa_cons pe_int pa_nil)))))) pe_int (nomark _))))))))),
    (ss_seq (ss_if (st_or (st_test (se_op2 s2_ne (se_call (sa_cons se_var (sa_cons se_var (sa_cons (se_op2 s2_cat se_var (se_new (sen_lst (sa_cons se_int sa_nil)))) (sa_cons se_var (sa_cons se_int sa_nil)))))) se_int)) (st_test (se_op2 s2_ne (se_call (sa_cons se_var (sa_cons se_var (sa_cons (se_new (sen_cut se_var (so_some se_int) so_none)) (sa_cons se_int (sa_cons se_int sa_nil)))))) se_int))) (ss_ret se_bl) ss_next)
    (ss_seq (ss_if (st_or (st_test (se_op2 s2_ne (se_call (sa_cons se_var (sa_cons se_var (sa_cons (se_op2 s2_cat se_var (se_new (sen_lst (sa_cons se_int sa_nil)))) (sa_cons se_int (sa_cons se_int sa_nil)))))) se_int)) (st_test (se_op2 s2_ne (se_call (sa_cons se_var (sa_cons se_var (sa_cons se_var (sa_cons se_var (sa_cons se_int sa_nil)))))) se_int))) (ss_ret se_bl) ss_next)
    (ss_seq (ss_for (si_rng1 (sa_cons se_int sa_nil)) sg_name (ss_seq (ss_if (st_or (st_test (se_op2 s2_ne (se_call (sa_cons se_var (sa_cons se_var (sa_cons se_var (sa_cons se_var (sa_cons se_var sa_nil)))))) se_int)) (st_test (se_op2 s2_ne (se_call (sa_cons se_var (sa_cons se_var (sa_cons se_var (sa_cons (se_op2 s2_sub se_int se_int) (sa_cons se_var sa_nil)))))) se_int))) (ss_ret se_bl) ss_next)
    (ss_if (st_or (st_test (se_op2 s2_ne (se_call (sa_cons se_var (sa_cons se_var (sa_cons (se_op2 s2_cat (se_new (sen_lst (sa_cons se_non sa_nil))) (se_new (sen_cut se_var (so_some se_int) so_none))) (sa_cons se_var (sa_cons se_var sa_nil)))))) se_int)) (st_test (se_op2 s2_ne (se_call (sa_cons (se_new (sen_lst sa_nil)) (sa_cons se_var (sa_cons se_var (sa_cons se_var (sa_cons se_var sa_nil)))))) se_int))) (ss_ret se_bl) ss_next)))
    (ss_seq (ss_if (st_or (st_test (se_op2 s2_ne (se_call (sa_cons se_var (sa_cons (se_op2 s2_sub se_int se_int) (sa_cons se_var (sa_cons se_var (sa_cons se_int sa_nil)))))) se_int)) (st_test (se_op2 s2_ne (se_call (sa_cons se_var (sa_cons se_bl (sa_cons se_var (sa_cons se_var (sa_cons se_int sa_nil)))))) se_int))) (ss_ret se_bl) ss_next)
    (ss_seq (ss_if (st_or (st_test (se_op2 s2_ne (se_call (sa_cons se_var (sa_cons (se_op2 s2_add (se_op2 s2_pow se_int se_int) se_int) (sa_cons se_var (sa_cons se_var (sa_cons se_int sa_nil)))))) se_int)) (st_test (se_op2 s2_ne (se_call (sa_cons se_var (sa_cons (se_op2 s2_pow se_int se_int) (sa_cons se_var (sa_cons se_var (sa_cons se_int sa_nil)))))) se_int))) (ss_ret se_bl) ss_next)
    (ss_ret (se_op2 s2_eq (se_call (sa_cons se_var (sa_cons se_var (sa_cons (se_cb sn_str (sa_cons se_var sa_nil)) (sa_cons se_var (sa_cons se_int sa_nil)))))) se_int)))))))⟩
theorem rest_law (T : Txt c mg A) (f : Addr) (cdv : Value) (A_ : Around) (outer : List Env) (sh : Shared) (H : Hp) (E' : XK) (hr : Room 8 (A_.deeper (PyProof.Rows.envOfC "law" (defScope s_law) sh.heap.objs.size f cdv))) :
    ∃ t, PSs (cxOf (L2.CX P w) P w c.K mg base Nn_law "law" (defScope s_law) f cdv A_ outer sh H E') ((defBody s_law).drop 1) t ∧ SS c (fun _ => E') t (dn_law A.ca) :=
  ⟨(tSeq (tAsg (tCallS (spD c D_law_web) (fun _ => E') (tCons (tVar 1) (tCons (tC (V.int 6)) (tCons (tC (V.bl false)) tNil)))) (gName 2))
    (tSeq (tAsg (tCB (rLenS c.K) (tCons (tOp (rIx c.K) (tVar 2) (tC (V.int 0))) tNil)) (gName 3))
    (tSeq (tAsg (tCallS (spD c D_law_draw) (fun _ => E') (tCons (tVar 1) (tCons (tC (V.int 7)) tNil))) (gName 4))
    (tSeq (tAsg (tLc (iRng1 (tCons (tVar 3) tNil)) (gName 6) tYes (tCallS (spD c D_law_draw) (fun _ => L2.E0) (tCons (tVar 1) (tCons (tOp (rI0 fun i j => V.int (i + j)) (tVar 4) (tC (V.int 2))) tNil))) [6]) (gName 5))
    (tSeq (tAsg (tOp (rI0 fun i j => V.int (i - j)) (tOp (rI CMul fun i j => V.int (i * j)) (tCallS (spD c D_law_draw) (fun _ => E') (tCons (tVar 1) (tCons (tC (V.int 30)) tNil))) (tOp (rI CPow fun i j => V.int (i ^ j.toNat)) (tC (V.int 10)) (tC (V.int 20)))) (tC (V.int 7))) (gName 7))
    (tSeq (tAsg (tLc (iList c.K (tVar 5)) (gName 9) tYes (tOp (rI0 fun i j => V.int (i + j)) (tVar 9) (tVar 7)) [9]) (gName 8))
    (tSeq (tAsg (tCallS (spD c (D_law_built A.ca)) (fun _ => E') (tCons (tVar 2) tNil)) (gName 10))
    (tSeq (tAsg (tCB (rListF c.K) (tCons (tVar 5) tNil)) (gName 11))
    (tSeq (tFor (iRng1 (tCons (tVar 3) tNil)) (gName 6) (tSeq (tAsg (tCallS (spD c (D_price A.ca)) (fun _ => E') (tCons (tVar 10) (tCons (tVar 4) (tCons (tVar 11) (tCons (tVar 6) tNil))))) (gName 12))
    (tSeq (tIfS (tOr (tNot (fun σ H Q => (tCallS (spD c D_is_integer) (fun _ => E') (tCons (tVar 12) tNil)) σ H fun x H' => ∃ k, TruV c.K x H' k ∧ Q k H')) (tTest (tOp rNe (tVar 12) (tCallS (spD c D_law_least) (fun _ => E') (tCons (tVar 2) (tCons (tVar 4) (tCons (tVar 5) (tCons (tVar 6) tNil)))))))) (tRet (tC (V.bl false))) tNext)
    (tSeq (tIfS (tOr (tTest (tOp rNe (tCallS (spD c (D_price A.ca)) (fun _ => E') (tCons (tVar 10) (tCons (tVar 4) (tCons (tCB (rTupleF c.K) (tCons (tVar 5) tNil)) (tCons (tVar 6) tNil))))) (tVar 12))) (tTest (tOp (rNeD c.K) (tVar 11) (tVar 5)))) (tRet (tC (V.bl false))) tNext)
    (tIfS (tTest (tOp rEq (tCB (rLenS c.K) (tCons (tOp (rIx c.K) (tOp (rIx c.K) (tVar 2) (tC (V.int 0))) (tVar 6)) tNil)) (tC (V.int 0)))) (tSeq (tIfS (tOr (tTest (tOp rNe (tCallS (spD c (D_price A.ca)) (fun _ => E') (tCons (tVar 10) (tCons (tVar 4) (tCons (tVar 8) (tCons (tVar 6) tNil))))) (tOp (rI0 fun i j => V.int (i + j)) (tVar 4) (tC (V.int 1))))) (tTest (tOp rNe (tCallS (spD c (D_law_refused A.ca)) (fun _ => E') (tCons (tVar 10) (tCons (tVar 4) (tCons (tVar 5) (tCons (tVar 6) (tCons (tC (V.int 1)) tNil)))))) (tC (V.int 3))))) (tRet (tC (V.bl false))) tNext)
    (tIfS (tTest (tOp rNe (tCallS (spD c (D_law_refused A.ca)) (fun _ => E') (tCons (tVar 10) (tCons (tVar 4) (tCons (tVar 5) (tCons (tVar 6) (tCons (tC (V.int 2)) tNil)))))) (tC (V.int 3)))) (tRet (tC (V.bl false))) tNext)) (tSeq (tIfS (tTest (tOp rNe (tCallS (spD c (D_price A.ca)) (fun _ => E') (tCons (tVar 10) (tCons (tVar 4) (tCons (tVar 8) (tCons (tVar 6) tNil))))) (tOp (rI0 fun i j => V.int (i + j)) (tVar 12) (tVar 7)))) (tRet (tC (V.bl false))) tNext)
    (tSeq (tAsg (tCB (rMin c.K) (tCons (tLc (iList c.K (tOp (rIx c.K) (tOp (rIx c.K) (tVar 2) (tC (V.int 0))) (tVar 6))) (gName 14) tYes (tOp (rIx c.K) (tVar 5) (tVar 14)) [14]) tNil)) (gName 13))
    (tSeq (tAsg (tCB (rMax c.K) (tCons (tLc (iList c.K (tOp (rIx c.K) (tOp (rIx c.K) (tVar 2) (tC (V.int 1))) (tVar 6))) (gName 14) tYes (tOp (rIx c.K) (tVar 5) (tVar 14)) [14]) tNil)) (gName 15))
    (tSeq (tIfS (tOr (tTest (tOp rNe (tCallS (spD c (D_low A.ca)) (fun _ => E') (tCons (tVar 10) (tCons (tVar 5) (tCons (tVar 6) tNil)))) (tVar 13))) (tTest (tOp rNe (tCallS (spD c (D_high A.ca)) (fun _ => E') (tCons (tVar 10) (tCons (tVar 8) (tCons (tVar 6) tNil)))) (tOp (rI0 fun i j => V.int (i + j)) (tVar 15) (tVar 7))))) (tRet (tC (V.bl false))) tNext)
    (tIfS (tOr (tNot (fun σ H Q => (tCallS (spD c D_is_integer) (fun _ => E') (tCons (tCallS (spD c (D_low A.ca)) (fun _ => E') (tCons (tVar 10) (tCons (tVar 5) (tCons (tVar 6) tNil)))) tNil)) σ H fun x H' => ∃ k, TruV c.K x H' k ∧ Q k H')) (tNot (fun σ H Q => (tCallS (spD c D_is_integer) (fun _ => E') (tCons (tCallS (spD c (D_high A.ca)) (fun _ => E') (tCons (tVar 10) (tCons (tVar 8) (tCons (tVar 6) tNil)))) tNil)) σ H fun x H' => ∃ k, TruV c.K x H' k ∧ Q k H'))) (tRet (tC (V.bl false))) tNext))))))))))
    (tRet (tCallS (spD c (D_law_refusals A.ca)) (fun _ => E') (tCons (tVar 10) (tCons (tVar 4) (tCons (tVar 5) (tCons (tCallS (spD c D_law_draw) (fun _ => E') (tCons (tVar 1) (tCons (tVar 3) tNil))) (tCons (tVar 3) tNil)))))))))))))))),
    (pss_cons (ps_asg (pe_callRS (ok_law_web T) (hr.mono (by decide)) (by rfl) T.m_law_web T.F_law_web.kp (passE (takes_of rfl rfl rfl rfl)) (pa_cons (pv 1) (pa_cons pe_int (pa_cons pe_bl pa_nil)))) (pg_name (i := 2) sc_law.nd rfl (by first | exact Or.inl rfl | exact Or.inr rfl)))
    (pss_cons (ps_asg (pe_callB call_len_seq (by rfl) T.n_len (by decide +kernel) (pa_cons (pe_ix ix_seq (pv 2) pe_int (fun _ _ => rfl)) pa_nil)) (pg_name (i := 3) sc_law.nd rfl (by first | exact Or.inl rfl | exact Or.inr rfl)))
    (pss_cons (ps_asg (pe_callRS (ok_law_draw T) (hr.mono (by decide)) (by rfl) T.m_law_draw T.F_law_draw.kp (passE (takes_of rfl rfl rfl rfl)) (pa_cons (pv 1) (pa_cons pe_int pa_nil))) (pg_name (i := 4) sc_law.nd rfl (by first | exact Or.inl rfl | exact Or.inr rfl)))
    (pss_cons (ps_asg (pe_lc (own := [("_law_stand", 6)]) (g := gName 6) (wi := (iRng1 (tCons (tVar 3) tNil))) (tt := tYes) (te := (tCallS (spD c D_law_draw) (fun _ => L2.E0) (tCons (tVar 1) (tCons (tOp (rI0 fun i j => V.int (i + j)) (tVar 4) (tC (V.int 2))) tNil)))) rfl sc_law.nd (pi_range1 (by rfl) T.n_range (pa_cons (pv 3) pa_nil)) (blkOk_by (N := Nn_law) (sc := defScope s_law) (by decide +kernel)) (fun _ _ _ _ _ => pg_name (i := 6) sc_law.nd rfl (by first | exact Or.inl rfl | exact Or.inr rfl)) (fun _ _ _ _ _ => pts_nil) (fun _ _ _ _ _ => (pe_callRS (ok_law_draw T) (hr.mono (by decide)) (by rfl) T.m_law_draw T.F_law_draw.kp passNo (pa_cons (pv 1) (pa_cons (pe_op op_add (pv 4) pe_int) pa_nil))))) (pg_name (i := 5) sc_law.nd rfl (by first | exact Or.inl rfl | exact Or.inr rfl)))
    (pss_cons (ps_asg (pe_op op_sub (pe_op op_mul (pe_callRS (ok_law_draw T) (hr.mono (by decide)) (by rfl) T.m_law_draw T.F_law_draw.kp (passE (takes_of rfl rfl rfl rfl)) (pa_cons (pv 1) (pa_cons pe_int pa_nil))) (pe_op op_pow pe_int pe_int)) pe_int) (pg_name (i := 7) sc_law.nd rfl (by first | exact Or.inl rfl | exact Or.inr rfl)))
    (pss_cons (ps_setLc (i := 8) (own := [("_law_part", 9)]) (g := gName 9) (wi := (iList c.K (tVar 5))) (tt := tYes) (te := (tOp (rI0 fun i j => V.int (i + j)) (tVar 9) (tVar 7))) rfl sc_law.nd rfl rfl (sw_true rfl rfl rfl (by decide +kernel)) (pi_list (pv 5)) (blkOk_by (N := Nn_law) (sc := defScope s_law) (by decide +kernel)) (fun _ _ _ _ _ => pg_name (i := 9) sc_law.nd rfl (by first | exact Or.inl rfl | exact Or.inr rfl)) (fun _ _ _ _ _ => pts_nil) (fun _ _ _ _ _ => (pe_op op_add (pv 9) (pv 7))))
    (pss_cons (ps_asg (pe_callRS (ok_law_built T) (hr.mono (by decide)) (by rfl) T.m_law_built T.F_law_built.kp (passE (takes_of rfl rfl rfl rfl)) (pa_cons (pv 2) pa_nil)) (pg_name (i := 10) sc_law.nd rfl (by first | exact Or.inl rfl | exact Or.inr rfl)))
    (pss_cons (ps_asg (pe_callTy call_list_of (by rfl) T.n_list (by decide +kernel) (pa_cons (pv 5) pa_nil)) (pg_name (i := 11) sc_law.nd rfl (by first | exact Or.inl rfl | exact Or.inr rfl)))
    (pss_cons (ps_for (passes_of rfl) rfl (pi_range1 (by rfl) T.n_range (pa_cons (pv 3) pa_nil)) (pg_name (i := 6) sc_law.nd rfl (by first | exact Or.inl rfl | exact Or.inr rfl)) (pss_cons (ps_asg (pe_callRS (ok_price T) (hr.mono (by decide)) (by rfl) T.m_price T.F_price.kp (passE (takes_of rfl rfl rfl rfl)) (pa_cons (pv 10) (pa_cons (pv 4) (pa_cons (pv 11) (pa_cons (pv 6) pa_nil))))) (pg_name (i := 12) sc_law.nd rfl (by first | exact Or.inl rfl | exact Or.inr rfl)))
    (pss_cons (ps_if (PW.pt (pw_or (pt_not (pt_truth (pe_callRS (ok_law_whole T) (hr.mono (by decide)) (by rfl) T.m_law_whole T.F_law_whole.kp (passE (takes_of rfl rfl rfl rfl)) (pa_cons (pv 12) pa_nil)) (by intro _; rfl))) (pw_or1 (pt_cmpR op_ne (pv 12) (pe_callRS (ok_law_least T) (hr.mono (by decide)) (by rfl) T.m_law_least T.F_law_least.kp (passE (takes_of rfl rfl rfl rfl)) (pa_cons (pv 2) (pa_cons (pv 4) (pa_cons (pv 5) (pa_cons (pv 6) pa_nil))))) (nomark _))))) (pss_one (ps_ret pe_bl)) pss_nil)
    (pss_cons (ps_if (PW.pt (pw_or (pt_cmpR op_ne (pe_callRS (ok_price T) (hr.mono (by decide)) (by rfl) T.m_price T.F_price.kp (passE (takes_of rfl rfl rfl rfl)) (pa_cons (pv 10) (pa_cons (pv 4) (pa_cons (pe_callTy call_tuple_of (by rfl) T.n_tuple (by decide +kernel) (pa_cons (pv 5) pa_nil)) (pa_cons (pv 6) pa_nil))))) (pv 12) (nomark _)) (pw_or1 (pt_cmpR (op_neD (hr.units)) (pv 11) (pv 5) (nomark _))))) (pss_one (ps_ret pe_bl)) pss_nil)
    (pss_one (ps_if (pt_cmpR op_eq (pe_callB call_len_seq (by rfl) T.n_len (by decide +kernel) (pa_cons (pe_ix ix_seq (pe_ix ix_seq (pv 2) pe_int (fun _ _ => rfl)) (pv 6) (fun _ _ => rfl)) pa_nil)) pe_int (nomark _)) (pss_cons (ps_if (PW.pt (pw_or (pt_cmpR op_ne (pe_callRS (ok_price T) (hr.mono (by decide)) (by rfl) T.m_price T.F_price.kp (passE (takes_of rfl rfl rfl rfl)) (pa_cons (pv 10) (pa_cons (pv 4) (pa_cons (pv 8) (pa_cons (pv 6) pa_nil))))) (pe_op op_add (pv 4) pe_int) (nomark _)) (pw_or1 (pt_cmpR op_ne (pe_callRS (ok_law_refused T) (hr.mono (by decide)) (by rfl) T.m_law_refused T.F_law_refused.kp (passE (takes_of rfl rfl rfl rfl)) (pa_cons (pv 10) (pa_cons (pv 4) (pa_cons (pv 5) (pa_cons (pv 6) (pa_cons pe_int pa_nil)))))) pe_int (nomark _))))) (pss_one (ps_ret pe_bl)) pss_nil)
    (pss_one (ps_if (pt_cmpR op_ne (pe_callRS (ok_law_refused T) (hr.mono (by decide)) (by rfl) T.m_law_refused T.F_law_refused.kp (passE (takes_of rfl rfl rfl rfl)) (pa_cons (pv 10) (pa_cons (pv 4) (pa_cons (pv 5) (pa_cons (pv 6) (pa_cons pe_int pa_nil)))))) pe_int (nomark _)) (pss_one (ps_ret pe_bl)) pss_nil))) (pss_cons (ps_if (pt_cmpR op_ne (pe_callRS (ok_price T) (hr.mono (by decide)) (by rfl) T.m_price T.F_price.kp (passE (takes_of rfl rfl rfl rfl)) (pa_cons (pv 10) (pa_cons (pv 4) (pa_cons (pv 8) (pa_cons (pv 6) pa_nil))))) (pe_op op_add (pv 12) (pv 7)) (nomark _)) (pss_one (ps_ret pe_bl)) pss_nil)
    (pss_cons (ps_asg (pe_callB (cr_min rfl) (by rfl) T.n_min (by decide +kernel) (pa_cons (pe_lc (own := [("_law_step", 14)]) (g := gName 14) (wi := (iList c.K (tOp (rIx c.K) (tOp (rIx c.K) (tVar 2) (tC (V.int 0))) (tVar 6)))) (tt := tYes) (te := (tOp (rIx c.K) (tVar 5) (tVar 14))) rfl sc_law.nd (pi_list (pe_ix ix_seq (pe_ix ix_seq (pv 2) pe_int (fun _ _ => rfl)) (pv 6) (fun _ _ => rfl))) (blkOk_by (N := Nn_law) (sc := defScope s_law) (by decide +kernel)) (fun _ _ _ _ _ => pg_name (i := 14) sc_law.nd rfl (by first | exact Or.inl rfl | exact Or.inr rfl)) (fun _ _ _ _ _ => pts_nil) (fun _ _ _ _ _ => (pe_ix ix_seq (pv 5) (pv 14) (fun _ _ => rfl)))) pa_nil)) (pg_name (i := 13) sc_law.nd rfl (by first | exact Or.inl rfl | exact Or.inr rfl)))
    (pss_cons (ps_asg (pe_callB (cr_max rfl) (by rfl) T.n_max (by decide +kernel) (pa_cons (pe_lc (own := [("_law_step", 14)]) (g := gName 14) (wi := (iList c.K (tOp (rIx c.K) (tOp (rIx c.K) (tVar 2) (tC (V.int 1))) (tVar 6)))) (tt := tYes) (te := (tOp (rIx c.K) (tVar 5) (tVar 14))) rfl sc_law.nd (pi_list (pe_ix ix_seq (pe_ix ix_seq (pv 2) pe_int (fun _ _ => rfl)) (pv 6) (fun _ _ => rfl))) (blkOk_by (N := Nn_law) (sc := defScope s_law) (by decide +kernel)) (fun _ _ _ _ _ => pg_name (i := 14) sc_law.nd rfl (by first | exact Or.inl rfl | exact Or.inr rfl)) (fun _ _ _ _ _ => pts_nil) (fun _ _ _ _ _ => (pe_ix ix_seq (pv 5) (pv 14) (fun _ _ => rfl)))) pa_nil)) (pg_name (i := 15) sc_law.nd rfl (by first | exact Or.inl rfl | exact Or.inr rfl)))
    (pss_cons (ps_if (PW.pt (pw_or (pt_cmpR op_ne (pe_callRS (ok_low T) (hr.mono (by decide)) (by rfl) T.m_low T.F_low.kp (passE (takes_of rfl rfl rfl rfl)) (pa_cons (pv 10) (pa_cons (pv 5) (pa_cons (pv 6) pa_nil)))) (pv 13) (nomark _)) (pw_or1 (pt_cmpR op_ne (pe_callRS (ok_high T) (hr.mono (by decide)) (by rfl) T.m_high T.F_high.kp (passE (takes_of rfl rfl rfl rfl)) (pa_cons (pv 10) (pa_cons (pv 8) (pa_cons (pv 6) pa_nil)))) (pe_op op_add (pv 15) (pv 7)) (nomark _))))) (pss_one (ps_ret pe_bl)) pss_nil)
    (pss_one (ps_if (PW.pt (pw_or (pt_not (pt_truth (pe_callRS (ok_law_whole T) (hr.mono (by decide)) (by rfl) T.m_law_whole T.F_law_whole.kp (passE (takes_of rfl rfl rfl rfl)) (pa_cons (pe_callRS (ok_low T) (hr.mono (by decide)) (by rfl) T.m_low T.F_low.kp (passE (takes_of rfl rfl rfl rfl)) (pa_cons (pv 10) (pa_cons (pv 5) (pa_cons (pv 6) pa_nil)))) pa_nil)) (by intro _; rfl))) (pw_or1 (pt_not (pt_truth (pe_callRS (ok_law_whole T) (hr.mono (by decide)) (by rfl) T.m_law_whole T.F_law_whole.kp (passE (takes_of rfl rfl rfl rfl)) (pa_cons (pe_callRS (ok_high T) (hr.mono (by decide)) (by rfl) T.m_high T.F_high.kp (passE (takes_of rfl rfl rfl rfl)) (pa_cons (pv 10) (pa_cons (pv 8) (pa_cons (pv 6) pa_nil)))) pa_nil)) (by intro _; rfl)))))) (pss_one (ps_ret pe_bl)) pss_nil))))))))))))
    (pss_one (ps_ret (pe_callRS (ok_law_refusals T) (hr.mono (by decide)) (by rfl) T.m_law_refusals T.F_law_refusals.kp (passE (takes_of rfl rfl rfl rfl)) (pa_cons (pv 10) (pa_cons (pv 4) (pa_cons (pv 5) (pa_cons (pe_callRS (ok_law_draw T) (hr.mono (by decide)) (by rfl) T.m_law_draw T.F_law_draw.kp (passE (takes_of rfl rfl rfl rfl)) (pa_cons (pv 1) (pa_cons (pv 3) pa_nil))) (pa_cons (pv 3) pa_nil))))))))))))))))),
    (ss_seq (ss_asg (se_call (sa_cons se_var (sa_cons se_int (sa_cons se_bl sa_nil)))) sg_name)
    (ss_seq (ss_asg (se_cb sn_len (sa_cons (se_op2 s2_ix se_var se_int) sa_nil)) sg_name)
    (ss_seq (ss_asg (se_call (sa_cons se_var (sa_cons se_int sa_nil))) sg_name)
    (ss_seq (ss_asg (se_new (sen_comp (si_rng1 (sa_cons se_var sa_nil)) st_true (se_call (sa_cons se_var (sa_cons (se_op2 s2_add se_var se_int) sa_nil))))) sg_name)
    (ss_seq (ss_asg (se_op2 s2_sub (se_op2 s2_mul (se_call (sa_cons se_var (sa_cons se_int sa_nil))) (se_op2 s2_pow se_int se_int)) se_int) sg_name)
    (ss_seq (ss_asg (se_new (sen_comp (si_list se_var) st_true (se_op2 s2_add se_var se_var))) sg_name)
    (ss_seq (ss_asg (se_call (sa_cons se_var sa_nil)) sg_name)
    (ss_seq (ss_asg (se_new (sen_list (sa_cons se_var sa_nil))) sg_name)
    (ss_seq (ss_for (si_rng1 (sa_cons se_var sa_nil)) sg_name (ss_seq (ss_asg (se_call (sa_cons se_var (sa_cons se_var (sa_cons se_var (sa_cons se_var sa_nil))))) sg_name)
    (ss_seq (ss_if (st_or (st_not (st_tru (se_call (sa_cons se_var sa_nil)))) (st_test (se_op2 s2_ne se_var (se_call (sa_cons se_var (sa_cons se_var (sa_cons se_var (sa_cons se_var sa_nil)))))))) (ss_ret se_bl) ss_next)
    (ss_seq (ss_if (st_or (st_test (se_op2 s2_ne (se_call (sa_cons se_var (sa_cons se_var (sa_cons (se_cb sn_tuple (sa_cons se_var sa_nil)) (sa_cons se_var sa_nil))))) se_var)) (st_test (se_op2 s2_neD se_var se_var))) (ss_ret se_bl) ss_next)
    (ss_if (st_test (se_op2 s2_eq (se_cb sn_len (sa_cons (se_op2 s2_ix (se_op2 s2_ix se_var se_int) se_var) sa_nil)) se_int)) (ss_seq (ss_if (st_or (st_test (se_op2 s2_ne (se_call (sa_cons se_var (sa_cons se_var (sa_cons se_var (sa_cons se_var sa_nil))))) (se_op2 s2_add se_var se_int))) (st_test (se_op2 s2_ne (se_call (sa_cons se_var (sa_cons se_var (sa_cons se_var (sa_cons se_var (sa_cons se_int sa_nil)))))) se_int))) (ss_ret se_bl) ss_next)
    (ss_if (st_test (se_op2 s2_ne (se_call (sa_cons se_var (sa_cons se_var (sa_cons se_var (sa_cons se_var (sa_cons se_int sa_nil)))))) se_int)) (ss_ret se_bl) ss_next)) (ss_seq (ss_if (st_test (se_op2 s2_ne (se_call (sa_cons se_var (sa_cons se_var (sa_cons se_var (sa_cons se_var sa_nil))))) (se_op2 s2_add se_var se_var))) (ss_ret se_bl) ss_next)
    (ss_seq (ss_asg (se_cb sn_minL (sa_cons (se_new (sen_comp (si_list (se_op2 s2_ix (se_op2 s2_ix se_var se_int) se_var)) st_true (se_op2 s2_ix se_var se_var))) sa_nil)) sg_name)
    (ss_seq (ss_asg (se_cb sn_maxL (sa_cons (se_new (sen_comp (si_list (se_op2 s2_ix (se_op2 s2_ix se_var se_int) se_var)) st_true (se_op2 s2_ix se_var se_var))) sa_nil)) sg_name)
    (ss_seq (ss_if (st_or (st_test (se_op2 s2_ne (se_call (sa_cons se_var (sa_cons se_var (sa_cons se_var sa_nil)))) se_var)) (st_test (se_op2 s2_ne (se_call (sa_cons se_var (sa_cons se_var (sa_cons se_var sa_nil)))) (se_op2 s2_add se_var se_var)))) (ss_ret se_bl) ss_next)
    (ss_if (st_or (st_not (st_tru (se_call (sa_cons (se_call (sa_cons se_var (sa_cons se_var (sa_cons se_var sa_nil)))) sa_nil)))) (st_not (st_tru (se_call (sa_cons (se_call (sa_cons se_var (sa_cons se_var (sa_cons se_var sa_nil)))) sa_nil))))) (ss_ret se_bl) ss_next))))))))))
    (ss_ret (se_call (sa_cons se_var (sa_cons se_var (sa_cons se_var (sa_cons (se_call (sa_cons se_var (sa_cons se_var sa_nil))) (sa_cons se_var sa_nil))))))))))))))))⟩
end
end K05

/-! The pot's maker, the same text in all the laws. -/
namespace PL
open PySem L2 Den
noncomputable section
variable {c : Cfg} {P : Program} {w : World} {mg : Str → Option Value} {base : Heap}
abbrev qA (c : Cfg) : TS := (tIfS (tTest (tOp (rI0 fun i j => V.bl (decide (j < i))) (tVar 3) (tC (V.int 0)))) (tSeq (tDrop (tBM c.K "list" rAppend (tVar 1) (tCons (tOp (rI (fun _ j => 0 < j) fun i j => V.int (i % j)) (tCB rIntF (tCons (tVar 3) tNil)) (tC (V.int 30))) tNil)))
    (tAsg (tOp (rI CDiv fun i j => V.int (i / j)) (tVar 3) (tC (V.int 30))) (gName 3))) tNext)
abbrev qB (c : Cfg) : TS := (tSeq (tAsg (tOp (rI (fun _ j => 0 < j) fun i j => V.int (i % j)) (tCB rIntF (tCons (tOp (rI0 fun i j => V.int (i + j)) (tOp (rI0 fun i j => V.int (i + j)) (tOp (rI0 fun i j => V.int (i + j)) (tOp (rI CMul fun i j => V.int (i * j)) (tVar 6) (tVar 6)) (tOp (rI CMul fun i j => V.int (i * j)) (tVar 5) (tC (V.int 31337)))) (tOp (rI CMul fun i j => V.int (i * j)) (tVar 2) (tC (V.int 5)))) (tC (V.int 3))) tNil)) (tC (V.int 998244353))) (gName 6))
    (tDrop (tBM c.K "list" rAppend (tVar 1) (tCons (tVar 6) tNil))))
abbrev qTail (c : Cfg) : TS := (tIfS (tTest (tOp (rI0 fun i j => V.bl (decide (j ≤ i))) (tVar 3) (tOp (rI CPow fun i j => V.int (i ^ j.toNat)) (tC (V.int 10)) (tC (V.int 18))))) (tFor (iRng1 (tCons (tC (V.int 48)) tNil)) (gName 5) (qA c)) (tSeq (tAsg (tOp (rI (fun _ j => 0 < j) fun i j => V.int (i % j)) (tCB rIntF (tCons (tOp (rI0 fun i j => V.int (i + j)) (tOp (rI0 fun i j => V.int (i + j)) (tOp (rI CMul fun i j => V.int (i * j)) (tVar 3) (tC (V.int 7919))) (tOp (rI CMul fun i j => V.int (i * j)) (tVar 2) (tC (V.int 104729)))) (tVar 4)) tNil)) (tC (V.int 998244353))) (gName 6))
    (tFor (iRng1 (tCons (tC (V.int 5)) tNil)) (gName 5) (qB c))))
abbrev qPot (c : Cfg) : TS := (tSeq (tAsg (tLst tNil) (gName 1))
    (tSeq (tFor (iRng1 (tCons (tCB rMin2F (tCons (tCB (rLenS c.K) (tCons (tVar 0) tNil)) (tCons (tC (V.int 63)) tNil))) tNil)) (gName 2) (tSeq (tAsg (tCB rIntF (tCons (tOp (rIx c.K) (tVar 0) (tVar 2)) tNil)) (gName 3))
    (tSeq (tAsg (tC (V.int 11)) (gName 4))
    (tSeq (tIfS (tTest (tOp (rI0 fun i j => V.bl (decide (i < j))) (tVar 3) (tC (V.int 0)))) (tSeq (tAsg (tOp (rI0 fun i j => V.int (i - j)) (tC (V.int 0)) (tVar 3)) (gName 3))
    (tAsg (tC (V.int 503)) (gName 4))) tNext)
    (qTail c)))))
    (tSeq (tDrop (tBM0 c.K "list" rReverse (tVar 1)))
    (tRet (tVar 1)))))
/-- one turn of the pot's list at p -/
abbrev SP (a p : Addr) (i m sh : Int) (o5 o6 : Option V) : L2.St := [some (.ref a), some (.ref p), some (.int i), some (.int m), some (.int sh), o5, o6]
theorem tyList {K : PySem.W.Frag} {H : Hp} {p : Addr} {xs : List V} (h : H p = some (.lst xs)) : tyV K "list" (.ref p) H := .inl ⟨rfl, _, SqL.of h⟩
theorem small (n : Nat) (h : n < 16000000) : n < sizeLine := by
  show n < 2 ^ 24
  omega
theorem tail_ok (c : Cfg) (a p : Addr) (i m sh : Int) (hi0 : 0 ≤ i) (hi : i < 63) (o5 o6 : Option V) (H : Hp) (pot : List Int) (hl : pot.length < 10000) (hp : H p = some (.lst (pot.map V.int))) (De : Ends)
    (k : ∀ (pot' : List Int) (m' : Int) (o5' o6' : Option V) (H' : Hp), (∀ b, b ≠ p → H' b = H b) → H' p = some (.lst (pot'.map V.int)) → pot'.length ≤ pot.length + 48 → De.nx (SP a p i m' sh o5' o6') H') :
    qTail c De (SP a p i m sh o5 o6) H := by
  refine ⟨_, rfl, _, _, rfl, rfl, ⟨by decide, by decide, by decide⟩, _, _, rfl, rfl, _, rfl, ?_⟩
  refine ite2 (fun _ => ?_) (fun _ => ?_)
  · refine ⟨_, rfl, by decide, by decide, ?_⟩
    refine for_range (fun j σ H' => ∃ (pot' : List Int) (m' : Int) (o5' : Option V), σ = SP a p i m' sh o5' o6 ∧ (∀ b, b ≠ p → H' b = H b) ∧ H' p = some (.lst (pot'.map V.int)) ∧ pot'.length ≤ pot.length + j) ⟨pot, m, o5, rfl, fun _ _ => rfl, hp, Nat.le_refl _⟩ ?_ ?_
    · rintro j σ H' hj ⟨pot', m', o5', rfl, h1, h2, h3⟩
      refine ⟨_, rfl, _, _, rfl, rfl, _, rfl, ?_⟩
      refine ite2 (fun _ => ?_) (fun _ => ?_)
      · refine ⟨_, rfl, tyList h2, _, rfl, .inl ⟨_, rfl, _, _, rfl, rfl, (show (0 : Int) < 30 by decide), p, _, _, rfl, rfl, h2, small _ (by rw [List.length_map]; have : j < 48 := hj; omega), ?_⟩⟩
        refine ⟨_, rfl, _, _, rfl, rfl, ⟨by decide, by decide⟩, ?_⟩
        exact ⟨pot' ++ [m' % 30], m' / 30, _, rfl, fun b hb => (upd_ne hb).trans (h1 b hb), by rw [upd_same, List.map_append]; rfl, by rw [List.length_append]; show pot'.length + 1 ≤ _; omega⟩
      · exact ⟨pot', m', _, rfl, h1, h2, by omega⟩
    · rintro σ H' ⟨pot', m', o5', rfl, h1, h2, h3⟩
      exact k pot' m' o5' o6 H' h1 h2 h3
  · refine ⟨_, rfl, _, _, rfl, rfl, .inr ⟨by decide, by decide⟩, _, rfl, _, _, rfl, rfl, .inr ⟨by decide, by decide⟩, _, _, rfl, rfl, _, rfl, _, _, rfl, rfl, .inl ⟨_, rfl, _, _, rfl, rfl, (show (0 : Int) < 998244353 by decide), ?_⟩⟩
    refine ⟨_, rfl, by decide, by decide, ?_⟩
    refine for_range (fun j σ H' => ∃ (pot' : List Int) (x : Int) (o5' : Option V), σ = SP a p i m sh o5' (some (.int x)) ∧ 0 ≤ x ∧ x < 998244353 ∧ (∀ b, b ≠ p → H' b = H b) ∧ H' p = some (.lst (pot'.map V.int)) ∧ pot'.length ≤ pot.length + j) ⟨pot, _, o5, rfl, Int.emod_nonneg _ (by decide), Int.emod_lt_of_pos _ (by decide), fun _ _ => rfl, hp, Nat.le_refl _⟩ ?_ ?_
    · rintro j σ H' hj ⟨pot', x, o5', rfl, x0, x1, h1, h2, h3⟩
      refine ⟨_, rfl, _, rfl, _, _, rfl, rfl, .inl ⟨by omega, by omega⟩, _, rfl, _, _, rfl, rfl, .inr ⟨by decide, by decide⟩, _, _, rfl, rfl, _, rfl, _, _, rfl, rfl, .inr ⟨by decide, by decide⟩, _, _, rfl, rfl, _, _, rfl, rfl, .inl ⟨_, rfl, _, _, rfl, rfl, (show (0 : Int) < 998244353 by decide), ?_⟩⟩
      refine ⟨_, rfl, tyList h2, _, rfl, p, _, _, rfl, rfl, h2, small _ (by rw [List.length_map]; have : j < 5 := hj; omega), ?_⟩
      exact ⟨pot' ++ [_], _, _, rfl, Int.emod_nonneg _ (by decide), Int.emod_lt_of_pos _ (by decide), fun b hb => (upd_ne hb).trans (h1 b hb), by rw [upd_same, List.map_append]; rfl, by rw [List.length_append]; show pot'.length + 1 ≤ _; omega⟩
    · rintro σ H' ⟨pot', x, o5', rfl, x0, x1, h1, h2, h3⟩
      exact k pot' m o5' _ H' h1 h2 (by have : (5 : Int).toNat = 5 := rfl; omega)

/-- what the pot's maker promises: a fresh list of ints -/
def spPot (K : PySem.W.Frag) : Sp := fun vs H Q _ => ∃ (a : Addr) (ns : List Int), vs = [.ref a] ∧ SqL K H a (ns.map V.int) ∧ ns.length ≤ 63 ∧ ∀ (p : Addr) (pot : List Int) (H' : Hp), H' p = some (.lst (pot.map V.int)) → Q (.ref p) H'
theorem pot_run {a : Addr} {ns : List Int} {H : Hp} {Q : VK} (hS : SqL c.K H a (ns.map V.int)) (hl : ns.length ≤ 63) (k : ∀ (p : Addr) (pot : List Int) (H' : Hp), H' p = some (.lst (pot.map V.int)) → Q (.ref p) H') :
    qPot c { nx := fun _ H' => Q .non H', rt := Q } [some (.ref a), none, none, none, none, none, none] H := by
  refine ⟨Nat.zero_le _, fun p hp => ?_⟩
  have s0 : Same H (upd H p (.lst [])) := fun b o e => by
    rw [upd_ne (ne_of_none e hp)]
    exact e
  have hlen : (ns.map V.int).length = ns.length := List.length_map _
  refine ⟨_, rfl, a, ns.map V.int, rfl, .inl (s0.seq hS), _, _, rfl, _, rfl, ?_, ?_, ?_⟩
  · split <;> omega
  · split <;> omega
  refine for_range (fun j σ H' => ∃ (pot : List Int) (o2 o3 o4 o5 o6 : Option V), σ = [some (.ref a), some (.ref p), o2, o3, o4, o5, o6] ∧ Same H H' ∧ H' p = some (.lst (pot.map V.int)) ∧ pot.length ≤ 48 * j) ⟨[], _, _, _, _, _, rfl, s0, upd_same, Nat.le_refl _⟩ ?_ ?_
  · rintro j σ H' hj ⟨pot, o2, o3, o4, o5, o6, rfl, s1, h1, h2⟩
    have hj1 : j < ns.length := by
      rw [hlen] at hj
      split at hj <;> omega
    have hx : atI (ns.map V.int) (0 + (j : Int)) = some (V.int (ns[j]'hj1)) := by
      rw [Int.zero_add]
      refine atI_nat ?_
      rw [List.getElem?_map, List.getElem?_eq_getElem hj1]
      rfl
    have key : ∀ (m sh : Int) (De : Ends), De.nx = (fun σ H' => ∃ (pot : List Int) (o2 o3 o4 o5 o6 : Option V), σ = [some (.ref a), some (.ref p), o2, o3, o4, o5, o6] ∧ Same H H' ∧ H' p = some (.lst (pot.map V.int)) ∧ pot.length ≤ 48 * (j + 1)) → qTail c De (SP a p (0 + (j : Int)) m sh o5 o6) H' := fun m sh De eD => by
      refine tail_ok c a p (0 + (j : Int)) m sh (by omega) (by omega) o5 o6 H' pot (by omega) h1 _ fun pot' m' o5' o6' H2 g1 g2 g3 => ?_
      rw [eD]
      exact ⟨pot', _, _, _, _, _, rfl, fun b o e => by
        rw [g1 b (ne_of_none e hp)]
        exact s1 b o e, g2, by omega⟩
    refine ⟨_, rfl, _, rfl, .inl ⟨a, _, _, _, rfl, rfl, s1.seq hS, hx, .inl ⟨_, rfl, ?_⟩⟩⟩
    refine ⟨_, rfl, _, _, rfl, rfl, _, rfl, ?_⟩
    refine ite2 (fun _ => ?_) (fun _ => ?_)
    · refine ⟨_, rfl, _, _, rfl, rfl, ?_⟩
      exact key _ _ _ rfl
    · exact key _ _ _ rfl
  · rintro σ H' ⟨pot, o2, o3, o4, o5, o6, rfl, s1, h1, h2⟩
    refine ⟨_, rfl, tyList h1, p, _, rfl, rfl, h1, _, rfl, ?_⟩
    exact k p pot.reverse _ (by rw [upd_same, List.map_reverse])

end
end PL

/-! What is found of a finished text: classes, properties, functions. -/
namespace FX
open PySem L2 Den
noncomputable section
variable {K : PySem.W.Frag} {P : Program} {w : World} {mg : Str → Option Value} {base : Heap}
theorem pss_any {X : Cx} {st : List Stmt} : PSs X st (fun D σ H => ∃ t, PSs X st t ∧ t D σ H) := ⟨fun pins s σ H D I h => by
  obtain ⟨t, ht, h⟩ := h
  exact ht.run pins s σ H D I h⟩
def spLaw (K : PySem.W.Frag) : Sp := fun vs H Q _ => ∃ (a : Addr) (ns : List Int), vs = [.ref a] ∧ SqL K H a (ns.map V.int) ∧ ns.length ≤ 63 ∧ ∀ H', Q (.bl true) H'
/-- the slots of the law behind its first statement: the pot alone -/
def potLoc (m : Nat) : Den.Loc := none :: some (.dat .pot) :: List.replicate m none
theorem pot_rel {ec : Nat → Addr} {p : Addr} {H' : Hp} {pot : List Int} {m : Nat} {a : Addr} (hp : H' p = some (.lst (pot.map V.int))) : Rel ⟨K, p, ec⟩ (fun _ => none) H' (fun _ => none) H' (some (.ref a) :: some (.ref p) :: List.replicate m none) (potLoc m) pot := by
  have key : ∀ (i : Nat) (x : L), (potLoc m)[i]? = some (some x) → i = 1 ∧ x = .dat .pot := fun i x e => by
    match i, e with
    | 0, e => cases e
    | 1, e => cases e; exact ⟨rfl, rfl⟩
    | n + 2, e =>
      have e' : (List.replicate m (none : Option L))[n]? = some (some x) := e
      rw [List.getElem?_replicate] at e'
      split at e' <;> cases e'
  refine ⟨Stp.refl (fun _ _ z => nomatch z), hp, rfl, by rw [hp]; exact (fun z => nomatch z), by simp [potLoc], fun i x e => ?_, fun i j x y e1 e2 o1 => ?_⟩
  · obtain ⟨rfl, rfl⟩ := key i x e
    exact At.pot
  · obtain ⟨rfl, rfl⟩ := key i x e1
    cases o1
theorem kitCls_at {t : Value} {C : Addr} {b : Bool} (i : PySem.W.isClsIn K C = true) (ty : PySem.W.typeIn K (.ref C) = some (.type "type")) (s : PySem.W.subIn K t (.ref C) = some b) : PySem.W.kitCls K t (.ref C) = some b := by
  have e : ((PySem.W.clsIn K C).isSome && PySem.W.typeIn K (.ref C) == some (.type "type")) = true := by
    rw [ty, show (PySem.W.clsIn K C).isSome = true from i]
    rfl
  unfold PySem.W.kitCls
  simp only [e, if_true]
  exact s
theorem exm_at {t : Value} {C : Addr} {b : Bool} (bp : PySem.W.subIn K (.ref C) (.type "BaseException") = some true) (i : PySem.W.isClsIn K C = true) (ty : PySem.W.typeIn K (.ref C) = some (.type "type")) (s : PySem.W.subIn K t (.ref C) = some b) : PySem.W.exmOne K t (.ref C) = some b := by
  unfold PySem.W.exmOne
  rw [if_pos (by rw [bp]; rfl)]
  exact kitCls_at i ty s
theorem sub_no {n : String} {C : Addr} (vs : List Value) (e : fastBuiltinMro n = some vs) (h : ∀ v ∈ vs, ∃ m, v = .type m) : PySem.W.subIn K (.type n) (.ref C) = some false := by
  show (fastBuiltinMro n).map (fun x => x.contains (Value.ref C)) = _
  rw [e]
  show some (vs.contains (Value.ref C)) = _
  congr 1
  cases hc : vs.contains (Value.ref C) with
  | false => rfl
  | true =>
    have := List.contains_iff_mem.mp hc
    obtain ⟨m, z⟩ := h _ this
    cases z
theorem clsF_at {C : Addr} (cl : Cls K C) (ha : PySem.W.findIn K (.ref C) "__class__" = some (some (.builtin "object.__class__"))) (i : PySem.W.isClsIn K C = true) (ty : PySem.W.typeIn K (.ref C) = some (.type "type")) (hm : PySem.W.mroIn K C (.type "object") = some true) : Den.ClsF K C := by
  have et : PySem.W.typeIn K (.builtin "object.__class__") = some (.type "getset_descriptor") := by
    show PySem.W.pureOf (fastBuiltinType "object.__class__") = _
    decide +kernel
  have kit : ∀ {n : String} (vs : List Value), fastBuiltinMro n = some vs → (∀ v ∈ vs, ∃ m, v = .type m) → PySem.W.kitOne K (.type n) (.ref C) = some false := fun vs e h => by
    unfold PySem.W.kitOne
    rw [if_neg (fun z => by cases (beq_iff_eq.mp z))]
    exact kitCls_at i ty (sub_no vs e h)
  refine ⟨cl, ha, ?_, ?_, hm, ?_, kit [.type "list", .type "object"] (by decide +kernel) ?_, kit [.type "tuple", .type "object"] (by decide +kernel) ?_, kit [.type "int", .type "object"] (by decide +kernel) ?_, kit [.type "bool", .type "int", .type "object"] (by decide +kernel) ?_, kit [.type "str", .type "object"] (by decide +kernel) ?_, kit [.type "NoneType", .type "object"] (by decide +kernel) ?_⟩
  · unfold PySem.W.specialIn
    rw [et]
    show PySem.fastLookup "getset_descriptor" "__get__" = _
    decide +kernel
  · unfold PySem.W.takesIn PySem.W.specialIn
    rw [et]
    have : PySem.W.findIn K (.type "getset_descriptor") "__set__" = some (some (.builtin "getset_descriptor.__set__")) := by
      show PySem.fastLookup "getset_descriptor" "__set__" = _
      decide +kernel
    simp only [Option.bind_some, this]
  · unfold PySem.W.kitOne
    rw [if_pos (by simp)]
  all_goals simp
theorem prop_at {C p g : Addr} {f : Str} {d : Option Addr} {vs : Array Value} {sl : Array (Option Value)} {rest : List Value} (at_ : PySem.W.findIn K (.ref C) f = some (some (.ref p))) (l : K.lookup p = some ⟨.type "property", d, .fields vs, sl⟩) (e : vs.toList = .ref g :: rest) : PropOf K C f p g := by
  have et : PySem.W.typeIn K (.ref p) = some (.type "property") := by
    show (K.lookup p).map (fun x => x.cls) = _
    rw [l]
    rfl
  refine ⟨at_, ?_, ?_, rest, ?_⟩
  · unfold PySem.W.specialIn
    rw [et]
    show PySem.fastLookup "property" "__get__" = _
    decide +kernel
  · unfold PySem.W.takesIn PySem.W.specialIn
    rw [et]
    have : PySem.W.findIn K (.type "property") "__set__" = some (some (.builtin "property.__set__")) := by
      show PySem.fastLookup "property" "__set__" = _
      decide +kernel
    simp only [Option.bind_some, this]
  · unfold PySem.W.recIn
    rw [l]
    show (if ("property" == "property") = true then some vs.toList else none) = _
    rw [if_pos (by decide), e]
def FnIn (K : PySem.W.Frag) (x qual : Str) (st : Stmt) (f : Addr) : Prop := ∃ fd, Fun K x qual st f fd
theorem fnIn_mk {x qual : Str} {st : Stmt} {f : Addr} {oc : Value} {od an : Option Addr} {osl : Array (Option Value)} {kV doc pm cdv ct : Value} (l : K.lookup f = some ⟨oc, od, .func (PySem.W.fnOf x qual (defArgs st) (defBody st) (defScope st) .none kV doc pm an cdv ct), osl⟩) (c : PySem.W.codeIn K cdv qual = true) (k : PySem.W.keepIn K (.ref f) = true) : FnIn K x qual st f := ⟨_, fun_mk (st := st) l c k⟩
end
end FX

namespace PL
open PySem L2 Den
def Lot (n : Int) (ss : List Int) : Prop := ss ≠ [] ∧ ss.length < 60 ∧ ∀ x ∈ ss, 0 ≤ x ∧ x < n
theorem scL_ints (ss : List Int) : scL (ss.map D.int) = some (ss.map V.int) := by
  induction ss with
  | nil => rfl
  | cons s ss ih => simp [scL, sc, ih]
theorem lot_ev (n : Int) (hn : 0 < n) (p : List Int) : ∃ ss q, D_law_lot [.pot, .int n] p = .ok (dI ss) q ∧ Lot n ss := by
  obtain ⟨v, q1, e1, hv0, hv1⟩ := draw_ev n hn p
  obtain ⟨t, q2, e2, ht0, ht1⟩ := draw_ev 3 (by decide) q1
  have key := loop_run (tg := gset 3) (body := sseq (sasg (mcall D_law_draw (acons (mvar 0) (acons (mvar 1) anil))) (gset 4)) (sif (mtest (minc true (mvar 4) 2)) (sappend 2 (mvar 4)) sskip))
    (fun (k : Nat) (l : Den.Loc) (q : List Int) => ∃ ss o3 o4, l = [some (.dat .pot), some (.dat (.int n)), some (.cell (ss.map .int)), o3, o4] ∧ ss ≠ [] ∧ ss.length ≤ 1 + k ∧ ∀ x ∈ ss, 0 ≤ x ∧ x < n)
    (ds := rngD 0 t.toNat) (k := 0) (l := [some (.dat .pot), some (.dat (.int n)), some (.cell [.int v]), none, none]) (p := q2) ⟨[v], none, none, rfl, by simp, by simp, by simp [hv0, hv1]⟩ (fun i d l q hd hI => by
      obtain ⟨ss, o3, o4, rfl, h1, h2, h3⟩ := hI
      have hi := (rngD_get hd).1
      obtain ⟨x, q', e, hx0, hx1⟩ := draw_ev n hn q
      refine ⟨_, lset_lt 3 _ _ (by simp), ?_⟩
      have hlen : ss.length < 1000 := by omega
      by_cases hin : inV (V.int x) (ss.map V.int) = true
      · refine ⟨[some (.dat .pot), some (.dat (.int n)), some (.cell (ss.map .int)), some (.dat d), some (.dat (.int x))], q', .inl ?_, ss, _, _, rfl, h1, by omega, h3⟩
        simp [mvar, e, minc, sc, scL_ints, hin]
      · refine ⟨[some (.dat .pot), some (.dat (.int n)), some (.cell ((ss ++ [x]).map .int)), some (.dat d), some (.dat (.int x))], q', .inl ?_, ss ++ [x], _, _, rfl, by simp, by rw [List.length_append]; simp; omega, fun y hy => ?_⟩
        · have hin' : inV (V.int x) (ss.map V.int) = false := by simpa using hin
          simp [mvar, e, minc, sc, scL_ints, hin', sappend, hlen, sbind]
        · rcases List.mem_append.mp hy with h | h
          · exact h3 y h
          · have : y = x := by simpa using h
            rw [this]; exact ⟨hx0, hx1⟩)
  obtain ⟨l', q3, e3, ss, o3, o4, rfl, h1, h2, h3⟩ := key
  rw [rngD_len] at h2
  refine ⟨ss, q3, ?_, h1, by omega, h3⟩
  have hr : rng1 [D.int t] = some (rngD 0 t.toNat) := rng1_int (by omega)
  simp [D_law_lot, denF, dn_law_lot, locOf, mvar, e1, e2, hr, e3, sgive, dI]
def DueOk (d : Due) : Prop := ∀ b x, d = some (b, x) → 0 ≤ x ∧ x ≤ 1000
theorem due_ev (p : List Int) : ∃ d q, D_law_due [.pot] p = .ok (dDue d) q ∧ DueOk d := by
  obtain ⟨v, q1, e1, hv0, hv1⟩ := draw_ev 6 (by decide) p
  by_cases h2 : v ≤ 2
  · exact ⟨some (true, 0), q1, by simp [D_law_due, denF, dn_law_due, locOf, mvar, e1, h2, dDue], fun b x h => by cases h; decide⟩
  · by_cases h3 : v = 3
    · obtain ⟨x, q2, e2, hx0, hx1⟩ := draw_ev 4 (by decide) q1
      exact ⟨some (true, 1 + x), q2, by simp [D_law_due, denF, dn_law_due, locOf, mvar, e1, h3, e2, dDue], fun b y h => by cases h; omega⟩
    · by_cases h4 : v = 4
      · obtain ⟨x, q2, e2, hx0, hx1⟩ := draw_ev 3 (by decide) q1
        exact ⟨some (false, 1 + x), q2, by simp [D_law_due, denF, dn_law_due, locOf, mvar, e1, h4, e2, dDue], fun b y h => by cases h; omega⟩
      · exact ⟨none, q1, by simp [D_law_due, denF, dn_law_due, locOf, mvar, e1, h2, h3, h4, dDue], fun b y h => by cases h⟩
theorem marks_ev (n : Int) (h0 : 0 ≤ n) (h1 : n ≤ 60) (p : List Int) : ∃ ms q, D_law_marks [.pot, .int n] p = .ok (dI ms) q ∧ (ms.length : Int) = n ∧ ∀ m ∈ ms, m = 1 ∨ m = 2 := by
  obtain ⟨v, q1, e1, hv0, hv1⟩ := draw_ev 4 (by decide) p
  have hr : rng1 [D.int n] = some (rngD 0 n.toNat) := rng1_int (by omega)
  by_cases h2 : v ≤ 1
  · have hc : mcomp (mbind (acons (mvar 1) anil) fun x => mlift (rng1 x)) 3 mtrue (op2 fAdd (mret (D.int 1)) (mvar 2)) [some (.dat .pot), some (.dat (.int n)), some (.dat (.int v)), none] q1 = .ok ((List.replicate n.toNat (1 + v)).map .int) q1 := by
      refine (mcomp_ev (ds := rngD 0 n.toNat) (p' := q1) ?_ (by rw [rngD_len]; omega)).trans ?_
      · simp only [mbind_ev, acons_ev, mvar, List.getElem?_cons_succ, List.getElem?_cons_zero, bind_ok, anil_ev, hr, mlift_some]
      · refine (comp_map (by simp) (fun _ => .int (1 + v)) fun d hd => by simp [mvar]).trans ?_
        congr 1
        rw [List.map_replicate]
        refine List.eq_replicate_iff.mpr ⟨by rw [List.length_map, rngD_len], fun b hb => ?_⟩
        obtain ⟨_, _, rfl⟩ := List.mem_map.mp hb
        rfl
    refine ⟨List.replicate n.toNat (1 + v), q1, ?_, by rw [List.length_replicate]; omega, fun m hm => by have := (List.mem_replicate.mp hm).2; omega⟩
    simp [D_law_marks, denF, dn_law_marks, locOf, mvar, e1, h2, hc, dI]
  · have hc : ∃ ys q2, mcomp (mbind (acons (mvar 1) anil) fun x => mlift (rng1 x)) 3 mtrue (op2 fAdd (mret (D.int 1)) (mcall D_law_draw (acons (mvar 0) (acons (mret (D.int 2)) anil)))) [some (.dat .pot), some (.dat (.int n)), some (.dat (.int v)), none] q1 = .ok ys q2 ∧ ys.length = n.toNat ∧ ∀ y ∈ ys, ∃ m : Int, y = .int m ∧ (m = 1 ∨ m = 2) := by
      obtain ⟨ys, q2, e, hl, hy⟩ := comp_ex (i := 3) (e := op2 fAdd (mret (D.int 1)) (mcall D_law_draw (acons (mvar 0) (acons (mret (D.int 2)) anil)))) (l := [some (.dat .pot), some (.dat (.int n)), some (.dat (.int v)), none]) (by simp) (fun _ y => ∃ m : Int, y = .int m ∧ (m = 1 ∨ m = 2)) (ds := rngD 0 n.toNat) (p := q1) fun d hd p => by
        obtain ⟨x, q', e, hx0, hx1⟩ := draw_ev 2 (by decide) p
        exact ⟨.int (1 + x), q', by simp [mvar, e], 1 + x, rfl, by omega⟩
      refine ⟨ys, q2, (mcomp_ev (ds := rngD 0 n.toNat) (p' := q1) ?_ (by rw [rngD_len]; omega)).trans e, by rw [hl, rngD_len], fun y h => ?_⟩
      · simp only [mbind_ev, acons_ev, mvar, List.getElem?_cons_succ, List.getElem?_cons_zero, bind_ok, anil_ev, hr, mlift_some]
      · obtain ⟨_, _, q⟩ := hy y h
        exact q
    obtain ⟨ys, q2, e, hl, hy⟩ := hc
    have hms : ∃ ms : List Int, ys = ms.map .int ∧ ∀ m ∈ ms, m = 1 ∨ m = 2 := by
      clear e hl
      induction ys with
      | nil => exact ⟨[], rfl, fun _ h => nomatch h⟩
      | cons y ys ih =>
        obtain ⟨m, rfl, hm⟩ := hy y List.mem_cons_self
        obtain ⟨ms, rfl, h⟩ := ih fun y h => hy y (List.mem_cons_of_mem _ h)
        exact ⟨m :: ms, rfl, fun k hk => by
          rcases List.mem_cons.mp hk with rfl | hk
          · exact hm
          · exact h k hk⟩
    obtain ⟨ms, rfl, hm⟩ := hms
    rw [List.length_map] at hl
    refine ⟨ms, q2, ?_, by omega, hm⟩
    simp [D_law_marks, denF, dn_law_marks, locOf, mvar, e1, h2, e, dI]
end PL

namespace PL
open PySem L2 Den
def LotOk (n : Int) (ss : List Int) : Prop := ss.length < 60 ∧ ∀ x ∈ ss, 0 ≤ x ∧ x < n
def pathB : MS := sseq (sasg (op2 fSub (mvar 2) (mret (D.int 1))) (gset 3))
    (sseq (sif (mtest (op2 fEq (mvar 2) (mret (D.int 2)))) (sasg (mret (D.int 0)) (gset 3)) sskip)
    (sseq (sasg (op2 fAdd (mvar 2) (mret (D.int 1))) (gset 4))
    (sseq (sif (mtest (op2 fEq (mvar 2) (op2 fSub (mvar 0) (mret (D.int 1))))) (sasg (mret (D.int 1)) (gset 4)) sskip)
    (sappend 1 (mfreeze (mshort (acons (mvar 3) (acons (mvar 4) anil))))))))
theorem path_ev (n : Int) (h0 : 2 ≤ n) (h1 : n ≤ 60) (p : List Int) : ∃ lls : List (List Int), D_law_path [.int n] p = .ok (.lst (lls.map dI)) p ∧ (lls.length : Int) = n ∧ ∀ ss ∈ lls, LotOk n ss := by
  have key := loop_run (tg := gset 2) (body := pathB)
    (fun (k : Nat) (l : Den.Loc) (q : List Int) => q = p ∧ ∃ (lls : List (List Int)) (o2 o3 o4 : Option L), l = [some (.dat (.int n)), some (.cell (lls.map dI)), o2, o3, o4] ∧ lls.length = 2 + k ∧ ∀ ss ∈ lls, LotOk n ss)
    (ds := rngD 2 (n - 2).toNat) (k := 0) (l := [some (.dat (.int n)), some (.cell [.lst [], .lst []]), none, none, none]) (p := p) ⟨rfl, [[], []], none, none, none, rfl, rfl, by simp [LotOk]⟩ (fun i d l q hd hI => by
      obtain ⟨rfl, lls, o2, o3, o4, rfl, h2, h3⟩ := hI
      obtain ⟨hi, rfl⟩ := rngD_get hd
      have hin : i < (n - 2).toNat := hi
      have hlen : lls.length < 1000 := by omega
      have gen : ∀ a b : Int, 0 ≤ a → a < n → 0 ≤ b → b < n → ∀ ss ∈ lls ++ [[a, b]], LotOk n ss := fun a b a0 a1 b0 b1 ss hs => by
        rcases List.mem_append.mp hs with h | h
        · exact h3 ss h
        · have : ss = [a, b] := by simpa using h
          subst this
          exact ⟨by simp, by simp; omega⟩
      refine ⟨_, lset_lt 2 _ _ (by simp), ?_⟩
      have hv : ∃ v : Int, v = 2 + (i : Int) ∧ 2 ≤ v ∧ v < n := ⟨2 + (i : Int), rfl, by omega, by omega⟩
      obtain ⟨v, ev, v0, v1⟩ := hv
      rw [← ev]
      have fin : ∀ a b : Int, (if v = 2 then (0 : Int) else v - 1) = a → (if v = n - 1 then (1 : Int) else v + 1) = b → pathB (List.set [some (L.dat (D.int n)), some (L.cell (List.map dI lls)), o2, o3, o4] 2 (some (.dat (.int v)))) q = .nx [some (.dat (.int n)), some (.cell ((lls ++ [[a, b]]).map dI)), some (.dat (.int v)), some (.dat (.int a)), some (.dat (.int b))] q := fun a b ea eb => by
        unfold pathB
        by_cases c1 : v = 2
        · by_cases c2 : v = n - 1
          · rw [if_pos c1] at ea; rw [if_pos c2] at eb
            simp [mvar, sappend, hlen, sbind, dI, eq_true c1, eq_true c2, ← ea, ← eb]
          · rw [if_pos c1] at ea; rw [if_neg c2] at eb
            simp [mvar, sappend, hlen, sbind, dI, eq_true c1, eq_false c2, ← ea, ← eb]
        · by_cases c2 : v = n - 1
          · rw [if_neg c1] at ea; rw [if_pos c2] at eb
            simp [mvar, sappend, hlen, sbind, dI, eq_false c1, eq_true c2, ← ea, ← eb]
          · rw [if_neg c1] at ea; rw [if_neg c2] at eb
            simp [mvar, sappend, hlen, sbind, dI, eq_false c1, eq_false c2, ← ea, ← eb]
      refine ⟨_, q, .inl (fin _ _ rfl rfl), rfl, _, _, _, _, rfl, by rw [List.length_append]; simp; omega, gen _ _ ?_ ?_ ?_ ?_⟩
      all_goals (split <;> omega))
  obtain ⟨l', q, e, rfl, lls, o2, o3, o4, rfl, h2, h3⟩ := key
  rw [rngD_len] at h2
  refine ⟨lls, ?_, by omega, h3⟩
  have hr : rng2 [D.int 2, D.int n] = some (rngD 2 (n - 2).toNat) := rng2_int (by decide) (by omega)
  unfold pathB at e
  simp [D_law_path, denF, dn_law_path, locOf, mvar, hr, e, sgive]
end PL

namespace PL
open PySem L2 Den
/-! the drawn web, part by part -/
def pE1 : MS := (sasg (vand (op2 fEq (mvar 7) (mret (D.int 0))) (op2 fNe (mvar 4) (mret (D.int 4)))) (gset 10))
def pE2 : MS := (sif (mand (mtest (op2 fEq (mvar 7) (mret (D.int 1)))) (mtest (op2 fNe (mvar 4) (mret (D.int 3))))) (sasg (mret (D.bl true)) (gset 10)) sskip)
def pE3 : MS := (sif (mand (mtest (op2 fGe (mvar 7) (mret (D.int 2)))) (mtest (op2 fEq (mcall D_law_draw (acons (mvar 0) (acons (mret (D.int 8)) anil))) (mret (D.int 7))))) (sasg (mret (D.bl true)) (gset 10)) sskip)
def pLots : MS := (sif (mtru (mvar 10)) (sseq (sappend 5 (mfreeze (mshort anil)))
    (sappend 8 (mfreeze (mshort anil)))) (sseq (sasg (mcall D_law_lot (acons (mvar 0) (acons (mvar 3) anil))) (gset 9))
    (sseq (sappend 5 (mvar 9))
    (sif (mor (mtru (mvar 2)) (mtest (op2 fEq (mcall D_law_draw (acons (mvar 0) (acons (mret (D.int 2)) anil))) (mret (D.int 0))))) (sappend 8 (mfreeze (mlistN (acons (mvar 9) anil)))) (sappend 8 (mcall D_law_lot (acons (mvar 0) (acons (mvar 3) anil))))))))
def pD0 : MS := (sasg (mret D.non) (gset 11))
def pD1 : MS := (sif (mor (mtest (op2 fEq (mvar 7) (mret (D.int 0)))) (mand (mtru (mvar 10)) (mtest (op2 fGe (mvar 7) (mret (D.int 2)))))) (sasg (mcall D_law_due (acons (mvar 0) anil)) (gset 11)) (sif (mand (mnot (mtru (mvar 10))) (mtest (op2 fEq (mcall D_law_draw (acons (mvar 0) (acons (mret (D.int 8)) anil))) (mret (D.int 7))))) (sasg (mcall D_law_due (acons (mvar 0) anil)) (gset 11)) sskip))
def pD2 : MS := (sappend 6 (mvar 11))
def pTurn : MS := sseq pE1 (sseq pE2 (sseq pE3 (sseq pLots (sseq pD0 (sseq pD1 pD2)))))
def pWeb : MS := (sseq (sasg (opn fMin2 (acons (mvar 1) (acons (op2 fIx (mfreeze (mshort (acons (mret (D.int 4)) (acons (mret (D.int 3)) (acons (mret (D.int 5)) (acons (mret (D.int 4)) (acons (mret (D.int 6)) (acons (mret (D.int 2)) (acons (mret (D.int 5)) (acons (mret (D.int 3)) (acons (mret (D.int 7)) (acons (mret (D.int 1)) anil)))))))))))) (mcall D_law_draw (acons (mvar 0) (acons (mret (D.int 10)) anil)))) anil))) (gset 3))
    (sseq (sasg (mcall D_law_draw (acons (mvar 0) (acons (mret (D.int 5)) anil))) (gset 4))
    (sseq (sown (mshort anil) 5)
    (sseq (sown (mshort anil) 6)
    (sseq (sif (mand (mtest (op2 fEq (mvar 4) (mret (D.int 0)))) (mtest (op2 fGe (mvar 3) (mret (D.int 2))))) (sseq (sasg (mcall D_law_path (acons (mvar 3) anil)) (gset 5))
    (sseq (sasg (op2 fCat (mfreeze (mshort (acons (mtupd (acons (mret (D.str "chips")) (acons (mret (D.int 0)) anil))) anil))) (mfreeze (mcomp (mbind (acons (op2 fSub (mvar 3) (mret (D.int 1))) anil) fun x => mlift (rng1 x)) 7 mtrue (mret D.non)))) (gset 6))
    (sgive 5 (sown (mcomp (mbind (mvar 5) fun x => mlift (lstOf x)) 9 mtrue (mfreeze (mlistN (acons (mvar 9) anil)))) 8)))) (sseq (sown (mshort anil) 8)
    (sfor (mbind (acons (mvar 3) anil) fun x => mlift (rng1 x)) (gset 7) pTurn)))
    (sgive 8 (sgive 5 (sgive 6 (sret (mfreeze (mshort (acons (mvar 5) (acons (mvar 8) (acons (mcall D_law_marks (acons (mvar 0) (acons (mvar 3) anil))) (acons (mvar 6) anil)))))))))))))))
theorem pWeb_is : dn_law_web = pWeb := rfl
abbrev Stt (m n s : Int) (e : Bool) (fs ss : List (List Int)) (ds : List Due) (o7 o9 o10 o11 : Option L) : Den.Loc := [some (.dat .pot), some (.dat (.int m)), some (.dat (.bl e)), some (.dat (.int n)), some (.dat (.int s)), some (.cell (fs.map dI)), some (.cell (ds.map dDue)), o7, some (.cell (ss.map dI)), o9, o10, o11]
theorem end_ev (m n s i : Int) (hi : 0 ≤ i) (e : Bool) (fs ss : List (List Int)) (ds : List Due) (o9 o10 o11 : Option L) (q : List Int) (R : MS) : ∃ b q', sseq pE1 (sseq pE2 (sseq pE3 R)) (Stt m n s e fs ss ds (some (.dat (.int i))) o9 o10 o11) q = R (Stt m n s e fs ss ds (some (.dat (.int i))) o9 (some (.dat (.bl b))) o11) q' := by
  by_cases h0 : i = 0
  · subst h0
    refine ⟨!decide (s = 4), q, ?_⟩
    simp [pE1, pE2, pE3, mvar]
  · by_cases h1 : i = 1
    · subst h1
      by_cases h3 : s = 3
      · exact ⟨false, q, by simp [pE1, pE2, pE3, mvar, h3]⟩
      · exact ⟨true, q, by simp [pE1, pE2, pE3, mvar, h3]⟩
    · have h2 : 2 ≤ i := by omega
      obtain ⟨v, q1, e1, hv0, hv1⟩ := draw_ev 8 (by decide) q
      by_cases h7 : v = 7
      · exact ⟨true, q1, by simp [pE1, pE2, pE3, mvar, h0, h1, h2, e1, h7]⟩
      · exact ⟨false, q1, by simp [pE1, pE2, pE3, mvar, h0, h1, h2, e1, h7]⟩
theorem Lot.ok {n : Int} {ss : List Int} (h : Lot n ss) : LotOk n ss := h.2
theorem lots_ev (m n s : Int) (hn : 0 < n) (e b : Bool) (fs ss : List (List Int)) (ds : List Due) (o7 o9 o11 : Option L) (hf : fs.length < 1000) (hs : ss.length < 1000) (q : List Int) : ∃ fl sl o9' q', pLots (Stt m n s e fs ss ds o7 o9 (some (.dat (.bl b))) o11) q = .nx (Stt m n s e (fs ++ [fl]) (ss ++ [sl]) ds o7 o9' (some (.dat (.bl b))) o11) q' ∧ LotOk n fl ∧ LotOk n sl ∧ fl.isEmpty = sl.isEmpty := by
  have hE : LotOk n [] := ⟨by decide, fun _ h => nomatch h⟩
  cases b with
  | true => exact ⟨[], [], o9, q, by simp [pLots, mvar, sappend, hf, hs, sbind, dI], hE, hE, rfl⟩
  | false =>
    obtain ⟨lo, q1, e1, L1⟩ := lot_ev n hn q
    have em : lo.isEmpty = false := by cases lo with
      | nil => exact absurd rfl L1.1
      | cons => rfl
    cases e with
    | true => exact ⟨lo, lo, some (.dat (dI lo)), q1, by simp [pLots, mvar, sappend, hf, hs, sbind, e1]; simp [dI], L1.ok, L1.ok, rfl⟩
    | false =>
      obtain ⟨v, q2, e2, hv0, hv1⟩ := draw_ev 2 (by decide) q1
      by_cases h0 : v = 0
      · exact ⟨lo, lo, some (.dat (dI lo)), q2, by simp [pLots, mvar, sappend, hf, hs, sbind, e1, e2, h0]; simp [dI], L1.ok, L1.ok, rfl⟩
      · obtain ⟨lo2, q3, e3, L2⟩ := lot_ev n hn q2
        have em2 : lo2.isEmpty = false := by cases lo2 with
          | nil => exact absurd rfl L2.1
          | cons => rfl
        exact ⟨lo, lo2, some (.dat (dI lo)), q3, by simp [pLots, mvar, sappend, hf, hs, sbind, e1, e2, h0, e3], L1.ok, L2.ok, by rw [em, em2]⟩
theorem dues_ev (m n s i : Int) (e b : Bool) (fs ss : List (List Int)) (ds : List Due) (o9 o11 : Option L) (hd : ds.length < 1000) (q : List Int) : ∃ d o11' q', sseq pD0 (sseq pD1 pD2) (Stt m n s e fs ss ds (some (.dat (.int i))) o9 (some (.dat (.bl b))) o11) q = .nx (Stt m n s e fs ss (ds ++ [d]) (some (.dat (.int i))) o9 (some (.dat (.bl b))) o11') q' ∧ DueOk d := by
  have hN : DueOk none := fun b x h => nomatch h
  have dN : dDue none = .non := rfl
  by_cases h0 : i = 0
  · obtain ⟨d, q1, e1, D1⟩ := due_ev q
    exact ⟨d, some (.dat (dDue d)), q1, by simp [pD0, pD1, pD2, mvar, sappend, hd, sbind, e1, h0], D1⟩
  · cases b with
    | true =>
      by_cases h2 : 2 ≤ i
      · obtain ⟨d, q1, e1, D1⟩ := due_ev q
        exact ⟨d, some (.dat (dDue d)), q1, by simp [pD0, pD1, pD2, mvar, sappend, hd, sbind, e1, h0, h2], D1⟩
      · exact ⟨none, some (.dat .non), q, by simp [pD0, pD1, pD2, mvar, sappend, hd, sbind, h0, h2, dN], hN⟩
    | false =>
      obtain ⟨v, q1, e1, hv0, hv1⟩ := draw_ev 8 (by decide) q
      by_cases h7 : v = 7
      · obtain ⟨d, q2, e2, D1⟩ := due_ev q1
        exact ⟨d, some (.dat (dDue d)), q2, by simp [pD0, pD1, pD2, mvar, sappend, hd, sbind, e1, h0, h7, e2], D1⟩
      · exact ⟨none, some (.dat .non), q1, by simp [pD0, pD1, pD2, mvar, sappend, hd, sbind, e1, h0, h7, dN], hN⟩
end PL

namespace PL
open PySem L2 Den
structure Grown (n : Int) (k : Nat) (fs ss : List (List Int)) (ds : List Due) : Prop where
  lf : fs.length = k
  ls : ss.length = k
  ld : ds.length = k
  of : ∀ x ∈ fs, LotOk n x
  os : ∀ x ∈ ss, LotOk n x
  od : ∀ d ∈ ds, DueOk d
  bo : fs.map List.isEmpty = ss.map List.isEmpty
theorem Grown.more {n : Int} {k : Nat} {fs ss : List (List Int)} {ds : List Due} (G : Grown n k fs ss ds) {fl sl : List Int} {d : Due} (h1 : LotOk n fl) (h2 : LotOk n sl) (h3 : fl.isEmpty = sl.isEmpty) (h4 : DueOk d) : Grown n (k + 1) (fs ++ [fl]) (ss ++ [sl]) (ds ++ [d]) := by
  have ap : ∀ {α : Type} {P : α → Prop} {xs : List α} {a : α}, (∀ x ∈ xs, P x) → P a → ∀ x ∈ xs ++ [a], P x := fun h ha x hx => by
    rcases List.mem_append.mp hx with h' | h'
    · exact h x h'
    · rcases List.mem_singleton.mp h' with rfl
      exact ha
  exact ⟨by simp [G.lf], by simp [G.ls], by simp [G.ld], ap G.of h1, ap G.os h2, ap G.od h4, by simp [G.bo, h3]⟩
theorem Grown.valid {n : Int} {fs ss : List (List Int)} {ds : List Due} {ms : List Int} (h1 : 1 ≤ n) (h2 : n ≤ 60) (hm : (ms.length : Int) = n) (hms : ∀ m ∈ ms, m = 1 ∨ m = 2) (G : Grown n n.toNat fs ss ds) : Valid ⟨fs, ss, ms, ds⟩ := by
  have hn : n.toNat = ms.length := by omega
  refine ⟨by show 1 ≤ ms.length; omega, by show ms.length ≤ 60; omega, G.lf.trans hn, G.ls.trans hn, G.ld.trans hn, fun s hs => ?_, fun s hs => ?_, fun i a b ha hb => ?_, hms, G.od⟩
  · show s.length < 60 ∧ ∀ x ∈ s, 0 ≤ x ∧ x < (ms.length : Int)
    rw [hm]; exact G.of s hs
  · show s.length < 60 ∧ ∀ x ∈ s, 0 ≤ x ∧ x < (ms.length : Int)
    rw [hm]; exact G.os s hs
  · have e := congrArg (fun x => x[i]?) G.bo
    simp only [List.getElem?_map] at e
    have ha' : fs[i]? = some a := ha
    have hb' : ss[i]? = some b := hb
    rw [ha', hb'] at e
    simpa using e
theorem turn_ev (m n s i : Int) (hi : 0 ≤ i) (hn : 0 < n) (e : Bool) (k : Nat) (hk : k < 1000) (fs ss : List (List Int)) (ds : List Due) (G : Grown n k fs ss ds) (o9 o10 o11 : Option L) (q : List Int) : ∃ fs' ss' ds' o9' o10' o11' q', pTurn (Stt m n s e fs ss ds (some (.dat (.int i))) o9 o10 o11) q = .nx (Stt m n s e fs' ss' ds' (some (.dat (.int i))) o9' o10' o11') q' ∧ Grown n (k + 1) fs' ss' ds' := by
  obtain ⟨b, q1, e1⟩ := end_ev m n s i hi e fs ss ds o9 o10 o11 q (sseq pLots (sseq pD0 (sseq pD1 pD2)))
  obtain ⟨fl, sl, o9', q2, e2, h1, h2, h3⟩ := lots_ev m n s hn e b fs ss ds (some (.dat (.int i))) o9 o11 (by rw [G.lf]; exact hk) (by rw [G.ls]; exact hk) q1
  obtain ⟨d, o11', q3, e3, h4⟩ := dues_ev m n s i e b (fs ++ [fl]) (ss ++ [sl]) ds o9' o11 (by rw [G.ld]; exact hk) q2
  exact ⟨_, _, _, _, _, _, q3, e1.trans ((sseq_nx _ _ _ _ _ _ e2).trans e3), G.more h1 h2 h3 h4⟩
theorem turns_ev (m n s : Int) (hn : 0 < n) (h60 : n ≤ 60) (e : Bool) (o7 o9 o10 o11 : Option L) (q : List Int) : ∃ fs ss ds o7' o9' o10' o11' q', loop (gset 7) pTurn (rngD 0 n.toNat) (Stt m n s e [] [] [] o7 o9 o10 o11) q = .nx (Stt m n s e fs ss ds o7' o9' o10' o11') q' ∧ Grown n n.toNat fs ss ds := by
  obtain ⟨l', q', e1, fs, ss, ds, o7', o9', o10', o11', rfl, G⟩ := loop_run (tg := gset 7) (body := pTurn)
    (fun (k : Nat) (l : Den.Loc) (q : List Int) => ∃ fs ss ds o7 o9 o10 o11, l = Stt m n s e fs ss ds o7 o9 o10 o11 ∧ Grown n k fs ss ds)
    (ds := rngD 0 n.toNat) (k := 0) (l := Stt m n s e [] [] [] o7 o9 o10 o11) (p := q) ⟨[], [], [], _, _, _, _, rfl, rfl, rfl, rfl, (fun _ h => nomatch h), (fun _ h => nomatch h), (fun _ h => nomatch h), rfl⟩ (fun i d l q hd hI => by
      obtain ⟨fs, ss, ds, o7, o9, o10, o11, rfl, G⟩ := hI
      obtain ⟨hi, rfl⟩ := rngD_get hd
      obtain ⟨fs', ss', ds', o9', o10', o11', q', e1, G'⟩ := turn_ev m n s (0 + (i : Int)) (by omega) hn e (0 + i) (by omega) fs ss ds G o9 o10 o11 q
      exact ⟨_, lset_lt 7 _ _ (by simp), _, q', .inl e1, fs', ss', ds', _, _, _, _, rfl, G'⟩)
  rw [rngD_len, Nat.zero_add] at G
  exact ⟨fs, ss, ds, o7', o9', o10', o11', q', e1, G⟩
theorem menu_ev (m : Int) (h1 : 1 ≤ m) (p : List Int) : ∃ n q, (∀ l : Den.Loc, l[0]? = some (some (.dat .pot)) → l[1]? = some (some (.dat (.int m))) → opn fMin2 (acons (mvar 1) (acons (op2 fIx (mfreeze (mshort (acons (mret (D.int 4)) (acons (mret (D.int 3)) (acons (mret (D.int 5)) (acons (mret (D.int 4)) (acons (mret (D.int 6)) (acons (mret (D.int 2)) (acons (mret (D.int 5)) (acons (mret (D.int 3)) (acons (mret (D.int 7)) (acons (mret (D.int 1)) anil)))))))))))) (mcall D_law_draw (acons (mvar 0) (acons (mret (D.int 10)) anil)))) anil)) l p = .ok (.int n) q) ∧ 1 ≤ n ∧ n ≤ m ∧ n ≤ 7 := by
  obtain ⟨v, q, e, h0, h9⟩ := draw_ev 10 (by decide) p
  have key : ∃ x : Int, 1 ≤ x ∧ x ≤ 7 ∧ atI [D.int 4, .int 3, .int 5, .int 4, .int 6, .int 2, .int 5, .int 3, .int 7, .int 1] v = some (.int x) := by
    have : ∀ j : Nat, j < 10 → ∃ x : Int, 1 ≤ x ∧ x ≤ 7 ∧ [D.int 4, .int 3, .int 5, .int 4, .int 6, .int 2, .int 5, .int 3, .int 7, .int 1][j]? = some (.int x) := fun j hj => by
      match j, hj with
      | 0, _ => exact ⟨4, by decide, by decide, rfl⟩
      | 1, _ => exact ⟨3, by decide, by decide, rfl⟩
      | 2, _ => exact ⟨5, by decide, by decide, rfl⟩
      | 3, _ => exact ⟨4, by decide, by decide, rfl⟩
      | 4, _ => exact ⟨6, by decide, by decide, rfl⟩
      | 5, _ => exact ⟨2, by decide, by decide, rfl⟩
      | 6, _ => exact ⟨5, by decide, by decide, rfl⟩
      | 7, _ => exact ⟨3, by decide, by decide, rfl⟩
      | 8, _ => exact ⟨7, by decide, by decide, rfl⟩
      | 9, _ => exact ⟨1, by decide, by decide, rfl⟩
      | j + 10, h => omega
    obtain ⟨x, hx1, hx2, hx3⟩ := this v.toNat (by omega)
    exact ⟨x, hx1, hx2, atI_nat' h0 hx3⟩
  obtain ⟨x, hx1, hx2, hx3⟩ := key
  refine ⟨if x < m then x else m, q, fun l hl0 hl1 => ?_, by split <;> omega, by split <;> omega, by split <;> omega⟩
  simp [mvar_ev hl0, mvar_ev hl1, e, hx3]
end PL

namespace PL
open PySem L2 Den
def pPath : MS := (sseq (sasg (mcall D_law_path (acons (mvar 3) anil)) (gset 5))
    (sseq (sasg (op2 fCat (mfreeze (mshort (acons (mtupd (acons (mret (D.str "chips")) (acons (mret (D.int 0)) anil))) anil))) (mfreeze (mcomp (mbind (acons (op2 fSub (mvar 3) (mret (D.int 1))) anil) fun x => mlift (rng1 x)) 7 mtrue (mret D.non)))) (gset 6))
    (sgive 5 (sown (mcomp (mbind (mvar 5) fun x => mlift (lstOf x)) 9 mtrue (mfreeze (mlistN (acons (mvar 9) anil)))) 8))))
def pLast : MS := (sgive 8 (sgive 5 (sgive 6 (sret (mfreeze (mshort (acons (mvar 5) (acons (mvar 8) (acons (mcall D_law_marks (acons (mvar 0) (acons (mvar 3) anil))) (acons (mvar 6) anil))))))))))
theorem last_cell (m n s : Int) (e : Bool) (fs ss : List (List Int)) (ds : List Due) (o7 o9 o10 o11 : Option L) (ms : List Int) (q q' : List Int) (hm : D_law_marks [.pot, .int n] q = .ok (dI ms) q') : pLast (Stt m n s e fs ss ds o7 o9 o10 o11) q = .rt (.lst (encW ⟨fs, ss, ms, ds⟩)) q' := by
  simp [pLast, sgive, mvar, hm, encW]
theorem path_run (m n s : Int) (h2 : 2 ≤ n) (h60 : n ≤ 60) (e : Bool) (o8 o9 o10 o11 : Option L) (o7 : Option L) (q : List Int) : ∃ fs o7' o9', pPath [some (.dat .pot), some (.dat (.int m)), some (.dat (.bl e)), some (.dat (.int n)), some (.dat (.int s)), some (.cell []), some (.cell []), o7, o8, o9, o10, o11] q
    = .nx [some (.dat .pot), some (.dat (.int m)), some (.dat (.bl e)), some (.dat (.int n)), some (.dat (.int s)), some (.dat (.lst (fs.map dI))), some (.dat (.lst ((some (true, 0) :: List.replicate (n - 1).toNat none : List Due).map dDue))), o7', some (.cell (fs.map dI)), o9', o10, o11] q ∧ Grown n n.toNat fs fs (some (true, 0) :: List.replicate (n - 1).toNat none : List Due) := by
  obtain ⟨fs, e1, hl, hok⟩ := path_ev n h2 h60 q
  have hr : rng1 [D.int (n - 1)] = some (rngD 0 (n - 1).toNat) := rng1_int (by omega)
  have c1 : ∀ o5 : Option L, mcomp (mbind (acons (op2 fSub (mvar 3) (mret (D.int 1))) anil) fun x => mlift (rng1 x)) 7 mtrue (mret D.non) [some (.dat .pot), some (.dat (.int m)), some (.dat (.bl e)), some (.dat (.int n)), some (.dat (.int s)), o5, some (.cell []), o7, o8, o9, o10, o11] q = .ok (List.replicate (n - 1).toNat D.non) q := fun o5 => by
    refine (mcomp_ev (ds := rngD 0 (n - 1).toNat) (p' := q) ?_ (by rw [rngD_len]; omega)).trans ?_
    · simp [mvar, hr]
    · refine (comp_map (by simp) (fun _ => D.non) fun d hd => by simp).trans ?_
      congr 1
      refine List.eq_replicate_iff.mpr ⟨by rw [List.length_map, rngD_len], fun b hb => ?_⟩
      obtain ⟨_, _, rfl⟩ := List.mem_map.mp hb
      rfl
  have c2 : ∀ o6 o7 : Option L, mcomp (mbind (mvar 5) fun x => mlift (lstOf x)) 9 mtrue (mfreeze (mlistN (acons (mvar 9) anil))) [some (.dat .pot), some (.dat (.int m)), some (.dat (.bl e)), some (.dat (.int n)), some (.dat (.int s)), some (.dat (.lst (fs.map dI))), o6, o7, o8, o9, o10, o11] q = .ok (fs.map dI) q := fun o6 o7 => by
    refine (mcomp_ev (ds := fs.map dI) (p' := q) ?_ (by rw [List.length_map]; omega)).trans ?_
    · simp [mvar]
    · refine (comp_mapL (by simp) dI dI fun x hx => by simp [mvar, dI])
  have hlen : 1 + (n.toNat - 1) ≤ 1000 := by omega
  refine ⟨fs, o7, o9, ?_, ?_⟩
  · simp [pPath, mvar, e1, c1, sgive, c2, fCat, hlen, dDue]
  · refine ⟨by omega, by omega, ?_, hok, hok, ?_, rfl⟩
    · simp; omega
    · intro d hd b x hx
      rcases List.mem_cons.mp hd with rfl | h
      · cases hx; decide
      · rw [(List.mem_replicate.mp h).2] at hx; cases hx
theorem denF_ev {n m : Nat} {s : MS} {ds : List D} {pot : List Int} (h : ds.length = n) : denF n m s ds pot = outR (s (locOf m ds) pot) := if_pos h
theorem sif_t {t : M Bool} {a b : MS} {l : Den.Loc} {p p' : List Int} (h : t l p = .ok true p') : sif t a b l p = a l p' := by rw [sif_ev, h]; rfl
theorem sif_f {t : M Bool} {a b : MS} {l : Den.Loc} {p p' : List Int} (h : t l p = .ok false p') : sif t a b l p = b l p' := by rw [sif_ev, h]; rfl
abbrev S0 (m : Int) (e : Bool) (o3 o4 o5 o6 o8 : Option L) : Den.Loc := [some (.dat .pot), some (.dat (.int m)), some (.dat (.bl e)), o3, o4, o5, o6, none, o8, none, none, none]
theorem web_ev (m : Int) (h1 : 1 ≤ m) (e : Bool) (p : List Int) : ∃ wb q, D_law_web [.pot, .int m, .bl e] p = .ok (.lst (encW wb)) q ∧ Valid wb ∧ (wb.marks.length : Int) ≤ m ∧ wb.marks.length ≤ 7 := by
  obtain ⟨n, q1, e1, n1, n2, n3⟩ := menu_ev m h1 p
  obtain ⟨s, q2, e2, s0, s5⟩ := draw_ev 5 (by decide) q1
  have L0 := e1 (S0 m e none none none none none) rfl rfl
  have hrn : rng1 [D.int n] = some (rngD 0 n.toNat) := rng1_int (by omega)
  have main : ∃ fs ss ds ms q l q', Grown n n.toNat fs ss ds ∧ (ms.length : Int) = n ∧ (∀ m ∈ ms, m = 1 ∨ m = 2) ∧ 
      (sif (mand (mtest (op2 fEq (mvar 4) (mret (D.int 0)))) (mtest (op2 fGe (mvar 3) (mret (D.int 2))))) pPath (sseq (sown (mshort anil) 8) (sfor (mbind (acons (mvar 3) anil) fun x => mlift (rng1 x)) (gset 7) pTurn))) (S0 m e (some (.dat (.int n))) (some (.dat (.int s))) (some (.cell [])) (some (.cell [])) none) q2 = .nx l q' ∧ pLast l q' = .rt (.lst (encW ⟨fs, ss, ms, ds⟩)) q := by
    by_cases hp : s = 0 ∧ 2 ≤ n
    · obtain ⟨hp1, hp2⟩ := hp
      obtain ⟨fs, o7', o9', e3, G⟩ := path_run m n s hp2 (by omega) e none none none none none q2
      obtain ⟨ms, q3, e4, m1, m2⟩ := marks_ev n (by omega) (by omega) q2
      have hc : mand (mtest (op2 fEq (mvar 4) (mret (D.int 0)))) (mtest (op2 fGe (mvar 3) (mret (D.int 2)))) (S0 m e (some (.dat (.int n))) (some (.dat (.int s))) (some (.cell [])) (some (.cell [])) none) q2 = .ok true q2 := by
        simp [mvar, hp1, hp2]
      refine ⟨fs, fs, _, ms, q3, _, q2, G, m1, m2, (sif_t hc).trans e3, ?_⟩
      · simp [pLast, sgive, mvar, e4, encW]
    · obtain ⟨fs, ss, ds, o7', o9', o10', o11', q3, e3, G⟩ := turns_ev m n s (by omega) (by omega) e none none none none q2
      obtain ⟨ms, q4, e4, m1, m2⟩ := marks_ev n (by omega) (by omega) q3
      refine ⟨fs, ss, ds, ms, q4, _, q3, G, m1, m2, ?_, last_cell m n s e fs ss ds o7' o9' o10' o11' ms q3 q4 e4⟩
      have hc : mand (mtest (op2 fEq (mvar 4) (mret (D.int 0)))) (mtest (op2 fGe (mvar 3) (mret (D.int 2)))) (S0 m e (some (.dat (.int n))) (some (.dat (.int s))) (some (.cell [])) (some (.cell [])) none) q2 = .ok false q2 := by
        by_cases h : s = 0
        · have : ¬ 2 ≤ n := fun h' => hp ⟨h, h'⟩
          simp [mvar, h, this]
        · simp [mvar, h]
      refine (sif_f hc).trans ?_
      refine (seq_nx (l' := Stt m n s e [] [] [] none none none none) (p' := q2) (by simp)).trans ?_
      rw [sfor_ev]
      simp only [mbind_ev, acons_ev, mvar, List.getElem?_cons_succ, List.getElem?_cons_zero, bind_ok, anil_ev, hrn, mlift_some, toO_ok]
      exact e3
  obtain ⟨fs, ss, ds, ms, q, l, q', G, m1, m2, e3, e4⟩ := main
  refine ⟨⟨fs, ss, ms, ds⟩, q, ?_, G.valid n1 (by omega) m1 m2, by show (ms.length : Int) ≤ m; omega, by show ms.length ≤ 7; omega⟩
  refine (denF_ev (n := 3) (m := 12) (s := dn_law_web) rfl).trans ?_
  refine (congrArg outR ?_).trans (outR_rt _ q)
  rw [pWeb_is]
  refine (seq_nx (l' := S0 m e (some (.dat (.int n))) none none none none) (p' := q1) ?_).trans ?_
  · rw [sasg_ev]
    rw [show locOf 12 [D.pot, D.int m, D.bl e] = S0 m e none none none none none from rfl]
    rw [L0]
    rfl
  refine (seq_nx (l' := S0 m e (some (.dat (.int n))) (some (.dat (.int s))) none none none) (p' := q2) ?_).trans ?_
  · simp [mvar, e2]
  refine (seq_nx (l' := S0 m e (some (.dat (.int n))) (some (.dat (.int s))) (some (.cell [])) none none) (p' := q2) ?_).trans ?_
  · simp
  refine (seq_nx (l' := S0 m e (some (.dat (.int n))) (some (.dat (.int s))) (some (.cell [])) (some (.cell [])) none) (p' := q2) ?_).trans ?_
  · simp
  exact (seq_nx e3).trans e4
end PL

namespace PL
open PySem L2 Den
/-- the built web -/
def insW (A : CA) (wb : Wb) : D := .ins A.Web wnames (wfields wb)
theorem fld_ins {C : Addr} {f : Str} {ns : List Str} {ds : List D} : fFld C f (.ins C ns ds) = (ns.zip ds).lookup f := if_pos rfl
theorem lk_ne {f g : Str} {d : D} {l : List (Str × D)} (h : (f == g) = false) : ((g, d) :: l).lookup f = l.lookup f := by
  simp [List.lookup, h]
theorem lk_eq {f : Str} {d : D} {l : List (Str × D)} : ((f, d) :: l).lookup f = some d := by
  simp [List.lookup]
@[simp] theorem f_size (A : CA) (wb : Wb) : fFld A.Web "_size" (insW A wb) = some (.int wb.marks.length) := by
  unfold insW
  rw [fld_ins]
  exact lk_eq
@[simp] theorem f_first (A : CA) (wb : Wb) : fFld A.Web "_first" (insW A wb) = some (.tup (wb.first.map dS)) := by
  unfold insW
  rw [fld_ins]
  refine (lk_ne (by decide +kernel)).trans ?_
  exact lk_eq
@[simp] theorem f_second (A : CA) (wb : Wb) : fFld A.Web "_second" (insW A wb) = some (.tup (wb.second.map dS)) := by
  unfold insW
  rw [fld_ins]
  refine (lk_ne (by decide +kernel)).trans ?_
  refine (lk_ne (by decide +kernel)).trans ?_
  exact lk_eq
@[simp] theorem f_marks (A : CA) (wb : Wb) : fFld A.Web "_marks" (insW A wb) = some (.tup (wb.marks.map .int)) := by
  unfold insW
  rw [fld_ins]
  refine (lk_ne (by decide +kernel)).trans ?_
  refine (lk_ne (by decide +kernel)).trans ?_
  refine (lk_ne (by decide +kernel)).trans ?_
  exact lk_eq
@[simp] theorem isC_ins (A : CA) (wb : Wb) : fIsC A.Web [insW A wb, .cls A.Web] = some (.bl true) := by simp [fIsC, insW]
@[simp] theorem isC_lst (A : CA) (ds : List D) : fIsC A.Web [.lst ds, .cls A.Web] = some (.bl false) := by simp [fIsC, tyN]
theorem check_web_ok (A : CA) (wb : Wb) (p : List Int) : D_check_web A [insW A wb] p = .ok .non p := by
  simp [D_check_web, denF, dn_check_web, locOf, mvar]
theorem check_web_no (A : CA) (ds : List D) (p : List Int) : D_check_web A [.lst ds] p = .err 0 p := by
  simp [D_check_web, denF, dn_check_web, locOf, mvar]
theorem built_ev {wb : Wb} (V : Valid wb) (A : CA) (p : List Int) : D_law_built A [.lst (encW wb)] p = .ok (insW A wb) p := by
  have n2 := V.n2
  have l1 := V.l1
  have l2 := V.l2
  have c1 : mcomp (mbind (op2 fIx (mvar 0) (mret (D.int 0))) fun x => mlift (lstOf x)) 1 mtrue (mfreeze (mlistN (acons (mvar 1) anil))) [some (.dat (.lst (encW wb))), none] p = .ok (wb.first.map dI) p := by
    rw [mcomp_ev (ds := wb.first.map dI) (p' := p) (by simp [mvar, encW]) (by rw [List.length_map]; omega)]
    exact comp_mapL (by simp) dI dI fun ss hs => by simp [mvar, dI]
  have c2 : mcomp (mbind (op2 fIx (mvar 0) (mret (D.int 1))) fun x => mlift (lstOf x)) 1 mtrue (mfreeze (mlistN (acons (mvar 1) anil))) [some (.dat (.lst (encW wb))), none] p = .ok (wb.second.map dI) p := by
    rw [mcomp_ev (ds := wb.second.map dI) (p' := p) (by simp [mvar, encW]) (by rw [List.length_map]; omega)]
    exact comp_mapL (by simp) dI dI fun ss hs => by simp [mvar, dI]
  have i2 : fIx (.lst (encW wb)) (.int 2) = some (dI wb.marks) := by simp [encW]
  have i3 : fIx (.lst (encW wb)) (.int 3) = some (.lst (wb.dues.map dDue)) := by simp [encW]
  have hI := D_Web_init_eval V A p
  have e4 : [D.lst (wb.first.map dI), .lst (wb.second.map dI), .lst (wb.marks.map .int), .lst (wb.dues.map dDue)] = encW wb := rfl
  simp [D_law_built, denF, dn_law_built, locOf, mmake, c1, c2, mvar, i2, i3, e4, hI]
  rfl
/-! rows -/
def IsRow (rd : D) (r : List Int) : Prop := rd = dI r ∨ rd = .tup (r.map .int)
theorem IsRow.ix {rd : D} {r : List Int} (h : IsRow rd r) (i : Int) : fIx rd (.int i) = atI (r.map .int) i := by
  rcases h with rfl | rfl <;> rfl
theorem IsRow.sq {rd : D} {r : List Int} (h : IsRow rd r) : seqOf rd = some (r.map .int) := by
  rcases h with rfl | rfl <;> rfl
def rowAt (r : List Int) (x : Int) : Int := r[x.toNat]?.getD 0
theorem row_at {r : List Int} {x : Int} (h0 : 0 ≤ x) (h1 : x < (r.length : Int)) : atI (r.map D.int) x = some (.int (rowAt r x)) := by
  have hx : x.toNat < r.length := by omega
  refine atI_nat' h0 ?_
  rw [List.getElem?_map, List.getElem?_eq_getElem hx]
  simp [rowAt, List.getElem?_eq_getElem hx]
/-- stand i of the web -/
structure Here (wb : Wb) (i : Int) (f s : List Int) (mk : Int) : Prop where
  h0 : 0 ≤ i
  h1 : i < (wb.marks.length : Int)
  hf : wb.first[i.toNat]? = some f
  hs : wb.second[i.toNat]? = some s
  hm : wb.marks[i.toNat]? = some mk
theorem here_ex {wb : Wb} (V : Valid wb) {i : Int} (h0 : 0 ≤ i) (h1 : i < (wb.marks.length : Int)) : ∃ f s mk, Here wb i f s mk := by
  have l1 := V.l1
  have l2 := V.l2
  exact ⟨wb.first[i.toNat]'(by omega), wb.second[i.toNat]'(by omega), wb.marks[i.toNat]'(by omega), h0, h1, List.getElem?_eq_getElem _, List.getElem?_eq_getElem _, List.getElem?_eq_getElem _⟩
section
variable {wb : Wb} {i : Int} {f s : List Int} {mk : Int}
theorem Here.f1 (h : Here wb i f s mk) : atI (wb.first.map dS) i = some (dS f) := atI_nat' h.h0 (by rw [List.getElem?_map, h.hf]; rfl)
theorem Here.s1 (h : Here wb i f s mk) : atI (wb.second.map dS) i = some (dS s) := atI_nat' h.h0 (by rw [List.getElem?_map, h.hs]; rfl)
theorem Here.m1 (h : Here wb i f s mk) : atI (wb.marks.map D.int) i = some (.int mk) := atI_nat' h.h0 (by rw [List.getElem?_map, h.hm]; rfl)
theorem Here.f2 (h : Here wb i f s mk) : atI (wb.first.map dI) i = some (dI f) := atI_nat' h.h0 (by rw [List.getElem?_map, h.hf]; rfl)
theorem Here.s2 (h : Here wb i f s mk) : atI (wb.second.map dI) i = some (dI s) := atI_nat' h.h0 (by rw [List.getElem?_map, h.hs]; rfl)
theorem Here.fin (h : Here wb i f s mk) (V : Valid wb) : ∀ x ∈ f, 0 ≤ x ∧ x < (wb.marks.length : Int) := (V.s1 f (List.mem_of_getElem? h.hf)).2
theorem Here.sin (h : Here wb i f s mk) (V : Valid wb) : ∀ x ∈ s, 0 ≤ x ∧ x < (wb.marks.length : Int) := (V.s2 s (List.mem_of_getElem? h.hs)).2
theorem Here.mk2 (h : Here wb i f s mk) (V : Valid wb) : mk = 1 ∨ mk = 2 := V.mks mk (List.mem_of_getElem? h.hm)
theorem Here.em (h : Here wb i f s mk) (V : Valid wb) : f.isEmpty = s.isEmpty := V.both _ _ _ h.hf h.hs
end
def IsLow (r ss : List Int) (v : Int) : Prop := (∃ x ∈ ss, rowAt r x = v) ∧ ∀ x ∈ ss, v ≤ rowAt r x
def IsHigh (r ss : List Int) (v : Int) : Prop := (∃ x ∈ ss, rowAt r x = v) ∧ ∀ x ∈ ss, rowAt r x ≤ v
theorem IsLow.uniq {r ss : List Int} {v w : Int} (h : IsLow r ss v) (g : IsLow r ss w) : v = w := by
  obtain ⟨⟨x, hx, ex⟩, h2⟩ := h
  obtain ⟨⟨y, hy, ey⟩, g2⟩ := g
  have := h2 y hy
  have := g2 x hx
  omega
theorem IsHigh.uniq {r ss : List Int} {v w : Int} (h : IsHigh r ss v) (g : IsHigh r ss w) : v = w := by
  obtain ⟨⟨x, hx, ex⟩, h2⟩ := h
  obtain ⟨⟨y, hy, ey⟩, g2⟩ := g
  have := h2 y hy
  have := g2 x hx
  omega
theorem minL_low {r ss : List Int} (h : ss ≠ []) : ∃ v, fMinL [.lst (ss.map fun x => .int (rowAt r x))] = some (.int v) ∧ IsLow r ss v := by
  cases ss with
  | nil => exact absurd rfl h
  | cons a t =>
    have e : intsOf ((a :: t).map fun x => D.int (rowAt r x)) = some ((a :: t).map (rowAt r)) := by
      rw [← intsOf_map ((a :: t).map (rowAt r)), List.map_map]; rfl
    refine ⟨minL (rowAt r a) (t.map (rowAt r)), ?_, ?_, ?_⟩
    · show (intsOf ((a :: t).map fun x => D.int (rowAt r x))).bind leastOf = _
      rw [e]; rfl
    · have := minL_mem (t.map (rowAt r)) (rowAt r a)
      rw [← List.map_cons] at this
      exact List.mem_map.mp this
    · intro x hx
      have := minL_le (t.map (rowAt r)) (rowAt r a)
      rcases List.mem_cons.mp hx with rfl | hx
      · exact this.1
      · exact this.2 _ (List.mem_map_of_mem hx)
theorem maxL_high {r ss : List Int} (h : ss ≠ []) : ∃ v, fMaxL [.lst (ss.map fun x => .int (rowAt r x))] = some (.int v) ∧ IsHigh r ss v := by
  cases ss with
  | nil => exact absurd rfl h
  | cons a t =>
    have e : intsOf ((a :: t).map fun x => D.int (rowAt r x)) = some ((a :: t).map (rowAt r)) := by
      rw [← intsOf_map ((a :: t).map (rowAt r)), List.map_map]; rfl
    refine ⟨maxL (rowAt r a) (t.map (rowAt r)), ?_, ?_, ?_⟩
    · show (intsOf ((a :: t).map fun x => D.int (rowAt r x))).bind mostOf = _
      rw [e]; rfl
    · have := maxL_mem (t.map (rowAt r)) (rowAt r a)
      rw [← List.map_cons] at this
      exact List.mem_map.mp this
    · intro x hx
      have := le_maxL (t.map (rowAt r)) (rowAt r a)
      rcases List.mem_cons.mp hx with rfl | hx
      · exact this.1
      · exact this.2 _ (List.mem_map_of_mem hx)
theorem IsLow.sort {r ss : List Int} {v : Int} (h : IsLow r (sortSet ss) v) : IsLow r ss v := ⟨h.1.imp fun x hx => ⟨mem_sortSet.mp hx.1, hx.2⟩, fun x hx => h.2 x (mem_sortSet.mpr hx)⟩
theorem IsHigh.sort {r ss : List Int} {v : Int} (h : IsHigh r (sortSet ss) v) : IsHigh r ss v := ⟨h.1.imp fun x hx => ⟨mem_sortSet.mp hx.1, hx.2⟩, fun x hx => h.2 x (mem_sortSet.mpr hx)⟩
theorem sortSet_ne {ss : List Int} (h : ss ≠ []) : sortSet ss ≠ [] := fun e => by
  cases ss with
  | nil => exact h rfl
  | cons a t =>
    have : a ∈ sortSet (a :: t) := mem_sortSet.mpr List.mem_cons_self
    rw [e] at this
    cases this
end PL

namespace PL
open PySem L2 Den
theorem len_insS (k : Int) : ∀ ns : List Int, (insS k ns).length ≤ ns.length + 1
  | [] => Nat.le_refl _
  | n :: ns => by
    have := len_insS k ns
    unfold insS
    split
    · simp
    · split
      · simp
      · simp; omega
theorem len_sortSet : ∀ ns : List Int, (sortSet ns).length ≤ ns.length
  | [] => Nat.le_refl _
  | n :: ns => by
    have := len_sortSet ns
    have := len_insS n (sortSet ns)
    simp only [sortSet, List.length_cons]
    omega
section
variable {wb : Wb} {i : Int} {f s : List Int} {mk : Int}
@[simp] theorem tupOf_dS' (ss : List Int) : tupOf (dS ss) = some ((sortSet ss).map .int) := rfl
theorem low_of_ev (V : Valid wb) (A : CA) (h : Here wb i f s mk) (hne : f ≠ []) {rd : D} {r : List Int} (hr : IsRow rd r) (hl : r.length = wb.marks.length) (p : List Int) : ∃ v, D_low_of A [insW A wb, rd, .int i] p = .ok (.int v) p ∧ IsLow r f v := by
  obtain ⟨v, e, hv⟩ := minL_low (r := r) (sortSet_ne hne)
  have hf60 := (V.s1 f (List.mem_of_getElem? h.hf)).1
  have hs60 := len_sortSet f
  refine ⟨v, ?_, hv.sort⟩
  have c1 : mcomp (mbind (op2 fIx (mfld A.Web "_first" (mvar 0)) (mvar 2)) fun x => mlift (tupOf x)) 3 mtrue (op2 fIx (mvar 1) (mvar 3)) [some (.dat (insW A wb)), some (.dat rd), some (.dat (.int i)), none] p = .ok ((sortSet f).map fun x => .int (rowAt r x)) p := by
    rw [mcomp_ev (ds := (sortSet f).map D.int) (p' := p) (by simp [mvar, h.f1]) (by rw [List.length_map]; omega)]
    exact comp_mapL (by simp) D.int (fun x => .int (rowAt r x)) fun x hx => by
      have := h.fin V x (mem_sortSet.mp hx)
      simp [mvar, hr.ix, row_at this.1 (by rw [hl]; exact this.2)]
  simp [D_low_of, denF, dn_low_of, locOf, c1, e]
theorem high_of_ev (V : Valid wb) (A : CA) (h : Here wb i f s mk) (hne : s ≠ []) {rd : D} {r : List Int} (hr : IsRow rd r) (hl : r.length = wb.marks.length) (p : List Int) : ∃ v, D_high_of A [insW A wb, rd, .int i] p = .ok (.int v) p ∧ IsHigh r s v := by
  obtain ⟨v, e, hv⟩ := maxL_high (r := r) (sortSet_ne hne)
  have hf60 := (V.s2 s (List.mem_of_getElem? h.hs)).1
  have hs60 := len_sortSet s
  refine ⟨v, ?_, hv.sort⟩
  have c1 : mcomp (mbind (op2 fIx (mfld A.Web "_second" (mvar 0)) (mvar 2)) fun x => mlift (tupOf x)) 3 mtrue (op2 fIx (mvar 1) (mvar 3)) [some (.dat (insW A wb)), some (.dat rd), some (.dat (.int i)), none] p = .ok ((sortSet s).map fun x => .int (rowAt r x)) p := by
    rw [mcomp_ev (ds := (sortSet s).map D.int) (p' := p) (by simp [mvar, h.s1]) (by rw [List.length_map]; omega)]
    exact comp_mapL (by simp) D.int (fun x => .int (rowAt r x)) fun x hx => by
      have := h.sin V x (mem_sortSet.mp hx)
      simp [mvar, hr.ix, row_at this.1 (by rw [hl]; exact this.2)]
  simp [D_high_of, denF, dn_high_of, locOf, c1, e]
def halfI (mk x y : Int) : Int := if mk = 1 then (x + (if y > x then y else x)) / 2 else ((if y < x then y else x) + y + 1) / 2
theorem half_of_ev (mk x y : Int) (p : List Int) : D_half_of [.int mk, .int x, .int y] p = .ok (.int (halfI mk x y)) p := by
  have d2 : ∀ z : Int, fDiv (.int z) (.int 2) = some (.int (z / 2)) := fun z => fDiv_int (by decide)
  by_cases h : mk = 1
  · simp [D_half_of, denF, dn_half_of, locOf, mvar, h, d2, halfI]
  · simp [D_half_of, denF, dn_half_of, locOf, mvar, h, d2, halfI]
theorem price_of_end (A : CA) (h : Here wb i [] s mk) (k : Int) (rd : D) (p : List Int) : D_price_of A [insW A wb, .int k, rd, .int i] p = .ok (.int (k + 1)) p := by
  have := h.f1
  simp [D_price_of, denF, dn_price_of, locOf, mvar, this, sortSet]
theorem price_of_ev (V : Valid wb) (A : CA) (h : Here wb i f s mk) (hne : f ≠ []) {rd : D} {r : List Int} (hr : IsRow rd r) (hl : r.length = wb.marks.length) (k : Int) (p : List Int) : ∃ x y, D_price_of A [insW A wb, .int k, rd, .int i] p = .ok (.int (halfI mk x y)) p ∧ IsLow r f x ∧ IsHigh r s y := by
  have hsne : s ≠ [] := fun e => by
    have := h.em V
    rw [e] at this
    cases f with
    | nil => exact hne rfl
    | cons => cases this
  obtain ⟨x, e1, h1⟩ := low_of_ev V A h hne hr hl p
  obtain ⟨y, e2, h2⟩ := high_of_ev V A h hsne hr hl p
  refine ⟨x, y, ?_, h1, h2⟩
  have hb : (sortSet f).isEmpty = false := by
    cases e : sortSet f with
    | nil => exact absurd e (sortSet_ne hne)
    | cons => rfl
  simp [D_price_of, denF, dn_price_of, locOf, mvar, h.f1, hb, e1, e2, h.m1, half_of_ev]
end
theorem check_stand_ev (A : CA) (wb : Wb) (i : Int) (p : List Int) : D_check_stand A [insW A wb, .int i] p = if 0 ≤ i ∧ i ≤ (wb.marks.length : Int) - 1 then .ok .non p else .err 1 p := by
  have e := check_range_ev i 0 ((wb.marks.length : Int) - 1) p
  by_cases h : 0 ≤ i ∧ i ≤ (wb.marks.length : Int) - 1
  · rw [if_pos h] at e ⊢
    simp [D_check_stand, denF, dn_check_stand, locOf, mvar, e]
  · rw [if_neg h] at e ⊢
    simp [D_check_stand, denF, dn_check_stand, locOf, mvar, e]
theorem check_moving_ok (A : CA) {wb : Wb} {i : Int} {f s : List Int} {mk : Int} (h : Here wb i f s mk) (hne : f ≠ []) (p : List Int) : D_check_moving A [insW A wb, .int i] p = .ok .non p := by
  have hb : (sortSet f).isEmpty = false := by
    cases e : sortSet f with
    | nil => exact absurd e (sortSet_ne hne)
    | cons => rfl
  simp [D_check_moving, denF, dn_check_moving, locOf, mvar, h.f1, hb]
theorem check_moving_no (A : CA) {wb : Wb} {i : Int} {s : List Int} {mk : Int} (h : Here wb i [] s mk) (p : List Int) : D_check_moving A [insW A wb, .int i] p = .err 2 p := by
  simp [D_check_moving, denF, dn_check_moving, locOf, mvar, h.f1, sortSet]
end PL

namespace PL
open PySem L2 Den
theorem all_ints (r : List Int) : ∀ d ∈ r.map D.int, ∃ i, d = .int i := fun d h => by
  obtain ⟨i, _, rfl⟩ := List.mem_map.mp h
  exact ⟨i, rfl⟩
theorem whole1 (i : Int) (p : List Int) : D_check_whole [.int i] p = .ok .non p := check_whole_ok _ (all_ints [i]) (by simp) p
theorem whole2 (i j : Int) (p : List Int) : D_check_whole [.int i, .int j] p = .ok .non p := check_whole_ok _ (all_ints [i, j]) (by simp) p
section
variable (A : CA) (wb : Wb)
theorem steps_at_ev {rd : D} {r : List Int} (hr : seqOf rd = some (r.map .int)) (hl : r.length ≤ 1000) (i : Int) (p : List Int) : D_check_steps_at A [insW A wb, rd, .int i] p = if (r.length : Int) = wb.marks.length then (if 0 ≤ i ∧ i ≤ (wb.marks.length : Int) - 1 then (D_check_moving A [insW A wb, .int i] p).bind fun _ q => .ok .non q else .err 1 p) else .err 1 p := by
  have e1 := whole_list_ok hr (all_ints r) (by rw [List.length_map]; exact hl) p
  have e2 := check_size_ev (r.map .int) rd hr wb.marks.length p
  have e3 := check_stand_ev A wb i p
  rw [List.length_map] at e2
  by_cases c1 : (r.length : Int) = wb.marks.length
  · rw [if_pos c1] at e2 ⊢
    by_cases c2 : 0 ≤ i ∧ i ≤ (wb.marks.length : Int) - 1
    · rw [if_pos c2] at e3 ⊢
      cases e4 : D_check_moving A [insW A wb, .int i] p with
      | ok d q => simp [D_check_steps_at, denF, dn_check_steps_at, locOf, mvar, check_web_ok, e1, whole1, e2, e3, e4]
      | err n q => simp [D_check_steps_at, denF, dn_check_steps_at, locOf, mvar, check_web_ok, e1, whole1, e2, e3, e4]
      | bad => simp [D_check_steps_at, denF, dn_check_steps_at, locOf, mvar, check_web_ok, e1, whole1, e2, e3, e4, outR]
    · rw [if_neg c2] at e3 ⊢
      simp [D_check_steps_at, denF, dn_check_steps_at, locOf, mvar, check_web_ok, e1, whole1, e2, e3]
  · rw [if_neg c1] at e2 ⊢
    simp [D_check_steps_at, denF, dn_check_steps_at, locOf, mvar, check_web_ok, e1, whole1, e2]
theorem steps_at_web (ds : List D) (rd i : D) (p : List Int) : D_check_steps_at A [.lst ds, rd, i] p = .err 0 p := by
  simp [D_check_steps_at, denF, dn_check_steps_at, locOf, mvar, check_web_no]
theorem steps_at_row {rd : D} {p : List Int} (i : D) (h : D_whole_list [rd] p = .err 0 p) : D_check_steps_at A [insW A wb, rd, i] p = .err 0 p := by
  simp [D_check_steps_at, denF, dn_check_steps_at, locOf, mvar, check_web_ok, h]
theorem low_err {w rd i : D} {p : List Int} {c : Nat} (h : D_check_steps_at A [w, rd, i] p = .err c p) : D_low A [w, rd, i] p = .err c p := by
  simp [D_low, denF, dn_low, locOf, mvar, h]
theorem high_err {w rd i : D} {p : List Int} {c : Nat} (h : D_check_steps_at A [w, rd, i] p = .err c p) : D_high A [w, rd, i] p = .err c p := by
  simp [D_high, denF, dn_high, locOf, mvar, h]
theorem price_ev {rd : D} {r : List Int} (hr : seqOf rd = some (r.map .int)) (hl : r.length ≤ 1000) (k i : Int) (p : List Int) : D_price A [insW A wb, .int k, rd, .int i] p = if 0 ≤ k then (if (r.length : Int) = wb.marks.length then (if 0 ≤ i ∧ i ≤ (wb.marks.length : Int) - 1 then (if k ≤ 10000000000000000000000000000000000000000 then D_price_of A [insW A wb, .int k, rd, .int i] p else .err 3 p) else .err 1 p) else .err 1 p) else .err 1 p := by
  have e1 := whole_list_ok hr (all_ints r) (by rw [List.length_map]; exact hl) p
  have e2 := check_size_ev (r.map .int) rd hr wb.marks.length p
  have e3 := check_stand_ev A wb i p
  have e5 := check_least_ev k 0 p
  have e6 := check_most_ev k 10000000000000000000000000000000000000000 p
  rw [List.length_map] at e2
  by_cases c0 : 0 ≤ k
  · rw [if_pos c0] at e5 ⊢
    by_cases c1 : (r.length : Int) = wb.marks.length
    · rw [if_pos c1] at e2 ⊢
      by_cases c2 : 0 ≤ i ∧ i ≤ (wb.marks.length : Int) - 1
      · rw [if_pos c2] at e3 ⊢
        by_cases c3 : k ≤ 10000000000000000000000000000000000000000
        · rw [if_pos c3] at e6 ⊢
          cases e4 : D_price_of A [insW A wb, .int k, rd, .int i] p with
          | ok d q => simp [D_price, denF, dn_price, locOf, mvar, check_web_ok, e1, whole2, e2, e3, e4, e5, e6]
          | err n q => simp [D_price, denF, dn_price, locOf, mvar, check_web_ok, e1, whole2, e2, e3, e4, e5, e6]
          | bad => simp [D_price, denF, dn_price, locOf, mvar, check_web_ok, e1, whole2, e2, e3, e4, e5, e6, outR]
        · rw [if_neg c3] at e6 ⊢
          simp [D_price, denF, dn_price, locOf, mvar, check_web_ok, e1, whole2, e2, e3, e5, e6]
      · rw [if_neg c2] at e3 ⊢
        simp [D_price, denF, dn_price, locOf, mvar, check_web_ok, e1, whole2, e2, e3, e5]
    · rw [if_neg c1] at e2 ⊢
      simp [D_price, denF, dn_price, locOf, mvar, check_web_ok, e1, whole2, e2, e5]
  · rw [if_neg c0] at e5 ⊢
    simp [D_price, denF, dn_price, locOf, mvar, check_web_ok, e1, whole2, e5]
theorem price_web (ds : List D) (k rd i : D) (p : List Int) : D_price A [.lst ds, k, rd, i] p = .err 0 p := by
  simp [D_price, denF, dn_price, locOf, mvar, check_web_no]
theorem price_true (rd : D) (i : Int) (p : List Int) : D_price A [insW A wb, .bl true, rd, .int i] p = .err 0 p := by
  have e := check_whole_no [.bl true, .int i] (by simp) p 0 (.bl true) .bl rfl rfl rfl (fun i h => absurd h (Nat.not_lt_zero i))
  simp [D_price, denF, dn_price, locOf, mvar, check_web_ok, e]
theorem price_row {rd : D} {p : List Int} (k i : Int) (h : D_whole_list [rd] p = .err 0 p) : D_price A [insW A wb, .int k, rd, .int i] p = .err 0 p := by
  simp [D_price, denF, dn_price, locOf, mvar, check_web_ok, whole2, h]
theorem row_none (ds : List D) (h : ds.length < 1000) (p : List Int) : D_whole_list [.lst (.non :: ds)] p = .err 0 p := by
  have e := check_whole_no (.non :: ds) (by simp; omega) p 0 .non .non rfl rfl rfl (fun i h => absurd h (Nat.not_lt_zero i))
  simp [D_whole_list, denF, dn_whole_list, locOf, mvar, fIs2, tyN, isTy, mstar, e]
theorem row_str (s : Str) (p : List Int) : D_whole_list [.str s] p = .err 0 p := by
  simp [D_whole_list, denF, dn_whole_list, locOf, mvar, fIs2, tyN, isTy]
/-! the catching function -/
theorem ref_low_err {w k rd i : D} {p : List Int} {c : Nat} (hc : c < 4) (h : D_low A [w, rd, i] p = .err c p) : D_law_refused A [w, k, rd, i, .int 1] p = .ok (.int ((c : Int) + 1)) p := by
  match c, hc with
  | 0, _ => simp [D_law_refused, denF, dn_law_refused, locOf, mvar, stry, handle, h, noE]
  | 1, _ => simp [D_law_refused, denF, dn_law_refused, locOf, mvar, stry, handle, h, noE]
  | 2, _ => simp [D_law_refused, denF, dn_law_refused, locOf, mvar, stry, handle, h, noE]
  | 3, _ => simp [D_law_refused, denF, dn_law_refused, locOf, mvar, stry, handle, h, noE]
theorem ref_high_err {w k rd i : D} {p : List Int} {c : Nat} (hc : c < 4) (h : D_high A [w, rd, i] p = .err c p) : D_law_refused A [w, k, rd, i, .int 2] p = .ok (.int ((c : Int) + 1)) p := by
  match c, hc with
  | 0, _ => simp [D_law_refused, denF, dn_law_refused, locOf, mvar, stry, handle, h, noE]
  | 1, _ => simp [D_law_refused, denF, dn_law_refused, locOf, mvar, stry, handle, h, noE]
  | 2, _ => simp [D_law_refused, denF, dn_law_refused, locOf, mvar, stry, handle, h, noE]
  | 3, _ => simp [D_law_refused, denF, dn_law_refused, locOf, mvar, stry, handle, h, noE]
theorem ref_price_err {w k rd i : D} {p : List Int} {c : Nat} (hc : c < 4) (h : D_price A [w, k, rd, i] p = .err c p) : D_law_refused A [w, k, rd, i, .int 0] p = .ok (.int ((c : Int) + 1)) p := by
  match c, hc with
  | 0, _ => simp [D_law_refused, denF, dn_law_refused, locOf, mvar, stry, handle, h, noE]
  | 1, _ => simp [D_law_refused, denF, dn_law_refused, locOf, mvar, stry, handle, h, noE]
  | 2, _ => simp [D_law_refused, denF, dn_law_refused, locOf, mvar, stry, handle, h, noE]
  | 3, _ => simp [D_law_refused, denF, dn_law_refused, locOf, mvar, stry, handle, h, noE]
theorem ref_price_ok {w k rd i d : D} {p : List Int} (h : D_price A [w, k, rd, i] p = .ok d p) : D_law_refused A [w, k, rd, i, .int 0] p = .ok (.int 0) p := by
  simp [D_law_refused, denF, dn_law_refused, locOf, mvar, stry, h]
end
end PL

namespace PL
open PySem L2 Den
section
variable (A : CA) (wb : Wb)
theorem ref_any {w k rd i : D} {p : List Int} {c : Nat} (hc : c < 4) (h1 : D_check_steps_at A [w, rd, i] p = .err c p) (h2 : D_price A [w, k, rd, i] p = .err c p) : ∀ W : Int, W = 0 ∨ W = 1 ∨ W = 2 → D_law_refused A [w, k, rd, i, .int W] p = .ok (.int ((c : Int) + 1)) p := fun W hW => by
  rcases hW with rfl | rfl | rfl
  · exact ref_price_err A hc h2
  · exact ref_low_err A hc (low_err A h1)
  · exact ref_high_err A hc (high_err A h1)
variable {wb}
theorem steps_bad {rd : D} {r : List Int} (hr : seqOf rd = some (r.map .int)) (hl : r.length ≤ 1000) (i : Int) (p : List Int) (h : ¬ ((r.length : Int) = wb.marks.length ∧ 0 ≤ i ∧ i ≤ (wb.marks.length : Int) - 1)) : D_check_steps_at A [insW A wb, rd, .int i] p = .err 1 p := by
  rw [steps_at_ev A wb hr hl i p]
  by_cases c : (r.length : Int) = wb.marks.length
  · rw [if_pos c, if_neg fun h' => h ⟨c, h'⟩]
  · rw [if_neg c]
theorem price_bad {rd : D} {r : List Int} (hr : seqOf rd = some (r.map .int)) (hl : r.length ≤ 1000) (k i : Int) (p : List Int) (h : ¬ (0 ≤ k ∧ (r.length : Int) = wb.marks.length ∧ 0 ≤ i ∧ i ≤ (wb.marks.length : Int) - 1)) : D_price A [insW A wb, .int k, rd, .int i] p = .err 1 p := by
  rw [price_ev A wb hr hl k i p]
  by_cases c0 : 0 ≤ k
  · rw [if_pos c0]
    by_cases c : (r.length : Int) = wb.marks.length
    · rw [if_pos c, if_neg fun h' => h ⟨c0, c, h'⟩]
    · rw [if_neg c]
  · rw [if_neg c0]
theorem loop_cons {tg : D → Den.Loc → Option Den.Loc} {body : MS} {d : D} {ds : List D} {l l1 l2 : Den.Loc} {p p2 : List Int} (h1 : tg d l = some l1) (h2 : body l1 p = .nx l2 p2) : loop tg body (d :: ds) l p = loop tg body ds l2 p2 := by
  conv => lhs; unfold loop
  rw [h1]
  simp only [h2]
theorem cut1 (ds : List D) : cutD ds (some 1) none = ds.drop 1 := by
  unfold cutD
  cases ds with
  | nil => rfl
  | cons d ds => simp [HT.sIx]
theorem fPow_1040 : fPow (.int 10) (.int 40) = some (.int 10000000000000000000000000000000000000000) := by
  show (if (0 : Int) ≤ 40 ∧ (40 : Int).natAbs ≤ 1000000 ∧ (10 : Int).natAbs < 18446744073709551616 then some (D.int (10 ^ (40 : Int).toNat)) else none) = _
  rw [if_pos ⟨by decide, by decide, by decide⟩]
  rfl
end
end PL

namespace PL
open PySem L2 Den
def pR1 (A : CA) : MS := (sif (mor (mtest (op2 fNe (mcall (D_law_refused A) (acons (mvar 0) (acons (mvar 1) (acons (op2 fCat (mvar 2) (mfreeze (mshort (acons (mret (D.int 0)) anil)))) (acons (mvar 3) (acons (mret (D.int 0)) anil)))))) (mret (D.int 2)))) (mtest (op2 fNe (mcall (D_law_refused A) (acons (mvar 0) (acons (mvar 1) (acons (mfreeze (mcut (mvar 2) (osome (mret (D.int 1))) onone)) (acons (mret (D.int 0)) (acons (mret (D.int 1)) anil)))))) (mret (D.int 2))))) (sret (mret (D.bl false))) sskip)
def pR2 (A : CA) : MS := (sif (mor (mtest (op2 fNe (mcall (D_law_refused A) (acons (mvar 0) (acons (mvar 1) (acons (op2 fCat (mvar 2) (mfreeze (mshort (acons (mret (D.int 0)) anil)))) (acons (mret (D.int 0)) (acons (mret (D.int 2)) anil)))))) (mret (D.int 2)))) (mtest (op2 fNe (mcall (D_law_refused A) (acons (mvar 0) (acons (mvar 1) (acons (mvar 2) (acons (mvar 4) (acons (mret (D.int 2)) anil)))))) (mret (D.int 2))))) (sret (mret (D.bl false))) sskip)
def pRB (A : CA) : MS := (sseq (sif (mor (mtest (op2 fNe (mcall (D_law_refused A) (acons (mvar 0) (acons (mvar 1) (acons (mvar 2) (acons (mvar 4) (acons (mvar 5) anil)))))) (mret (D.int 2)))) (mtest (op2 fNe (mcall (D_law_refused A) (acons (mvar 0) (acons (mvar 1) (acons (mvar 2) (acons (op2 fSub (mret (D.int 0)) (mret (D.int 1))) (acons (mvar 5) anil)))))) (mret (D.int 2))))) (sret (mret (D.bl false))) sskip)
    (sif (mor (mtest (op2 fNe (mcall (D_law_refused A) (acons (mvar 0) (acons (mvar 1) (acons (op2 fCat (mfreeze (mshort (acons (mret D.non) anil))) (mfreeze (mcut (mvar 2) (osome (mret (D.int 1))) onone))) (acons (mvar 4) (acons (mvar 5) anil)))))) (mret (D.int 1)))) (mtest (op2 fNe (mcall (D_law_refused A) (acons (mfreeze (mshort anil)) (acons (mvar 1) (acons (mvar 2) (acons (mvar 3) (acons (mvar 5) anil)))))) (mret (D.int 1))))) (sret (mret (D.bl false))) sskip))
def pR3 (A : CA) : MS := (sfor (mbind (acons (mret (D.int 3)) anil) fun x => mlift (rng1 x)) (gset 5) (pRB A))
def pR4 (A : CA) : MS := (sif (mor (mtest (op2 fNe (mcall (D_law_refused A) (acons (mvar 0) (acons (op2 fSub (mret (D.int 0)) (mret (D.int 1))) (acons (mvar 2) (acons (mvar 3) (acons (mret (D.int 0)) anil)))))) (mret (D.int 2)))) (mtest (op2 fNe (mcall (D_law_refused A) (acons (mvar 0) (acons (mret (D.bl true)) (acons (mvar 2) (acons (mvar 4) (acons (mret (D.int 0)) anil)))))) (mret (D.int 1))))) (sret (mret (D.bl false))) sskip)
def pR5 (A : CA) : MS := (sif (mor (mtest (op2 fNe (mcall (D_law_refused A) (acons (mvar 0) (acons (op2 fAdd (op2 fPow (mret (D.int 10)) (mret (D.int 40))) (mret (D.int 1))) (acons (mvar 2) (acons (mvar 3) (acons (mret (D.int 0)) anil)))))) (mret (D.int 4)))) (mtest (op2 fNe (mcall (D_law_refused A) (acons (mvar 0) (acons (op2 fPow (mret (D.int 10)) (mret (D.int 40))) (acons (mvar 2) (acons (mvar 3) (acons (mret (D.int 0)) anil)))))) (mret (D.int 0))))) (sret (mret (D.bl false))) sskip)
def pR6 (A : CA) : MS := (sret (op2 fEq (mcall (D_law_refused A) (acons (mvar 0) (acons (mvar 1) (acons (opn fStr (acons (mvar 1) anil)) (acons (mvar 3) (acons (mret (D.int 0)) anil)))))) (mret (D.int 1))))
def pRs (A : CA) : MS := sseq (pR1 A) (sseq (pR2 A) (sseq (pR3 A) (sseq (pR4 A) (sseq (pR5 A) (pR6 A)))))
theorem pRs_is (A : CA) : dn_law_refusals A = pRs A := rfl
section
variable (A : CA) {wb : Wb}
abbrev SR (wb : Wb) (k i : Int) (r : List Int) (o : Option L) : Den.Loc := [some (.dat (insW A wb)), some (.dat (.int k)), some (.dat (dI r)), some (.dat (.int i)), some (.dat (.int wb.marks.length)), o]
theorem cat0 (r : List Int) (h : r.length + 1 ≤ 1000) : fCat (dI r) (.lst [.int 0]) = some (dI (r ++ [0])) := by
  show (if (r.map D.int).length + 1 ≤ 1000 then some (D.lst (r.map D.int ++ [.int 0])) else none) = _
  rw [List.length_map, if_pos h]
  simp [dI]
theorem refusals_ev (V : Valid wb) {k i : Int} {f s : List Int} {mk : Int} (h : Here wb i f s mk) {r : List Int} (hr : r.length = wb.marks.length) (hk0 : 0 ≤ k) (hk6 : k ≤ 6) (p : List Int) : D_law_refusals A [insW A wb, .int k, dI r, .int i, .int wb.marks.length] p = .ok (.bl true) p := by
  have n1 := V.n1
  have n2 := V.n2
  have h0 := h.h0
  have h1 := h.h1
  have sq : ∀ r : List Int, seqOf (dI r) = some (r.map .int) := fun r => rfl
  have l1 : (r ++ [0]).length = r.length + 1 := by simp
  obtain ⟨t, ht⟩ : ∃ t, t = r.drop 1 := ⟨_, rfl⟩
  have l2 : t.length = r.length - 1 := by simp [ht]
  have F1 : D_law_refused A [insW A wb, .int k, dI (r ++ [0]), .int i, .int 0] p = .ok (.int 2) p := ref_price_err A (c := 1) (by decide) (price_bad A (sq _) (by omega) k i p (by omega))
  have F2 : D_law_refused A [insW A wb, .int k, dI t, .int 0, .int 1] p = .ok (.int 2) p := ref_low_err A (c := 1) (by decide) (low_err A (steps_bad A (sq _) (by omega) 0 p (by omega)))
  have F3 : D_law_refused A [insW A wb, .int k, dI (r ++ [0]), .int 0, .int 2] p = .ok (.int 2) p := ref_high_err A (c := 1) (by decide) (high_err A (steps_bad A (sq _) (by omega) 0 p (by omega)))
  have F4 : ∀ W : Int, W = 0 ∨ W = 1 ∨ W = 2 → D_law_refused A [insW A wb, .int k, dI r, .int wb.marks.length, .int W] p = .ok (.int 2) p := ref_any A (c := 1) (by decide) (steps_bad A (sq _) (by omega) _ p (by omega)) (price_bad A (sq _) (by omega) k _ p (by omega))
  have F5 : ∀ W : Int, W = 0 ∨ W = 1 ∨ W = 2 → D_law_refused A [insW A wb, .int k, dI r, .int (-1), .int W] p = .ok (.int 2) p := ref_any A (c := 1) (by decide) (steps_bad A (sq _) (by omega) _ p (by omega)) (price_bad A (sq _) (by omega) k _ p (by omega))
  have F6 : ∀ W : Int, W = 0 ∨ W = 1 ∨ W = 2 → D_law_refused A [insW A wb, .int k, .lst (.non :: t.map .int), .int wb.marks.length, .int W] p = .ok (.int 1) p := by
    have e := row_none (t.map .int) (by rw [List.length_map]; omega) p
    exact ref_any A (c := 0) (by decide) (steps_at_row A wb _ e) (price_row A wb k _ e)
  have F7 : ∀ W : Int, W = 0 ∨ W = 1 ∨ W = 2 → D_law_refused A [.lst [], .int k, dI r, .int i, .int W] p = .ok (.int 1) p := ref_any A (c := 0) (by decide) (steps_at_web A _ _ _ p) (price_web A _ _ _ _ p)
  have F8 : D_law_refused A [insW A wb, .int (-1), dI r, .int i, .int 0] p = .ok (.int 2) p := ref_price_err A (c := 1) (by decide) (price_bad A (sq _) (by omega) (-1) i p (by omega))
  have F9 : D_law_refused A [insW A wb, .bl true, dI r, .int wb.marks.length, .int 0] p = .ok (.int 1) p := ref_price_err A (c := 0) (by decide) (price_true A wb _ _ p)
  have F10 : D_law_refused A [insW A wb, .int 10000000000000000000000000000000000000001, dI r, .int i, .int 0] p = .ok (.int 4) p := ref_price_err A (c := 3) (by decide) (by
    rw [price_ev A wb (sq r) (by omega)]
    rw [if_pos (by decide), if_pos (by omega), if_pos (by omega), if_neg (by decide)])
  have F11 : D_law_refused A [insW A wb, .int 10000000000000000000000000000000000000000, dI r, .int i, .int 0] p = .ok (.int 0) p := by
    have e := price_ev A wb (sq r) (by omega) 10000000000000000000000000000000000000000 i p
    rw [if_pos (by decide), if_pos (by omega), if_pos (by omega), if_pos (by decide)] at e
    by_cases hf : f = []
    · subst hf
      exact ref_price_ok A (e.trans (price_of_end A h _ _ p))
    · obtain ⟨x, y, e2, _, _⟩ := price_of_ev V A h hf (.inl rfl) hr 10000000000000000000000000000000000000000 p
      exact ref_price_ok A (e.trans e2)
  have F12 : ∀ s : Str, D_law_refused A [insW A wb, .int k, .str s, .int i, .int 0] p = .ok (.int 1) p := fun s => ref_price_err A (c := 0) (by decide) (price_row A wb k i (row_str s p))
  have C0 := cat0 r (by omega)
  have C1 : ∀ o, mcut (mvar 2) (osome (mret (D.int 1))) onone (SR A wb k i r o) p = .ok (t.map .int) p := fun o => by
    simp [mcut, osome, onone, mvar, intOf, cut1, List.map_drop, ht]
  have C2 : fCat (.lst [.non]) (.lst (t.map .int)) = some (.lst (.non :: t.map .int)) := by
    show (if 1 + (t.map D.int).length ≤ 1000 then _ else _) = _
    rw [if_pos (by rw [List.length_map]; omega)]
    rfl
  have e2 : D.lst (t.map D.int) = dI t := rfl
  have S1 : ∀ o, pR1 A (SR A wb k i r o) p = .nx (SR A wb k i r o) p := fun o => by
    have C1 := C1 o
    simp [pR1, C1, mvar, C0, F1, e2, F2]
  have S2 : ∀ o, pR2 A (SR A wb k i r o) p = .nx (SR A wb k i r o) p := fun o => by
    simp [pR2, mvar, C0, F3, F4]
  have SB : ∀ W : Int, W = 0 ∨ W = 1 ∨ W = 2 → pRB A (SR A wb k i r (some (.dat (.int W)))) p = .nx (SR A wb k i r (some (.dat (.int W)))) p := fun W hW => by
    have C1 := C1 (some (.dat (.int W)))
    simp [pRB, C1, mvar, C2, F4 W hW, F5 W hW, F6 W hW, F7 W hW]
  have S3 : ∀ o, ∃ o', pR3 A (SR A wb k i r o) p = .nx (SR A wb k i r o') p := fun o => by
    refine ⟨some (.dat (.int 2)), ?_⟩
    have hr3 : rng1 [D.int 3] = some [.int 0, .int 1, .int 2] := rng1_int (by decide)
    unfold pR3
    rw [sfor_ev]
    simp only [mbind_ev, acons_ev, mret_ev, bind_ok, anil_ev, hr3, mlift_some, toO_ok]
    refine (loop_cons (lset_lt 5 _ _ (by simp)) (SB 0 (.inl rfl))).trans ?_
    refine (loop_cons (lset_lt 5 _ _ (by simp)) (SB 1 (.inr (.inl rfl)))).trans ?_
    exact (loop_cons (lset_lt 5 _ _ (by simp)) (SB 2 (.inr (.inr rfl)))).trans rfl
  have S4 : ∀ o, pR4 A (SR A wb k i r o) p = .nx (SR A wb k i r o) p := fun o => by
    simp [pR4, mvar, F8, F9]
  have S5 : ∀ o, pR5 A (SR A wb k i r o) p = .nx (SR A wb k i r o) p := fun o => by
    simp [pR5, mvar, fPow_1040, F10, F11]
  have S6 : ∀ o, pR6 A (SR A wb k i r o) p = .rt (.bl true) p := fun o => by
    have hs : fStr [.int k] = some (.str (toString k : String)) := by
      show (if k.natAbs.log2 < 1920 then _ else _) = _
      have := Nat.log2_le_self k.natAbs
      rw [if_pos (by omega)]
    simp [pR6, mvar, hs, F12]
  refine (denF_ev (n := 5) (m := 6) (s := dn_law_refusals A) rfl).trans ?_
  refine (congrArg outR ?_).trans (outR_rt _ p)
  rw [pRs_is]
  obtain ⟨o', S3⟩ := S3 none
  exact (seq_nx (S1 none)).trans ((seq_nx (S2 none)).trans ((seq_nx S3).trans ((seq_nx (S4 o')).trans ((seq_nx (S5 o')).trans (S6 o')))))
end
end PL

namespace PL
open PySem L2 Den
/-- what serves, told by the least and the greatest part -/
def Gd (mk x y P a q : Int) : Prop := if q < a ∨ (a = q ∧ mk = 1) then x ≤ P - a else y ≤ P + q
instance (mk x y P a q : Int) : Decidable (Gd mk x y P a q) := by unfold Gd; exact inferInstance
section
variable {wb : Wb} {i : Int} {f s : List Int} {mk : Int}
theorem filt_pos (r : List Int) {f : List Int} {x z : Int} (hx : IsLow r f x) : (0 : Int) < (((f.filter fun st => decide (rowAt r st ≤ z)).map D.int).length : Int) ↔ x ≤ z := by
  rw [List.length_map]
  constructor
  · intro h
    cases e : f.filter fun st => decide (rowAt r st ≤ z) with
    | nil => rw [e] at h; simp at h
    | cons a t =>
      have : a ∈ f.filter fun st => decide (rowAt r st ≤ z) := by rw [e]; exact List.mem_cons_self
      obtain ⟨h1, h2⟩ := List.mem_filter.mp this
      have := hx.2 a h1
      have := of_decide_eq_true h2
      omega
  · intro h
    obtain ⟨st, h1, h2⟩ := hx.1
    have : st ∈ f.filter fun st => decide (rowAt r st ≤ z) := List.mem_filter.mpr ⟨h1, decide_eq_true (by omega)⟩
    have := List.length_pos_of_mem this
    omega
theorem filt_none (r : List Int) {s : List Int} {y z : Int} (hy : IsHigh r s y) : (((s.filter fun st => decide (z < rowAt r st)).map D.int).length : Int) = 0 ↔ y ≤ z := by
  rw [List.length_map]
  constructor
  · intro h
    obtain ⟨st, h1, h2⟩ := hy.1
    have e : s.filter (fun st => decide (z < rowAt r st)) = [] := List.eq_nil_of_length_eq_zero (by omega)
    have := List.filter_eq_nil_iff.mp e st h1
    have : ¬ z < rowAt r st := fun h' => this (decide_eq_true h')
    omega
  · intro h
    have e : s.filter (fun st => decide (z < rowAt r st)) = [] := List.filter_eq_nil_iff.mpr fun st hst hd => by
      have := hy.2 st hst
      have := of_decide_eq_true hd
      omega
    rw [e]; rfl
theorem good_ev (V : Valid wb) (h : Here wb i f s mk) {r : List Int} (hl : r.length = wb.marks.length) {x y : Int} (hx : IsLow r f x) (hy : IsHigh r s y) (P a q : Int) (p : List Int) : D_law_good [.lst (encW wb), dI r, .int i, .int P, .int a, .int q] p = .ok (.bl (decide (Gd mk x y P a q))) p := by
  have i0 : fIx (.lst (encW wb)) (.int 0) = some (.lst (wb.first.map dI)) := by simp [encW]
  have i1 : fIx (.lst (encW wb)) (.int 1) = some (.lst (wb.second.map dI)) := by simp [encW]
  have i2 : fIx (.lst (encW wb)) (.int 2) = some (dI wb.marks) := by simp [encW]
  have hf60 := (V.s1 f (List.mem_of_getElem? h.hf)).1
  have hs60 := (V.s2 s (List.mem_of_getElem? h.hs)).1
  have c1 : mcomp (mbind (op2 fIx (op2 fIx (mvar 0) (mret (D.int 0))) (mvar 2)) fun x => mlift (lstOf x)) 6 (mtest (op2 fGe (op2 fSub (mvar 3) (mvar 4)) (op2 fIx (mvar 1) (mvar 6)))) (mvar 6) [some (.dat (.lst (encW wb))), some (.dat (dI r)), some (.dat (.int i)), some (.dat (.int P)), some (.dat (.int a)), some (.dat (.int q)), none] p = .ok ((f.filter fun st => decide (rowAt r st ≤ P - a)).map D.int) p := by
    rw [mcomp_ev (ds := f.map D.int) (p' := p) (by simp [mvar, i0, h.f2]) (by rw [List.length_map]; omega)]
    refine comp_filterL (by simp) D.int _ (fun st hst => ?_) fun st hst => ?_
    · have := h.fin V st hst
      simp [mvar, row_at this.1 (show st < (r.length : Int) by rw [hl]; exact this.2)]
    · simp [mvar]
  have c2 : mcomp (mbind (op2 fIx (op2 fIx (mvar 0) (mret (D.int 1))) (mvar 2)) fun x => mlift (lstOf x)) 6 (mtest (op2 fLt (op2 fAdd (mvar 3) (mvar 5)) (op2 fIx (mvar 1) (mvar 6)))) (mvar 6) [some (.dat (.lst (encW wb))), some (.dat (dI r)), some (.dat (.int i)), some (.dat (.int P)), some (.dat (.int a)), some (.dat (.int q)), none] p = .ok ((s.filter fun st => decide (P + q < rowAt r st)).map D.int) p := by
    rw [mcomp_ev (ds := s.map D.int) (p' := p) (by simp [mvar, i1, h.s2]) (by rw [List.length_map]; omega)]
    refine comp_filterL (by simp) D.int _ (fun st hst => ?_) fun st hst => ?_
    · have := h.sin V st hst
      simp [mvar, row_at this.1 (show st < (r.length : Int) by rw [hl]; exact this.2)]
    · simp [mvar]
  have e1 := filt_pos r (z := P - a) hx
  have e2 := filt_none r (z := P + q) hy
  generalize hF : (f.filter fun st => decide (rowAt r st ≤ P - a)).map D.int = F at c1 e1
  generalize hS : (s.filter fun st => decide (P + q < rowAt r st)).map D.int = S at c2 e2
  have m1 := h.m1
  by_cases h1 : q < a
  · have hc : (q < a ∨ a = q ∧ mk = 1) := .inl h1
    rw [show decide (Gd mk x y P a q) = decide ((0 : Int) < (F.length : Int)) from decide_eq_decide.mpr (by unfold Gd; rw [if_pos hc]; exact e1.symm)]
    simp [D_law_good, denF, dn_law_good, locOf, c1, mvar, h1]
  · by_cases h2 : a = q
    · by_cases h3 : mk = 1
      · have hc : (q < a ∨ a = q ∧ mk = 1) := .inr ⟨h2, h3⟩
        rw [show decide (Gd mk x y P a q) = decide ((0 : Int) < (F.length : Int)) from decide_eq_decide.mpr (by unfold Gd; rw [if_pos hc]; exact e1.symm)]
        simp [D_law_good, denF, dn_law_good, locOf, c1, mvar, eq_false h1, eq_true h2, i2, m1, h3]
      · have hc : ¬ (q < a ∨ a = q ∧ mk = 1) := fun z => z.elim h1 fun z => h3 z.2
        rw [show decide (Gd mk x y P a q) = decide ((S.length : Int) = 0) from decide_eq_decide.mpr (by unfold Gd; rw [if_neg hc]; exact e2.symm)]
        simp [D_law_good, denF, dn_law_good, locOf, c2, mvar, eq_false h1, eq_true h2, i2, m1, h3]
    · have hc : ¬ (q < a ∨ a = q ∧ mk = 1) := fun z => z.elim h1 fun z => h2 z.1
      rw [show decide (Gd mk x y P a q) = decide ((S.length : Int) = 0) from decide_eq_decide.mpr (by unfold Gd; rw [if_neg hc]; exact e2.symm)]
      simp [D_law_good, denF, dn_law_good, locOf, c2, mvar, eq_false h1, eq_false h2]
end
/-! the least purse that serves -/
def Serves (mk x y k P : Int) : Prop := ∃ a, 0 ≤ a ∧ a ≤ P ∧ ∀ q, 0 ≤ q → q ≤ k - P → Gd mk x y P a q
theorem serves_iff {mk x y k P : Int} (hm : mk = 1 ∨ mk = 2) (hx0 : 0 ≤ x) (hy0 : 0 ≤ y) (hxk : x ≤ k + 1) (hyk : y ≤ k + 1) (h0 : 0 ≤ P) (hk : P ≤ k) : Serves mk x y k P ↔ halfI mk x y ≤ P := by
  unfold Serves halfI Gd
  rcases hm with rfl | rfl
  · constructor
    · rintro ⟨a, a0, a1, hq⟩
      have q0 := hq 0 (by omega) (by omega)
      rw [if_pos (by omega)] at q0
      by_cases hb : a + 1 ≤ k - P
      · have q1 := hq (a + 1) (by omega) hb
        rw [if_neg (by omega)] at q1
        simp only [if_true]
        split <;> omega
      · simp only [if_true]
        split <;> omega
    · intro h
      simp only [if_true] at h
      refine ⟨P - x, ?_, by omega, fun q q0 q1 => ?_⟩
      · split at h <;> omega
      · split
        · omega
        · split at h <;> omega
  · constructor
    · rintro ⟨a, a0, a1, hq⟩
      have q0 := hq 0 (by omega) (by omega)
      rw [if_neg (by decide)]
      by_cases ha : a = 0
      · rw [if_neg (by omega)] at q0
        split <;> omega
      · rw [if_pos (by omega)] at q0
        by_cases hb : a ≤ k - P
        · have q1 := hq a (by omega) hb
          rw [if_neg (by omega)] at q1
          split <;> omega
        · split <;> omega
    · intro h
      rw [if_neg (by decide)] at h
      by_cases hxy : y ≤ x
      · refine ⟨0, by omega, h0, fun q q0 q1 => ?_⟩
        split
        · omega
        · split at h <;> omega
      · refine ⟨P - x, ?_, by omega, fun q q0 q1 => ?_⟩
        · split at h <;> omega
        · split
          · omega
          · split at h <;> omega
theorem half_bounds {mk x y k : Int} (hx0 : 0 ≤ x) (hy0 : 0 ≤ y) (hxk : x ≤ k + 1) (hyk : y ≤ k + 1) : 0 ≤ halfI mk x y ∧ halfI mk x y ≤ k + 1 := by
  unfold halfI
  split <;> split <;> omega
theorem half_moved (mk x y c : Int) : halfI mk (x + c) (y + c) = halfI mk x y + c := by
  unfold halfI
  split <;> split <;> split <;> omega
end PL

namespace PL
open PySem L2 Den
/-- a loop whose turns hand back, or go on -/
theorem loop_or {tg : D → Den.Loc → Option Den.Loc} {body : MS} {p : List Int} (I : Den.Loc → Prop) (T : D → Prop) (g : D → D) : ∀ {ds : List D} {l : Den.Loc}, I l →
    (∀ d ∈ ds, ∀ l, I l → ∃ l1, tg d l = some l1 ∧ ((∃ l2, body l1 p = .nx l2 p ∧ I l2 ∧ ¬ T d) ∨ (body l1 p = .rt (g d) p ∧ T d))) →
    (∃ l', loop tg body ds l p = .nx l' p ∧ I l' ∧ ∀ d ∈ ds, ¬ T d) ∨ (∃ (i : Nat) (d : D), ds[i]? = some d ∧ loop tg body ds l p = .rt (g d) p ∧ T d ∧ ∀ (j : Nat) d', j < i → ds[j]? = some d' → ¬ T d')
  | [], l, hl, _ => .inl ⟨l, rfl, hl, fun _ h => nomatch h⟩
  | d :: ds, l, hl, h => by
    obtain ⟨l1, e1, h1⟩ := h d List.mem_cons_self l hl
    rcases h1 with ⟨l2, e2, i2, n2⟩ | ⟨e2, t2⟩
    · rcases loop_or I T g (ds := ds) i2 fun d' hd => h d' (List.mem_cons_of_mem _ hd) with ⟨l', e3, i3, n3⟩ | ⟨i, d', hd, e3, t3, n3⟩
      · refine .inl ⟨l', (loop_cons e1 e2).trans e3, i3, fun d' hd => ?_⟩
        rcases List.mem_cons.mp hd with rfl | hd
        · exact n2
        · exact n3 d' hd
      · refine .inr ⟨i + 1, d', hd, (loop_cons e1 e2).trans e3, t3, fun j d'' hj hd'' => ?_⟩
        cases j with
        | zero =>
          have : d = d'' := by simpa using hd''
          rw [← this]; exact n2
        | succ j => exact n3 j d'' (by omega) (by simpa using hd'')
    · refine .inr ⟨0, d, rfl, ?_, t2, fun j d' hj => absurd hj (Nat.not_lt_zero j)⟩
      unfold loop
      rw [e1]
      simp only [e2]
def pIn : MS := (sseq (sasg (mfreeze (mcomp (mbind (acons (op2 fAdd (op2 fSub (mvar 1) (mvar 4)) (mret (D.int 1))) anil) fun x => mlift (rng1 x)) 7 (mnot (mtru (mcall D_law_good (acons (mvar 0) (acons (mvar 2) (acons (mvar 3) (acons (mvar 4) (acons (mvar 5) (acons (mvar 7) anil))))))))) (mvar 7))) (gset 6))
    (sif (mtest (op2 fEq (opn fLen (acons (mvar 6) anil)) (mret (D.int 0)))) (sret (mvar 4)) sskip))
def pMid : MS := (sfor (mbind (acons (op2 fAdd (mvar 4) (mret (D.int 1))) anil) fun x => mlift (rng1 x)) (gset 5) pIn)
def pOut : MS := (sfor (mbind (acons (op2 fAdd (mvar 1) (mret (D.int 1))) anil) fun x => mlift (rng1 x)) (gset 4) pMid)
def pLeast : MS := (sseq (sif (mtest (op2 fGt (opn fLen (acons (op2 fIx (op2 fIx (mvar 0) (mret (D.int 0))) (mvar 3)) anil)) (mret (D.int 0)))) pOut sskip)
    (sret (op2 fAdd (mvar 1) (mret (D.int 1)))))
theorem pLeast_is : dn_law_least = pLeast := rfl
section
variable {wb : Wb} {i : Int} {f s : List Int} {mk : Int}
abbrev SL (wb : Wb) (k i : Int) (r : List Int) (o4 o5 o6 o7 : Option L) : Den.Loc := [some (.dat (.lst (encW wb))), some (.dat (.int k)), some (.dat (dI r)), some (.dat (.int i)), o4, o5, o6, o7]
theorem in_ev (V : Valid wb) (h : Here wb i f s mk) {r : List Int} (hl : r.length = wb.marks.length) {x y : Int} (hx : IsLow r f x) (hy : IsHigh r s y) {k P a : Int} (hk : k ≤ 900) (h0 : 0 ≤ P) (hP : P ≤ k) (o6 o7 : Option L) (p : List Int) :
    (∃ o6', pIn (SL wb k i r (some (.dat (.int P))) (some (.dat (.int a))) o6 o7) p = .nx (SL wb k i r (some (.dat (.int P))) (some (.dat (.int a))) o6' o7) p ∧ ¬ ∀ q, 0 ≤ q → q ≤ k - P → Gd mk x y P a q) ∨
    (pIn (SL wb k i r (some (.dat (.int P))) (some (.dat (.int a))) o6 o7) p = .rt (.int P) p ∧ ∀ q, 0 ≤ q → q ≤ k - P → Gd mk x y P a q) := by
  have hr : rng1 [D.int (k - P + 1)] = some (rngD 0 (k - P + 1).toNat) := rng1_int (by omega)
  have c1 : mcomp (mbind (acons (op2 fAdd (op2 fSub (mvar 1) (mvar 4)) (mret (D.int 1))) anil) fun x => mlift (rng1 x)) 7 (mnot (mtru (mcall D_law_good (acons (mvar 0) (acons (mvar 2) (acons (mvar 3) (acons (mvar 4) (acons (mvar 5) (acons (mvar 7) anil))))))))) (mvar 7) (SL wb k i r (some (.dat (.int P))) (some (.dat (.int a))) o6 o7) p = .ok (((List.range (k - P + 1).toNat).filter fun (j : Nat) => !decide (Gd mk x y P a (0 + (j : Int)))).map fun (j : Nat) => D.int (0 + (j : Int))) p := by
    rw [mcomp_ev (ds := rngD 0 (k - P + 1).toNat) (p' := p) (by simp only [mbind_ev, acons_ev, op2_ev, mvar, mret_ev, List.getElem?_cons_succ, List.getElem?_cons_zero, bind_ok, anil_ev, fSub_int, fAdd_int, mlift_some, hr]) (by rw [rngD_len]; omega)]
    refine comp_filterL (by simp) (fun (j : Nat) => D.int (0 + (j : Int))) _ (fun j _ => ?_) fun j _ => ?_
    · have := good_ev V h hl hx hy P a (0 + (j : Int)) p
      rw [mnot_ev, mtru_ev, mcall_ev]
      simp only [acons_ev, mvar, List.set_cons_succ, List.set_cons_zero, List.getElem?_cons_succ, List.getElem?_cons_zero, bind_ok, anil_ev, this, truOf_bl, mlift_some]
    · simp [mvar]
  generalize hB : ((List.range (k - P + 1).toNat).filter fun (j : Nat) => !decide (Gd mk x y P a (0 + (j : Int)))) = B at c1
  have hmem : ∀ j : Nat, j ∈ B ↔ j < (k - P + 1).toNat ∧ ¬ Gd mk x y P a (0 + (j : Int)) := fun j => by
    rw [← hB, List.mem_filter, List.mem_range]
    simp
  have hrun : ∀ R : MS, sseq (sasg (mfreeze (mcomp (mbind (acons (op2 fAdd (op2 fSub (mvar 1) (mvar 4)) (mret (D.int 1))) anil) fun x => mlift (rng1 x)) 7 (mnot (mtru (mcall D_law_good (acons (mvar 0) (acons (mvar 2) (acons (mvar 3) (acons (mvar 4) (acons (mvar 5) (acons (mvar 7) anil))))))))) (mvar 7))) (gset 6)) R (SL wb k i r (some (.dat (.int P))) (some (.dat (.int a))) o6 o7) p = R (SL wb k i r (some (.dat (.int P))) (some (.dat (.int a))) (some (.dat (.lst (B.map fun (j : Nat) => D.int (0 + (j : Int)))))) o7) p := fun R => by
    refine seq_nx ?_
    rw [sasg_ev, mfreeze_ev, c1]
    rfl
  cases B with
  | nil =>
    refine .inr ⟨?_, fun q q0 q1 => ?_⟩
    · unfold pIn
      rw [hrun]
      simp [mvar]
    · refine Classical.byContradiction fun hn => ?_
      have := (hmem q.toNat).mpr ⟨by omega, by rw [show (0 : Int) + (q.toNat : Int) = q by omega]; exact hn⟩
      cases this
  | cons b B =>
    refine .inl ⟨some (.dat (.lst ((b :: B).map fun (j : Nat) => D.int (0 + (j : Int))))), ?_, fun hall => ?_⟩
    · unfold pIn
      rw [hrun]
      have : ((B.length : Int) + 1 = 0) = False := eq_false (by omega)
      simp [mvar, this]
    · obtain ⟨h1, h2⟩ := (hmem b).mp List.mem_cons_self
      exact h2 (hall _ (by omega) (by omega))
theorem mid_ev (V : Valid wb) (h : Here wb i f s mk) {r : List Int} (hl : r.length = wb.marks.length) {x y : Int} (hx : IsLow r f x) (hy : IsHigh r s y) {k P : Int} (hk : k ≤ 900) (h0 : 0 ≤ P) (hP : P ≤ k) (o5 o6 o7 : Option L) (p : List Int) :
    (∃ o5' o6', pMid (SL wb k i r (some (.dat (.int P))) o5 o6 o7) p = .nx (SL wb k i r (some (.dat (.int P))) o5' o6' o7) p ∧ ¬ Serves mk x y k P) ∨
    (pMid (SL wb k i r (some (.dat (.int P))) o5 o6 o7) p = .rt (.int P) p ∧ Serves mk x y k P) := by
  have hr : rng1 [D.int (P + 1)] = some (rngD 0 (P + 1).toNat) := rng1_int (by omega)
  have e0 : pMid (SL wb k i r (some (.dat (.int P))) o5 o6 o7) p = loop (gset 5) pIn (rngD 0 (P + 1).toNat) (SL wb k i r (some (.dat (.int P))) o5 o6 o7) p := by
    unfold pMid
    rw [sfor_ev]
    simp only [mbind_ev, acons_ev, op2_ev, mvar, mret_ev, List.getElem?_cons_succ, List.getElem?_cons_zero, bind_ok, anil_ev, fAdd_int, mlift_some, hr, toO_ok]
  rw [e0]
  rcases loop_or (tg := gset 5) (body := pIn) (p := p) (fun l => ∃ o5 o6, l = SL wb k i r (some (.dat (.int P))) o5 o6 o7) (fun d => ∃ a : Int, d = .int a ∧ ∀ q, 0 ≤ q → q ≤ k - P → Gd mk x y P a q) (fun _ => .int P) (ds := rngD 0 (P + 1).toNat) (l := SL wb k i r (some (.dat (.int P))) o5 o6 o7) ⟨_, _, rfl⟩ (fun d hd l hI => by
      obtain ⟨o5, o6, rfl⟩ := hI
      obtain ⟨j, hj, rfl⟩ := rngD_mem hd
      refine ⟨_, lset_lt 5 _ _ (by simp), ?_⟩
      rcases in_ev V h hl hx hy (a := 0 + (j : Int)) hk h0 hP o6 o7 p with ⟨o6', e1, n1⟩ | ⟨e1, t1⟩
      · exact .inl ⟨_, e1, ⟨_, _, rfl⟩, fun ⟨a, ea, ha⟩ => n1 (by cases ea; exact ha)⟩
      · exact .inr ⟨e1, _, rfl, t1⟩) with ⟨l', e1, ⟨o5', o6', rfl⟩, n1⟩ | ⟨j, d, hd, e1, ⟨a, rfl, ha⟩, _⟩
  · refine .inl ⟨o5', o6', e1, fun ⟨a, a0, a1, ha⟩ => n1 (.int a) ?_ ⟨a, rfl, ha⟩⟩
    refine List.mem_map.mpr ⟨a.toNat, List.mem_range.mpr (by omega), ?_⟩
    rw [show (0 : Int) + (a.toNat : Int) = a by omega]
  · obtain ⟨hj, ej⟩ := rngD_get hd
    cases ej
    exact .inr ⟨e1, _, by omega, by omega, ha⟩
theorem least_ev (V : Valid wb) (h : Here wb i f s mk) (hne : f ≠ []) {r : List Int} (hl : r.length = wb.marks.length) {x y : Int} (hx : IsLow r f x) (hy : IsHigh r s y) {k : Int} (hk0 : 0 ≤ k) (hk : k ≤ 900) (hrow : ∀ v ∈ r, 0 ≤ v ∧ v ≤ k + 1) (p : List Int) : D_law_least [.lst (encW wb), .int k, dI r, .int i] p = .ok (.int (halfI mk x y)) p := by
  have i0 : fIx (.lst (encW wb)) (.int 0) = some (.lst (wb.first.map dI)) := by simp [encW]
  have rat : ∀ z : Int, 0 ≤ z → z < (r.length : Int) → 0 ≤ rowAt r z ∧ rowAt r z ≤ k + 1 := fun z z0 z1 => by
    have hz : z.toNat < r.length := by omega
    have : rowAt r z ∈ r := by
      unfold rowAt
      rw [List.getElem?_eq_getElem hz]
      exact List.getElem_mem hz
    exact hrow _ this
  have bx : 0 ≤ x ∧ x ≤ k + 1 := by
    obtain ⟨z, hz, ez⟩ := hx.1
    have := h.fin V z hz
    rw [← ez]; exact rat z this.1 (by omega)
  have by' : 0 ≤ y ∧ y ≤ k + 1 := by
    obtain ⟨z, hz, ez⟩ := hy.1
    have := h.sin V z hz
    rw [← ez]; exact rat z this.1 (by omega)
  have hm := h.mk2 V
  have sv : ∀ P, 0 ≤ P → P ≤ k → (Serves mk x y k P ↔ halfI mk x y ≤ P) := fun P => serves_iff hm bx.1 by'.1 bx.2 by'.2
  have hb := half_bounds (mk := mk) bx.1 by'.1 bx.2 by'.2
  have hr : rng1 [D.int (k + 1)] = some (rngD 0 (k + 1).toNat) := rng1_int (by omega)
  have e0 : pOut (SL wb k i r none none none none) p = loop (gset 4) pMid (rngD 0 (k + 1).toNat) (SL wb k i r none none none none) p := by
    unfold pOut
    rw [sfor_ev]
    simp only [mbind_ev, acons_ev, op2_ev, mvar, mret_ev, List.getElem?_cons_succ, List.getElem?_cons_zero, bind_ok, anil_ev, fAdd_int, mlift_some, hr, toO_ok]
  have hc : mtest (op2 fGt (opn fLen (acons (op2 fIx (op2 fIx (mvar 0) (mret (D.int 0))) (mvar 3)) anil)) (mret (D.int 0))) (SL wb k i r none none none none) p = .ok true p := by
    have : 0 < f.length := List.length_pos_iff.mpr hne
    simp [mvar, i0, h.f2]
    exact this
  refine (denF_ev (n := 4) (m := 8) (s := dn_law_least) rfl).trans ?_
  refine (congrArg outR ?_).trans (outR_rt _ p)
  rw [pLeast_is]
  unfold pLeast
  rw [show locOf 8 [D.lst (encW wb), D.int k, dI r, D.int i] = SL wb k i r none none none none from rfl]
  have key := loop_or (tg := gset 4) (body := pMid) (p := p) (fun l => ∃ o4 o5 o6, l = SL wb k i r o4 o5 o6 none) (fun d => ∃ P : Int, d = .int P ∧ Serves mk x y k P) (fun d => d) (ds := rngD 0 (k + 1).toNat) (l := SL wb k i r none none none none) ⟨_, _, _, rfl⟩ (fun d hd l hI => by
      obtain ⟨o4, o5, o6, rfl⟩ := hI
      obtain ⟨j, hj, rfl⟩ := rngD_mem hd
      refine ⟨_, lset_lt 4 _ _ (by simp), ?_⟩
      rcases mid_ev V h hl hx hy (P := 0 + (j : Int)) hk (by omega) (by omega) o5 o6 none p with ⟨o5', o6', e1, n1⟩ | ⟨e1, t1⟩
      · exact .inl ⟨_, e1, ⟨_, _, _, rfl⟩, fun ⟨a, ea, ha⟩ => n1 (by cases ea; exact ha)⟩
      · exact .inr ⟨e1, _, rfl, t1⟩)
  rcases key with ⟨l', e1, ⟨o4', o5', o6', rfl⟩, n1⟩ | ⟨j, d, hd, e1, ⟨P, rfl, hP⟩, hmin⟩
  · have hk1 : halfI mk x y = k + 1 := by
      refine Classical.byContradiction fun hn => ?_
      refine n1 (.int k) (List.mem_map.mpr ⟨k.toNat, List.mem_range.mpr (by omega), by rw [show (0 : Int) + (k.toNat : Int) = k by omega]⟩) ⟨k, rfl, (sv k hk0 (Int.le_refl k)).mpr (by omega)⟩
    refine (seq_nx ((sif_t hc).trans (e0.trans e1))).trans ?_
    rw [hk1]
    simp [mvar]
  · obtain ⟨hj, ej⟩ := rngD_get hd
    cases ej
    have h1 := (sv (0 + (j : Int)) (by omega) (by omega)).mp hP
    have h2 : halfI mk x y = 0 + (j : Int) := by
      refine Classical.byContradiction fun hn => ?_
      have hlt : (halfI mk x y).toNat < j := by omega
      refine hmin (halfI mk x y).toNat (.int (halfI mk x y)) hlt ?_ ⟨_, rfl, (sv _ hb.1 (by omega)).mpr (Int.le_refl _)⟩
      rw [show rngD 0 (k + 1).toNat = (List.range (k + 1).toNat).map fun (i : Nat) => D.int (0 + (i : Int)) from rfl, List.getElem?_map, List.getElem?_range (by omega)]
      show some (D.int (0 + ((halfI mk x y).toNat : Int))) = _
      rw [show (0 : Int) + ((halfI mk x y).toNat : Int) = halfI mk x y by omega]
    rw [sseq_ev, (sif_t hc).trans (e0.trans e1), h2]
    rfl
theorem least_end (h : Here wb i [] s mk) (r : List Int) (k : Int) (p : List Int) : D_law_least [.lst (encW wb), .int k, dI r, .int i] p = .ok (.int (k + 1)) p := by
  have i0 : fIx (.lst (encW wb)) (.int 0) = some (.lst (wb.first.map dI)) := by simp [encW]
  have f2 := h.f2
  simp [D_law_least, denF, dn_law_least, locOf, mvar, i0, f2]
end
end PL

namespace PL
open PySem L2 Den
theorem eqvAll_ints : ∀ ns : List Int, PyData.eqvAll (ns.map .int) (ns.map .int) = true
  | [] => by simp [PyData.eqvAll]
  | n :: ns => by simp [PyData.eqvAll, PyData.eqv, eqvAll_ints ns]
theorem pdL_ints (ns : List Int) : pdL (ns.map D.int) = some (ns.map .int) := by
  induction ns with
  | nil => rfl
  | cons n ns ih => simp [pdL, pd, ih]
theorem fEqD_self (r : List Int) : fEqD true (dI r) (dI r) = some (.bl false) := by
  have e : pd (dI r) = some (.list (r.map .int)) := by simp [dI, pd, pdL_ints]
  unfold fEqD
  rw [e]
  dsimp only
  rw [if_pos (by simp only [PyData.depth, depth_ints]; omega)]
  simp [PyData.eqv, eqvAll_ints]
section
variable (A : CA) {wb : Wb} {i : Int} {f s : List Int} {mk : Int}
/-- the shifted row -/
def moved (c : Int) (r : List Int) : List Int := r.map (· + c)
theorem moved_at (c : Int) (r : List Int) {z : Int} (h0 : 0 ≤ z) (h1 : z < (r.length : Int)) : rowAt (moved c r) z = rowAt r z + c := by
  have hz : z.toNat < r.length := by omega
  unfold rowAt moved
  rw [List.getElem?_map, List.getElem?_eq_getElem hz]
  rfl
theorem low_moved (V : Valid wb) (h : Here wb i f s mk) {r : List Int} (hl : r.length = wb.marks.length) (c : Int) {x y : Int} (h1 : IsLow r f x) (h2 : IsLow (moved c r) f y) : y = x + c := by
  have at' : ∀ z ∈ f, rowAt (moved c r) z = rowAt r z + c := fun z hz => by
    have := h.fin V z hz
    exact moved_at c r this.1 (by omega)
  obtain ⟨z, hz, ez⟩ := h1.1
  obtain ⟨u, hu, eu⟩ := h2.1
  have a1 := at' z hz
  have a2 := at' u hu
  have := h1.2 u hu
  have := h2.2 z hz
  omega
theorem high_moved (V : Valid wb) (h : Here wb i f s mk) {r : List Int} (hl : r.length = wb.marks.length) (c : Int) {x y : Int} (h1 : IsHigh r s x) (h2 : IsHigh (moved c r) s y) : y = x + c := by
  have at' : ∀ z ∈ s, rowAt (moved c r) z = rowAt r z + c := fun z hz => by
    have := h.sin V z hz
    exact moved_at c r this.1 (by omega)
  obtain ⟨z, hz, ez⟩ := h1.1
  obtain ⟨u, hu, eu⟩ := h2.1
  have a1 := at' z hz
  have a2 := at' u hu
  have := h1.2 u hu
  have := h2.2 z hz
  omega
theorem price_is (h : Here wb i f s mk) {rd : D} {r : List Int} (hr : IsRow rd r) (hl : r.length = wb.marks.length) (V : Valid wb) {k : Int} (k0 : 0 ≤ k) (k1 : k ≤ 900) (p : List Int) : D_price A [insW A wb, .int k, rd, .int i] p = D_price_of A [insW A wb, .int k, rd, .int i] p := by
  have n2 := V.n2
  have h0 := h.h0
  have h1 := h.h1
  rw [price_ev A wb hr.sq (by omega) k i p, if_pos k0, if_pos (by omega), if_pos (by omega), if_pos (by omega)]
theorem low_is (h : Here wb i f s mk) (hne : f ≠ []) {rd : D} {r : List Int} (hr : IsRow rd r) (hl : r.length = wb.marks.length) (V : Valid wb) (p : List Int) : ∃ v, D_low A [insW A wb, rd, .int i] p = .ok (.int v) p ∧ IsLow r f v := by
  have n2 := V.n2
  have h0 := h.h0
  have h1 := h.h1
  obtain ⟨v, e, hv⟩ := low_of_ev V A h hne hr hl p
  have e2 := steps_at_ev A wb hr.sq (by omega) i p
  rw [if_pos (by omega), if_pos (by omega), check_moving_ok A h hne p] at e2
  exact ⟨v, by simp [D_low, denF, dn_low, locOf, mvar, e2, e], hv⟩
theorem high_is (h : Here wb i f s mk) (hne : f ≠ []) (hns : s ≠ []) {rd : D} {r : List Int} (hr : IsRow rd r) (hl : r.length = wb.marks.length) (V : Valid wb) (p : List Int) : ∃ v, D_high A [insW A wb, rd, .int i] p = .ok (.int v) p ∧ IsHigh r s v := by
  have n2 := V.n2
  have h0 := h.h0
  have h1 := h.h1
  obtain ⟨v, e, hv⟩ := high_of_ev V A h hns hr hl p
  have e2 := steps_at_ev A wb hr.sq (by omega) i p
  rw [if_pos (by omega), if_pos (by omega), check_moving_ok A h hne p] at e2
  exact ⟨v, by simp [D_high, denF, dn_high, locOf, mvar, e2, e], hv⟩
theorem end_no (h : Here wb i [] s mk) {rd : D} {r : List Int} (hr : IsRow rd r) (hl : r.length = wb.marks.length) (V : Valid wb) (p : List Int) : D_check_steps_at A [insW A wb, rd, .int i] p = .err 2 p := by
  have n2 := V.n2
  have h0 := h.h0
  have h1 := h.h1
  have e2 := steps_at_ev A wb hr.sq (by omega) i p
  rw [if_pos (by omega), if_pos (by omega), check_moving_no A h p] at e2
  exact e2
end
theorem drawn_ints {k : Int} : ∀ ys : List D, (∀ y ∈ ys, ∃ m : Int, y = .int m ∧ 0 ≤ m ∧ m ≤ k) → ∃ r : List Int, ys = r.map .int ∧ ∀ v ∈ r, 0 ≤ v ∧ v ≤ k
  | [], _ => ⟨[], rfl, fun _ h => nomatch h⟩
  | y :: ys, h => by
    obtain ⟨m, rfl, hm⟩ := h y List.mem_cons_self
    obtain ⟨r, rfl, hr⟩ := drawn_ints ys fun z hz => h z (List.mem_cons_of_mem _ hz)
    exact ⟨m :: r, rfl, fun v hv => by
      rcases List.mem_cons.mp hv with rfl | hv
      · exact hm
      · exact hr v hv⟩
end PL

namespace PL
open PySem L2 Den
noncomputable section
def uT1 (A : CA) : MS := (sasg (mcall (D_price A) (acons (mvar 10) (acons (mvar 4) (acons (mvar 11) (acons (mvar 6) anil))))) (gset 12))
def uT2 (A : CA) : MS := (sif (mor (mnot (mtru (mcall D_is_integer (acons (mvar 12) anil)))) (mtest (op2 fNe (mvar 12) (mcall D_law_least (acons (mvar 2) (acons (mvar 4) (acons (mvar 5) (acons (mvar 6) anil)))))))) (sret (mret (D.bl false))) sskip)
def uT3 (A : CA) : MS := (sif (mor (mtest (op2 fNe (mcall (D_price A) (acons (mvar 10) (acons (mvar 4) (acons (opn fTuple (acons (mvar 5) anil)) (acons (mvar 6) anil))))) (mvar 12))) (mtest (op2 (fEqD true) (mvar 11) (mvar 5)))) (sret (mret (D.bl false))) sskip)
def uEnd (A : CA) : MS := (sseq (sif (mor (mtest (op2 fNe (mcall (D_price A) (acons (mvar 10) (acons (mvar 4) (acons (mvar 8) (acons (mvar 6) anil))))) (op2 fAdd (mvar 4) (mret (D.int 1))))) (mtest (op2 fNe (mcall (D_law_refused A) (acons (mvar 10) (acons (mvar 4) (acons (mvar 5) (acons (mvar 6) (acons (mret (D.int 1)) anil)))))) (mret (D.int 3))))) (sret (mret (D.bl false))) sskip)
    (sif (mtest (op2 fNe (mcall (D_law_refused A) (acons (mvar 10) (acons (mvar 4) (acons (mvar 5) (acons (mvar 6) (acons (mret (D.int 2)) anil)))))) (mret (D.int 3)))) (sret (mret (D.bl false))) sskip))
def uMov (A : CA) : MS := (sseq (sif (mtest (op2 fNe (mcall (D_price A) (acons (mvar 10) (acons (mvar 4) (acons (mvar 8) (acons (mvar 6) anil))))) (op2 fAdd (mvar 12) (mvar 7)))) (sret (mret (D.bl false))) sskip)
    (sseq (sasg (opn fMinL (acons (mfreeze (mcomp (mbind (op2 fIx (op2 fIx (mvar 2) (mret (D.int 0))) (mvar 6)) fun x => mlift (lstOf x)) 14 mtrue (op2 fIx (mvar 5) (mvar 14)))) anil)) (gset 13))
    (sseq (sasg (opn fMaxL (acons (mfreeze (mcomp (mbind (op2 fIx (op2 fIx (mvar 2) (mret (D.int 1))) (mvar 6)) fun x => mlift (lstOf x)) 14 mtrue (op2 fIx (mvar 5) (mvar 14)))) anil)) (gset 15))
    (sseq (sif (mor (mtest (op2 fNe (mcall (D_low A) (acons (mvar 10) (acons (mvar 5) (acons (mvar 6) anil)))) (mvar 13))) (mtest (op2 fNe (mcall (D_high A) (acons (mvar 10) (acons (mvar 8) (acons (mvar 6) anil)))) (op2 fAdd (mvar 15) (mvar 7))))) (sret (mret (D.bl false))) sskip)
    (sif (mor (mnot (mtru (mcall D_is_integer (acons (mcall (D_low A) (acons (mvar 10) (acons (mvar 5) (acons (mvar 6) anil)))) anil)))) (mnot (mtru (mcall D_is_integer (acons (mcall (D_high A) (acons (mvar 10) (acons (mvar 8) (acons (mvar 6) anil)))) anil))))) (sret (mret (D.bl false))) sskip)))))
def uT4 (A : CA) : MS := (sif (mtest (op2 fEq (opn fLen (acons (op2 fIx (op2 fIx (mvar 2) (mret (D.int 0))) (mvar 6)) anil)) (mret (D.int 0)))) (uEnd A) (uMov A))
def uTurn (A : CA) : MS := sseq (uT1 A) (sseq (uT2 A) (sseq (uT3 A) (uT4 A)))
def uL1 (A : CA) : MS := (sasg (mcall D_law_web (acons (mvar 1) (acons (mret (D.int 6)) (acons (mret (D.bl false)) anil)))) (gset 2))
def uL2 (A : CA) : MS := (sasg (opn fLen (acons (op2 fIx (mvar 2) (mret (D.int 0))) anil)) (gset 3))
def uL3 (A : CA) : MS := (sasg (mcall D_law_draw (acons (mvar 1) (acons (mret (D.int 7)) anil))) (gset 4))
def uL4 (A : CA) : MS := (sasg (mfreeze (mcomp (mbind (acons (mvar 3) anil) fun x => mlift (rng1 x)) 6 mtrue (mcall D_law_draw (acons (mvar 1) (acons (op2 fAdd (mvar 4) (mret (D.int 2))) anil))))) (gset 5))
def uL5 (A : CA) : MS := (sasg (op2 fSub (op2 fMul (mcall D_law_draw (acons (mvar 1) (acons (mret (D.int 30)) anil))) (op2 fPow (mret (D.int 10)) (mret (D.int 20)))) (mret (D.int 7))) (gset 7))
def uL6 (A : CA) : MS := (sasg (mfreeze (mcomp (mbind (mvar 5) fun x => mlift (lstOf x)) 9 mtrue (op2 fAdd (mvar 9) (mvar 7)))) (gset 8))
def uL7 (A : CA) : MS := (sasg (mcall (D_law_built A) (acons (mvar 2) anil)) (gset 10))
def uL8 (A : CA) : MS := (sasg (mfreeze (mlistN (acons (mvar 5) anil))) (gset 11))
def uL9 (A : CA) : MS := (sfor (mbind (acons (mvar 3) anil) fun x => mlift (rng1 x)) (gset 6) (uTurn A))
def uL10 (A : CA) : MS := (sret (mcall (D_law_refusals A) (acons (mvar 10) (acons (mvar 4) (acons (mvar 5) (acons (mcall D_law_draw (acons (mvar 1) (acons (mvar 3) anil))) (acons (mvar 3) anil)))))))
def uLaw (A : CA) : MS := sseq (uL1 A) (sseq (uL2 A) (sseq (uL3 A) (sseq (uL4 A) (sseq (uL5 A) (sseq (uL6 A) (sseq (uL7 A) (sseq (uL8 A) (sseq (uL9 A) (uL10 A)))))))))
theorem uLaw_is (A : CA) : dn_law A = uLaw A := rfl
section
variable (A : CA) {wb : Wb} {i : Int} {f s : List Int} {mk : Int}
abbrev SW (A : CA) (wb : Wb) (k c : Int) (r : List Int) (o6 o9 o12 o13 o14 o15 : Option L) : Den.Loc := [none, some (.dat .pot), some (.dat (.lst (encW wb))), some (.dat (.int wb.marks.length)), some (.dat (.int k)), some (.dat (dI r)), o6, some (.dat (.int c)), some (.dat (dI (moved c r))), o9, some (.dat (insW A wb)), some (.dat (dI r)), o12, o13, o14, o15]
theorem turn_end (V : Valid wb) (h : Here wb i [] s mk) {r : List Int} (hl : r.length = wb.marks.length) {k c : Int} (k0 : 0 ≤ k) (k6 : k ≤ 6) (o9 o12 o13 o14 o15 : Option L) (p : List Int) :
    uTurn A (SW A wb k c r (some (.dat (.int i))) o9 o12 o13 o14 o15) p = .nx (SW A wb k c r (some (.dat (.int i))) o9 (some (.dat (.int (k + 1)))) o13 o14 o15) p := by
  have hlm : (moved c r).length = wb.marks.length := by unfold moved; rw [List.length_map, hl]
  have P1 := (price_is A h (.inl rfl : IsRow (dI r) r) hl V k0 (by omega) p).trans (price_of_end A h k _ p)
  have P2 := (price_is A h (.inr rfl : IsRow (.tup (r.map .int)) r) hl V k0 (by omega) p).trans (price_of_end A h k _ p)
  have P3 := (price_is A h (.inl rfl : IsRow (dI (moved c r)) (moved c r)) hlm V k0 (by omega) p).trans (price_of_end A h k _ p)
  have L1 := least_end h r k p
  have W1 := law_whole_int (k + 1) p
  have R1 := ref_low_err A (k := .int k) (c := 2) (by decide) (low_err A (end_no A h (.inl rfl : IsRow (dI r) r) hl V p))
  have R2 := ref_high_err A (k := .int k) (c := 2) (by decide) (high_err A (end_no A h (.inl rfl : IsRow (dI r) r) hl V p))
  have i0 : fIx (.lst (encW wb)) (.int 0) = some (.lst (wb.first.map dI)) := by simp [encW]
  have f2 := h.f2
  have T1 : uT1 A (SW A wb k c r (some (.dat (.int i))) o9 o12 o13 o14 o15) p = .nx (SW A wb k c r (some (.dat (.int i))) o9 (some (.dat (.int (k + 1)))) o13 o14 o15) p := by
    simp [uT1, mvar, P1]
  have T2 : uT2 A (SW A wb k c r (some (.dat (.int i))) o9 (some (.dat (.int (k + 1)))) o13 o14 o15) p = .nx (SW A wb k c r (some (.dat (.int i))) o9 (some (.dat (.int (k + 1)))) o13 o14 o15) p := by
    simp [uT2, mvar, W1, L1]
  have T3 : uT3 A (SW A wb k c r (some (.dat (.int i))) o9 (some (.dat (.int (k + 1)))) o13 o14 o15) p = .nx (SW A wb k c r (some (.dat (.int i))) o9 (some (.dat (.int (k + 1)))) o13 o14 o15) p := by
    simp [uT3, mvar, P2, fEqD_self]
  have T4 : uT4 A (SW A wb k c r (some (.dat (.int i))) o9 (some (.dat (.int (k + 1)))) o13 o14 o15) p = .nx (SW A wb k c r (some (.dat (.int i))) o9 (some (.dat (.int (k + 1)))) o13 o14 o15) p := by
    simp [uT4, uEnd, mvar, i0, f2, P3, R1, R2]
  exact (seq_nx T1).trans ((seq_nx T2).trans ((seq_nx T3).trans T4))
theorem turn_mov (V : Valid wb) (h : Here wb i f s mk) (hne : f ≠ []) {r : List Int} (hl : r.length = wb.marks.length) {k c : Int} (k0 : 0 ≤ k) (k6 : k ≤ 6) (hrow : ∀ v ∈ r, 0 ≤ v ∧ v ≤ k + 1) (o9 o12 o13 o14 o15 : Option L) (p : List Int) :
    ∃ o12' o13' o15', uTurn A (SW A wb k c r (some (.dat (.int i))) o9 o12 o13 o14 o15) p = .nx (SW A wb k c r (some (.dat (.int i))) o9 o12' o13' o14 o15') p := by
  have hlm : (moved c r).length = wb.marks.length := by unfold moved; rw [List.length_map, hl]
  have hns : s ≠ [] := fun e => by
    have := h.em V
    rw [e] at this
    cases f with
    | nil => exact hne rfl
    | cons => cases this
  obtain ⟨x, y, P1', hx, hy⟩ := price_of_ev V A h hne (.inl rfl : IsRow (dI r) r) hl k p
  obtain ⟨x2, y2, P2', hx2, hy2⟩ := price_of_ev V A h hne (.inr rfl : IsRow (.tup (r.map .int)) r) hl k p
  obtain ⟨x3, y3, P3', hx3, hy3⟩ := price_of_ev V A h hne (.inl rfl : IsRow (dI (moved c r)) (moved c r)) hlm k p
  obtain ⟨x4, Q1, hx4⟩ := low_is A h hne (.inl rfl : IsRow (dI r) r) hl V p
  obtain ⟨y5, Q2, hy5⟩ := high_is A h hne hns (.inl rfl : IsRow (dI (moved c r)) (moved c r)) hlm V p
  obtain ⟨x6, M1, hx6⟩ := minL_low (r := r) hne
  obtain ⟨y7, M2, hy7⟩ := maxL_high (r := r) hns
  have E1 := hx.uniq hx2
  have E2 := hy.uniq hy2
  have E3 := low_moved V h hl c hx hx3
  have E4 := high_moved V h hl c hy hy3
  have E5 := hx.uniq hx4
  have E6 := high_moved V h hl c hy hy5
  have E7 := hx.uniq hx6
  have E8 := hy.uniq hy7
  subst E1 E2 E3 E4 E5 E6 E7 E8
  have P1 := (price_is A h (.inl rfl : IsRow (dI r) r) hl V k0 (by omega) p).trans P1'
  have P2 := (price_is A h (.inr rfl : IsRow (.tup (r.map .int)) r) hl V k0 (by omega) p).trans P2'
  have P3 := (price_is A h (.inl rfl : IsRow (dI (moved c r)) (moved c r)) hlm V k0 (by omega) p).trans P3'
  rw [half_moved] at P3
  have L1 := least_ev V h hne hl hx hy k0 (by omega) hrow p
  have W1 := fun z => law_whole_int z p
  have i0 : fIx (.lst (encW wb)) (.int 0) = some (.lst (wb.first.map dI)) := by simp [encW]
  have i1 : fIx (.lst (encW wb)) (.int 1) = some (.lst (wb.second.map dI)) := by simp [encW]
  have f2 := h.f2
  have s2 := h.s2
  have hf60 := (V.s1 f (List.mem_of_getElem? h.hf)).1
  have hs60 := (V.s2 s (List.mem_of_getElem? h.hs)).1
  have c1 : ∀ o12 o13 o15, mcomp (mbind (op2 fIx (op2 fIx (mvar 2) (mret (D.int 0))) (mvar 6)) fun x => mlift (lstOf x)) 14 mtrue (op2 fIx (mvar 5) (mvar 14)) (SW A wb k c r (some (.dat (.int i))) o9 o12 o13 o14 o15) p = .ok (f.map fun z => .int (rowAt r z)) p := fun o12 o13 o15 => by
    rw [mcomp_ev (ds := f.map D.int) (p' := p) (by simp [mvar, i0, f2]) (by rw [List.length_map]; omega)]
    exact comp_mapL (by simp) D.int (fun z => .int (rowAt r z)) fun z hz => by
      have := h.fin V z hz
      simp [mvar, row_at this.1 (show z < (r.length : Int) by rw [hl]; exact this.2)]
  have c2 : ∀ o12 o13 o15, mcomp (mbind (op2 fIx (op2 fIx (mvar 2) (mret (D.int 1))) (mvar 6)) fun x => mlift (lstOf x)) 14 mtrue (op2 fIx (mvar 5) (mvar 14)) (SW A wb k c r (some (.dat (.int i))) o9 o12 o13 o14 o15) p = .ok (s.map fun z => .int (rowAt r z)) p := fun o12 o13 o15 => by
    rw [mcomp_ev (ds := s.map D.int) (p' := p) (by simp [mvar, i1, s2]) (by rw [List.length_map]; omega)]
    exact comp_mapL (by simp) D.int (fun z => .int (rowAt r z)) fun z hz => by
      have := h.sin V z hz
      simp [mvar, row_at this.1 (show z < (r.length : Int) by rw [hl]; exact this.2)]
  have hn0 : ((f.length : Int) = 0) = False := eq_false (by have := List.length_pos_iff.mpr hne; omega)
  refine ⟨some (.dat (.int (halfI mk x y))), some (.dat (.int x)), some (.dat (.int y)), ?_⟩
  have T1 : uT1 A (SW A wb k c r (some (.dat (.int i))) o9 o12 o13 o14 o15) p = .nx (SW A wb k c r (some (.dat (.int i))) o9 (some (.dat (.int (halfI mk x y)))) o13 o14 o15) p := by
    simp [uT1, mvar, P1]
  have T2 : uT2 A (SW A wb k c r (some (.dat (.int i))) o9 (some (.dat (.int (halfI mk x y)))) o13 o14 o15) p = .nx (SW A wb k c r (some (.dat (.int i))) o9 (some (.dat (.int (halfI mk x y)))) o13 o14 o15) p := by
    simp [uT2, mvar, W1, L1]
  have T3 : uT3 A (SW A wb k c r (some (.dat (.int i))) o9 (some (.dat (.int (halfI mk x y)))) o13 o14 o15) p = .nx (SW A wb k c r (some (.dat (.int i))) o9 (some (.dat (.int (halfI mk x y)))) o13 o14 o15) p := by
    simp [uT3, mvar, P2, fEqD_self]
  have T4 : uT4 A (SW A wb k c r (some (.dat (.int i))) o9 (some (.dat (.int (halfI mk x y)))) o13 o14 o15) p = .nx (SW A wb k c r (some (.dat (.int i))) o9 (some (.dat (.int (halfI mk x y)))) (some (.dat (.int x))) o14 (some (.dat (.int y)))) p := by
    have c1 := c1 (some (.dat (.int (halfI mk x y)))) o13 o15
    have c2 := c2 (some (.dat (.int (halfI mk x y)))) (some (.dat (.int x))) o15
    simp only [uT4, sif_ev, mtest_ev, op2_ev, opn_ev, acons_ev, anil_ev, mret_ev, mvar, List.getElem?_cons_succ, List.getElem?_cons_zero, bind_ok, i0, fIx_lst, f2, mlift_some, fLen_dI, fEq_int, boolOf_bl, toO_ok, hn0, decide_false, Bool.false_eq_true, if_false]
    simp [uMov, mvar, P3, c1, c2, M1, M2, Q1, Q2, W1]
  exact (seq_nx T1).trans ((seq_nx T2).trans ((seq_nx T3).trans T4))
theorem loop_law (V : Valid wb) {r : List Int} (hl : r.length = wb.marks.length) {k c : Int} (k0 : 0 ≤ k) (k6 : k ≤ 6) (hrow : ∀ v ∈ r, 0 ≤ v ∧ v ≤ k + 1) (o6 o9 o12 o13 o14 o15 : Option L) (p : List Int) :
    ∃ o6' o12' o13' o15', loop (gset 6) (uTurn A) (rngD 0 wb.marks.length) (SW A wb k c r o6 o9 o12 o13 o14 o15) p = .nx (SW A wb k c r o6' o9 o12' o13' o14 o15') p := by
  obtain ⟨l', q, e, rfl, o6', o12', o13', o15', rfl⟩ := loop_run (tg := gset 6) (body := uTurn A)
    (fun (_ : Nat) (l : Den.Loc) (q : List Int) => q = p ∧ ∃ o6 o12 o13 o15, l = SW A wb k c r o6 o9 o12 o13 o14 o15)
    (ds := rngD 0 wb.marks.length) (k := 0) (l := SW A wb k c r o6 o9 o12 o13 o14 o15) (p := p) ⟨rfl, _, _, _, _, rfl⟩ (fun j d l q hd hI => by
      obtain ⟨rfl, o6, o12, o13, o15, rfl⟩ := hI
      obtain ⟨hj, rfl⟩ := rngD_get hd
      refine ⟨_, lset_lt 6 _ _ (by simp), ?_⟩
      obtain ⟨f, s, mk, h⟩ := here_ex V (i := 0 + (j : Int)) (by omega) (by omega)
      by_cases hf : f = []
      · subst hf
        exact ⟨_, _, .inl (turn_end A V h hl k0 k6 o9 o12 o13 o14 o15 q), rfl, _, _, _, _, rfl⟩
      · obtain ⟨o12', o13', o15', e⟩ := turn_mov A V h hf hl k0 k6 hrow o9 o12 o13 o14 o15 q (c := c)
        exact ⟨_, _, .inl e, rfl, _, _, _, _, rfl⟩)
  exact ⟨o6', o12', o13', o15', e⟩
end
end
end PL

namespace PL
open PySem L2 Den
abbrev S1 (o2 o3 o4 o5 o6 o7 o8 o9 o10 o11 : Option L) : Den.Loc := [none, some (.dat .pot), o2, o3, o4, o5, o6, o7, o8, o9, o10, o11, none, none, none, none]
theorem law_run (A : CA) (p : List Int) : ∃ q, dn_law A (S1 none none none none none none none none none none) p = .rt (.bl true) q := by
  obtain ⟨wb, p1, e1, V, hw6, _⟩ := web_ev 6 (by decide) false p
  obtain ⟨k, p2, e2, k0, k7⟩ := draw_ev 7 (by decide) p1
  have n1 := V.n1
  have n2 := V.n2
  have l1 := V.l1
  have i0 : fIx (.lst (encW wb)) (.int 0) = some (.lst (wb.first.map dI)) := by simp [encW]
  have hrn : rng1 [D.int wb.marks.length] = some (rngD 0 wb.marks.length) := rng1_int (by omega)
  obtain ⟨ys, p3, e3, hl, hy⟩ := comp_ex (i := 6) (e := mcall D_law_draw (acons (mvar 1) (acons (op2 fAdd (mvar 4) (mret (D.int 2))) anil))) (l := S1 (some (.dat (.lst (encW wb)))) (some (.dat (.int wb.marks.length))) (some (.dat (.int k))) none none none none none none none) (by simp) (fun _ y => ∃ m : Int, y = .int m ∧ 0 ≤ m ∧ m ≤ k + 1) (ds := rngD 0 wb.marks.length) (p := p2) fun d hd p => by
    obtain ⟨x, q', e, h0, h1⟩ := draw_ev (k + 2) (by omega) p
    exact ⟨.int x, q', by simp [mvar, e], x, rfl, h0, by omega⟩
  obtain ⟨r, rfl, hrow⟩ := drawn_ints ys fun y h => by
    obtain ⟨_, _, q⟩ := hy y h
    exact q
  rw [List.length_map, rngD_len] at hl
  obtain ⟨v, p4, e4, v0, v1⟩ := draw_ev 30 (by decide) p3
  obtain ⟨j, p5, e5, j0, j1⟩ := draw_ev (wb.marks.length : Int) (by omega) p4
  obtain ⟨c, hc⟩ : ∃ c : Int, c = v * 100000000000000000000 - 7 := ⟨_, rfl⟩
  have hp20 : fPow (.int 10) (.int 20) = some (.int 100000000000000000000) := by
    show (if (0 : Int) ≤ 20 ∧ (20 : Int).natAbs ≤ 1000000 ∧ (10 : Int).natAbs < 18446744073709551616 then some (D.int (10 ^ (20 : Int).toNat)) else none) = _
    rw [if_pos ⟨by decide, by decide, by decide⟩]
    rfl
  have hmul : fMul (.int v) (.int 100000000000000000000) = some (.int (v * 100000000000000000000)) := fMul_int (.inl (by omega))
  obtain ⟨f, s, mk, h⟩ := here_ex V j0 j1
  refine ⟨p5, ?_⟩
  rw [uLaw_is]
  refine (seq_nx (l' := S1 (some (.dat (.lst (encW wb)))) none none none none none none none none none) (p' := p1) (by simp [uL1, mvar, e1])).trans ?_
  refine (seq_nx (l' := S1 (some (.dat (.lst (encW wb)))) (some (.dat (.int wb.marks.length))) none none none none none none none none) (p' := p1) (by simp [uL2, mvar, i0, l1])).trans ?_
  refine (seq_nx (l' := S1 (some (.dat (.lst (encW wb)))) (some (.dat (.int wb.marks.length))) (some (.dat (.int k))) none none none none none none none) (p' := p2) (by simp [uL3, mvar, e2])).trans ?_
  refine (seq_nx (l' := S1 (some (.dat (.lst (encW wb)))) (some (.dat (.int wb.marks.length))) (some (.dat (.int k))) (some (.dat (dI r))) none none none none none none) (p' := p3) ?_).trans ?_
  · unfold uL4
    rw [sasg_ev, mfreeze_ev, mcomp_ev (ds := rngD 0 wb.marks.length) (p' := p2) (by simp only [mbind_ev, acons_ev, mvar, List.getElem?_cons_succ, List.getElem?_cons_zero, bind_ok, anil_ev, hrn, mlift_some]) (by rw [rngD_len]; omega), e3]
    rfl
  refine (seq_nx (l' := S1 (some (.dat (.lst (encW wb)))) (some (.dat (.int wb.marks.length))) (some (.dat (.int k))) (some (.dat (dI r))) none (some (.dat (.int c))) none none none none) (p' := p4) ?_).trans ?_
  · rw [hc]
    simp [uL5, mvar, e4, hp20, hmul]
  refine (seq_nx (l' := S1 (some (.dat (.lst (encW wb)))) (some (.dat (.int wb.marks.length))) (some (.dat (.int k))) (some (.dat (dI r))) none (some (.dat (.int c))) (some (.dat (dI (moved c r)))) none none none) (p' := p4) ?_).trans ?_
  · unfold uL6
    rw [sasg_ev, mfreeze_ev, mcomp_ev (ds := r.map D.int) (p' := p4) (by simp [mvar]) (by rw [List.length_map]; omega), comp_mapL (by simp) D.int (fun z => .int (z + c)) (fun z hz => by simp [mvar])]
    have : (r.map fun z => D.int (z + c)) = (moved c r).map D.int := by unfold moved; rw [List.map_map]; rfl
    rw [this]
    rfl
  refine (seq_nx (l' := S1 (some (.dat (.lst (encW wb)))) (some (.dat (.int wb.marks.length))) (some (.dat (.int k))) (some (.dat (dI r))) none (some (.dat (.int c))) (some (.dat (dI (moved c r)))) none (some (.dat (insW A wb))) none) (p' := p4) (by simp [uL7, mvar, built_ev V A p4])).trans ?_
  refine (seq_nx (l' := SW A wb k c r none none none none none none) (p' := p4) (by simp [uL8, mvar, dI])).trans ?_
  obtain ⟨o6', o12', o13', o15', e6⟩ := loop_law A V hl k0 (by omega) hrow none none none none none none p4 (c := c)
  refine (seq_nx (l' := SW A wb k c r o6' none o12' o13' none o15') (p' := p4) ?_).trans ?_
  · unfold uL9
    rw [sfor_ev]
    simp only [mbind_ev, acons_ev, mvar, List.getElem?_cons_succ, List.getElem?_cons_zero, bind_ok, anil_ev, hrn, mlift_some, toO_ok]
    exact e6
  simp [uL10, mvar, e5, refusals_ev A V h hl k0 (by omega) p5]
end PL

namespace K05
open PySem L2 Den PL FX
noncomputable section
variable {c : Cfg} {K : PySem.W.Frag} {ec : Nat → Addr} {P : Program} {w : World} {mg : Str → Option Value} {base : Heap} {A : Adr}
theorem pss_pot (nr : mg "range" = none) (nmin : mg "min" = none) (nlen : mg "len" = none) (nint : mg "int" = none) (f : Addr) (cdv : Value) (A_ : Around) (outer : List Env) (sh : Shared) (H : Hp) (E' : XK) :
    PSs (cxOf (L2.CX P w) P w c.K mg base Nn_law_pot "_law_pot" (defScope s_law_pot) f cdv A_ outer sh H E') (defBody s_law_pot) (qPot c) :=
  (pss_cons (ps_asg (pe_lst pa_nil) (pg_name (i := 1) sc_law_pot.nd rfl (by first | exact Or.inl rfl | exact Or.inr rfl)))
    (pss_cons (ps_for (passes_of rfl) rfl (pi_range1 (by rfl) nr (pa_cons (pe_callB (call_min2 rfl) (by rfl) nmin (by decide +kernel) (pa_cons (pe_callB call_len_seq (by rfl) nlen (by decide +kernel) (pa_cons (pv 0) pa_nil)) (pa_cons pe_int pa_nil))) pa_nil)) (pg_name (i := 2) sc_law_pot.nd rfl (by first | exact Or.inl rfl | exact Or.inr rfl)) (pss_cons (ps_asg (pe_callTy call_int1 (by rfl) nint (by decide +kernel) (pa_cons (pe_ix ix_seq (pv 0) (pv 2) (fun _ _ => rfl)) pa_nil)) (pg_name (i := 3) sc_law_pot.nd rfl (by first | exact Or.inl rfl | exact Or.inr rfl)))
    (pss_cons (ps_asg pe_int (pg_name (i := 4) sc_law_pot.nd rfl (by first | exact Or.inl rfl | exact Or.inr rfl)))
    (pss_cons (ps_if (pt_cmpR op_lt (pv 3) pe_int (nomark _)) (pss_cons (ps_asg (pe_op op_sub pe_int (pv 3)) (pg_name (i := 3) sc_law_pot.nd rfl (by first | exact Or.inl rfl | exact Or.inr rfl)))
    (pss_one (ps_asg pe_int (pg_name (i := 4) sc_law_pot.nd rfl (by first | exact Or.inl rfl | exact Or.inr rfl))))) pss_nil)
    (pss_one (ps_if (pt_cmpR op_ge (pv 3) (pe_op op_pow pe_int pe_int) (nomark _)) (pss_one (ps_for (passes_of rfl) rfl (pi_range1 (by rfl) nr (pa_cons pe_int pa_nil)) (pg_name (i := 5) sc_law_pot.nd rfl (by first | exact Or.inl rfl | exact Or.inr rfl)) (pss_one (ps_if (pt_cmpR op_gt (pv 3) pe_int (nomark _)) (pss_cons (ps_expr (pe_bm PySem.F.plainAttrs_list PySem.F.slot_list_append PySem.F.type_list_append mt_append (pv 1) (pa_cons (pe_op op_mod (pe_callTy call_int1 (by rfl) nint (by decide +kernel) (pa_cons (pv 3) pa_nil)) pe_int) pa_nil)))
    (pss_one (ps_asg (pe_op op_fdiv (pv 3) pe_int) (pg_name (i := 3) sc_law_pot.nd rfl (by first | exact Or.inl rfl | exact Or.inr rfl))))) pss_nil)))) (pss_cons (ps_asg (pe_op op_mod (pe_callTy call_int1 (by rfl) nint (by decide +kernel) (pa_cons (pe_op op_add (pe_op op_add (pe_op op_mul (pv 3) pe_int) (pe_op op_mul (pv 2) pe_int)) (pv 4)) pa_nil)) pe_int) (pg_name (i := 6) sc_law_pot.nd rfl (by first | exact Or.inl rfl | exact Or.inr rfl)))
    (pss_one (ps_for (passes_of rfl) rfl (pi_range1 (by rfl) nr (pa_cons pe_int pa_nil)) (pg_name (i := 5) sc_law_pot.nd rfl (by first | exact Or.inl rfl | exact Or.inr rfl)) (pss_cons (ps_asg (pe_op op_mod (pe_callTy call_int1 (by rfl) nint (by decide +kernel) (pa_cons (pe_op op_add (pe_op op_add (pe_op op_add (pe_op op_mul (pv 6) (pv 6)) (pe_op op_mul (pv 5) pe_int)) (pe_op op_mul (pv 2) pe_int)) pe_int) pa_nil)) pe_int) (pg_name (i := 6) sc_law_pot.nd rfl (by first | exact Or.inl rfl | exact Or.inr rfl)))
    (pss_one (ps_expr (pe_bm PySem.F.plainAttrs_list PySem.F.slot_list_append PySem.F.type_list_append mt_append (pv 1) (pa_cons (pv 6) pa_nil))))))))))))))
    (pss_cons (ps_expr (pe_bm0 PySem.F.plainAttrs_list PySem.F.slot_list_reverse PySem.F.type_list_reverse mt_reverse (pv 1)))
    (pss_one (ps_ret (pv 1))))))
theorem ok_law_pot {f : Addr} {fd : FuncData} (F : Fun c.K "_law_pot" "_law_pot" s_law_pot f fd) (nr : mg "range" = none) (nmin : mg "min" = none) (nlen : mg "len" = none) (nint : mg "int" = none) : FnR P w c.K mg base (L2.CX P w) 1 f (spPot c.K) := by
  have ok : FnOk P w c.K mg base (L2.CX P w) 1 f fd ["_law_script"] (spPot c.K) := by
    refine F.okX sc_law_pot (fun vs H Q E h => ?_) (fun cdv A outer sh H vs Q E hr h => ?_)
    · obtain ⟨a, ns, rfl, _⟩ := h
      rfl
    · obtain ⟨a, ns, rfl, hS, hl, k⟩ := h
      exact ⟨_, pss_pot nr nmin nlen nint f cdv A outer sh H E, pot_run hS hl k⟩
  have raw := ok.raw (F.binds (ps := ["_law_script"]) fun _ _ _ _ _ _ us hl => match us, hl with | [_], _ => rfl) .nil
  exact raw.imp fun vs H Q E h => by rw [List.append_nil]; exact h
theorem ok_law {f fP : Addr} {fd fdP : FuncData} (T : ∀ p, Txt ⟨K, p, ec⟩ mg A) (F : Fun K "law" "law" s_law f fd) (FP : Fun K "_law_pot" "_law_pot" s_law_pot fP fdP) (mP : mg "_law_pot" = some (.ref fP)) : FnOk P w K mg base (L2.CX P w) 9 f fd ["_law_script"] (spLaw K) := by
  refine F.okX sc_law (fun vs H Q E h => ?_) (fun cdv A_ outer sh H vs Q E hr h => ?_)
  · obtain ⟨a, ns, rfl, _⟩ := h
    rfl
  · obtain ⟨a, ns, rfl, hS, hl, k⟩ := h
    have T0 := T 0
    have G0 : FnR P w K mg base (L2.CX P w) 1 fP (spPot K) := ok_law_pot (c := ⟨K, 0, ec⟩) FP T0.n_range T0.n_min T0.n_len T0.n_int
    refine ⟨_, pss_cons (ps_asg (pe_callRS (E := fun _ => E) G0 (hr.mono (by decide)) (by rfl) mP FP.kp (passE (takes_of rfl rfl rfl rfl)) (pa_cons (pv 0) pa_nil)) (pg_name (i := 1) sc_law.nd rfl (by first | exact Or.inl rfl | exact Or.inr rfl))) (pss_any (st := (defBody s_law).drop 1)), ?_⟩
    refine ⟨_, rfl, a, ns, rfl, hS, hl, fun p pot H' hp => ?_⟩
    obtain ⟨t, ht, hs⟩ := rest_law (P := P) (w := w) (base := base) (T p) f cdv A_ outer sh H E hr
    refine ⟨t, ht, hs (fun _ => none) H' (fun _ => none) H' _ (potLoc 14) pot (pot_rel hp) _ ?_⟩
    obtain ⟨q, e⟩ := law_run A.ca pot
    have e' : dn_law A.ca (potLoc 14) pot = .rt (.bl true) q := e
    rw [e']
    intro v G1 H1 σ1 l1 _ _ a1
    cases a1
    exact k H1
theorem all_mk {l : PySem.W.OpenLaw} {w : World} {K : PySem.W.Frag} {h : Heap} {mg : Str → Option Value} {fa : Addr} {f_is_integer f_check_whole f_whole_list f_check_size f_check_range f_check_least f_check_most f_as_stands f_is_due f_due_in_range f_due_too_great f_check_due f_check_kinds f_check_steps f_check_parts f_check_web f_check_stand f_check_moving f_half_of f_low_of f_high_of f_price_of f_check_steps_at f_low f_high f_price f_law_draw f_law_whole f_law_lot f_law_due f_law_marks f_law_path f_law_web f_law_built f_law_good f_law_least f_law_refused f_law_refusals C_Web f_Web_init f_Web_first p_Web_first f_Web_marks p_Web_marks f_Web_second p_Web_second f_Web_size p_Web_size e0 e1 e2 e3 f_law_pot f_law : Addr} (X : K.In h) (G : h.Ns mainGlobals mg) (hfa : mg "law" = some (.ref fa))
    (a_is_integer : PySem.W.nsIn K mainGlobals "is_integer" = some (some (.ref f_is_integer))) (b_is_integer : FnIn K "is_integer" "is_integer" s_is_integer f_is_integer)
    (a_check_whole : PySem.W.nsIn K mainGlobals "check_whole" = some (some (.ref f_check_whole))) (b_check_whole : FnIn K "check_whole" "check_whole" s_check_whole f_check_whole)
    (a_whole_list : PySem.W.nsIn K mainGlobals "whole_list" = some (some (.ref f_whole_list))) (b_whole_list : FnIn K "whole_list" "whole_list" s_whole_list f_whole_list)
    (a_check_size : PySem.W.nsIn K mainGlobals "check_size" = some (some (.ref f_check_size))) (b_check_size : FnIn K "check_size" "check_size" s_check_size f_check_size)
    (a_check_range : PySem.W.nsIn K mainGlobals "check_range" = some (some (.ref f_check_range))) (b_check_range : FnIn K "check_range" "check_range" s_check_range f_check_range)
    (a_check_least : PySem.W.nsIn K mainGlobals "check_least" = some (some (.ref f_check_least))) (b_check_least : FnIn K "check_least" "check_least" s_check_least f_check_least)
    (a_check_most : PySem.W.nsIn K mainGlobals "check_most" = some (some (.ref f_check_most))) (b_check_most : FnIn K "check_most" "check_most" s_check_most f_check_most)
    (a_as_stands : PySem.W.nsIn K mainGlobals "as_stands" = some (some (.ref f_as_stands))) (b_as_stands : FnIn K "as_stands" "as_stands" s_as_stands f_as_stands)
    (a_is_due : PySem.W.nsIn K mainGlobals "is_due" = some (some (.ref f_is_due))) (b_is_due : FnIn K "is_due" "is_due" s_is_due f_is_due)
    (a_due_in_range : PySem.W.nsIn K mainGlobals "due_in_range" = some (some (.ref f_due_in_range))) (b_due_in_range : FnIn K "due_in_range" "due_in_range" s_due_in_range f_due_in_range)
    (a_due_too_great : PySem.W.nsIn K mainGlobals "due_too_great" = some (some (.ref f_due_too_great))) (b_due_too_great : FnIn K "due_too_great" "due_too_great" s_due_too_great f_due_too_great)
    (a_check_due : PySem.W.nsIn K mainGlobals "check_due" = some (some (.ref f_check_due))) (b_check_due : FnIn K "check_due" "check_due" s_check_due f_check_due)
    (a_check_kinds : PySem.W.nsIn K mainGlobals "check_kinds" = some (some (.ref f_check_kinds))) (b_check_kinds : FnIn K "check_kinds" "check_kinds" s_check_kinds f_check_kinds)
    (a_check_steps : PySem.W.nsIn K mainGlobals "check_steps" = some (some (.ref f_check_steps))) (b_check_steps : FnIn K "check_steps" "check_steps" s_check_steps f_check_steps)
    (a_check_parts : PySem.W.nsIn K mainGlobals "check_parts" = some (some (.ref f_check_parts))) (b_check_parts : FnIn K "check_parts" "check_parts" s_check_parts f_check_parts)
    (a_check_web : PySem.W.nsIn K mainGlobals "check_web" = some (some (.ref f_check_web))) (b_check_web : FnIn K "check_web" "check_web" s_check_web f_check_web)
    (a_check_stand : PySem.W.nsIn K mainGlobals "check_stand" = some (some (.ref f_check_stand))) (b_check_stand : FnIn K "check_stand" "check_stand" s_check_stand f_check_stand)
    (a_check_moving : PySem.W.nsIn K mainGlobals "check_moving" = some (some (.ref f_check_moving))) (b_check_moving : FnIn K "check_moving" "check_moving" s_check_moving f_check_moving)
    (a_half_of : PySem.W.nsIn K mainGlobals "half_of" = some (some (.ref f_half_of))) (b_half_of : FnIn K "half_of" "half_of" s_half_of f_half_of)
    (a_low_of : PySem.W.nsIn K mainGlobals "low_of" = some (some (.ref f_low_of))) (b_low_of : FnIn K "low_of" "low_of" s_low_of f_low_of)
    (a_high_of : PySem.W.nsIn K mainGlobals "high_of" = some (some (.ref f_high_of))) (b_high_of : FnIn K "high_of" "high_of" s_high_of f_high_of)
    (a_price_of : PySem.W.nsIn K mainGlobals "price_of" = some (some (.ref f_price_of))) (b_price_of : FnIn K "price_of" "price_of" s_price_of f_price_of)
    (a_check_steps_at : PySem.W.nsIn K mainGlobals "check_steps_at" = some (some (.ref f_check_steps_at))) (b_check_steps_at : FnIn K "check_steps_at" "check_steps_at" s_check_steps_at f_check_steps_at)
    (a_low : PySem.W.nsIn K mainGlobals "low" = some (some (.ref f_low))) (b_low : FnIn K "low" "low" s_low f_low)
    (a_high : PySem.W.nsIn K mainGlobals "high" = some (some (.ref f_high))) (b_high : FnIn K "high" "high" s_high f_high)
    (a_price : PySem.W.nsIn K mainGlobals "price" = some (some (.ref f_price))) (b_price : FnIn K "price" "price" s_price f_price)
    (a_law_draw : PySem.W.nsIn K mainGlobals "_law_draw" = some (some (.ref f_law_draw))) (b_law_draw : FnIn K "_law_draw" "_law_draw" s_law_draw f_law_draw)
    (a_law_whole : PySem.W.nsIn K mainGlobals "_law_whole" = some (some (.ref f_law_whole))) (b_law_whole : FnIn K "_law_whole" "_law_whole" s_law_whole f_law_whole)
    (a_law_lot : PySem.W.nsIn K mainGlobals "_law_lot" = some (some (.ref f_law_lot))) (b_law_lot : FnIn K "_law_lot" "_law_lot" s_law_lot f_law_lot)
    (a_law_due : PySem.W.nsIn K mainGlobals "_law_due" = some (some (.ref f_law_due))) (b_law_due : FnIn K "_law_due" "_law_due" s_law_due f_law_due)
    (a_law_marks : PySem.W.nsIn K mainGlobals "_law_marks" = some (some (.ref f_law_marks))) (b_law_marks : FnIn K "_law_marks" "_law_marks" s_law_marks f_law_marks)
    (a_law_path : PySem.W.nsIn K mainGlobals "_law_path" = some (some (.ref f_law_path))) (b_law_path : FnIn K "_law_path" "_law_path" s_law_path f_law_path)
    (a_law_web : PySem.W.nsIn K mainGlobals "_law_web" = some (some (.ref f_law_web))) (b_law_web : FnIn K "_law_web" "_law_web" s_law_web f_law_web)
    (a_law_built : PySem.W.nsIn K mainGlobals "_law_built" = some (some (.ref f_law_built))) (b_law_built : FnIn K "_law_built" "_law_built" s_law_built f_law_built)
    (a_law_good : PySem.W.nsIn K mainGlobals "_law_good" = some (some (.ref f_law_good))) (b_law_good : FnIn K "_law_good" "_law_good" s_law_good f_law_good)
    (a_law_least : PySem.W.nsIn K mainGlobals "_law_least" = some (some (.ref f_law_least))) (b_law_least : FnIn K "_law_least" "_law_least" s_law_least f_law_least)
    (a_law_refused : PySem.W.nsIn K mainGlobals "_law_refused" = some (some (.ref f_law_refused))) (b_law_refused : FnIn K "_law_refused" "_law_refused" s_law_refused f_law_refused)
    (a_law_refusals : PySem.W.nsIn K mainGlobals "_law_refusals" = some (some (.ref f_law_refusals))) (b_law_refusals : FnIn K "_law_refusals" "_law_refusals" s_law_refusals f_law_refusals)
    (a_Web : PySem.W.nsIn K mainGlobals "Web" = some (some (.ref C_Web)))
    (i_Web : PySem.W.findIn K (.ref C_Web) "__init__" = some (some (.ref f_Web_init))) (j_Web : PySem.W.isFn K (.ref f_Web_init) = true) (b_Web_init : FnIn K "__init__" "Web.__init__" s_Web_init f_Web_init) (q_Web : PySem.W.makesIn K C_Web = true) (k_Web : PySem.W.keepIn K (.ref C_Web) = true) (g_Web : ClsF K C_Web)
    (t_Web_first : PropOf K C_Web "first" p_Web_first f_Web_first) (b_Web_first : FnIn K "first" "Web.first" s_Web_first f_Web_first)
    (t_Web_marks : PropOf K C_Web "marks" p_Web_marks f_Web_marks) (b_Web_marks : FnIn K "marks" "Web.marks" s_Web_marks f_Web_marks)
    (t_Web_second : PropOf K C_Web "second" p_Web_second f_Web_second) (b_Web_second : FnIn K "second" "Web.second" s_Web_second f_Web_second)
    (t_Web_size : PropOf K C_Web "size" p_Web_size f_Web_size) (b_Web_size : FnIn K "size" "Web.size" s_Web_size f_Web_size)
    (n_Web__dues : PySem.W.findIn K (.ref C_Web) "_dues" = some none)
    (n_Web__ends : PySem.W.findIn K (.ref C_Web) "_ends" = some none)
    (n_Web__even : PySem.W.findIn K (.ref C_Web) "_even" = some none)
    (n_Web__first : PySem.W.findIn K (.ref C_Web) "_first" = some none)
    (n_Web__greatest_due : PySem.W.findIn K (.ref C_Web) "_greatest_due" = some none)
    (n_Web__marks : PySem.W.findIn K (.ref C_Web) "_marks" = some none)
    (n_Web__moving : PySem.W.findIn K (.ref C_Web) "_moving" = some none)
    (n_Web__second : PySem.W.findIn K (.ref C_Web) "_second" = some none)
    (n_Web__size : PySem.W.findIn K (.ref C_Web) "_size" = some none)
    (v_GREATEST : ∃ t, PySem.W.nsIn K mainGlobals "GREATEST" = some (some (.int 10000000000000000000000000000000000000000 t)))
    (v_MOST_STANDS : ∃ t, PySem.W.nsIn K mainGlobals "MOST_STANDS" = some (some (.int 60 t)))
    (z_bool : PySem.W.nsIn K mainGlobals "bool" = some none)
    (z_enumerate : PySem.W.nsIn K mainGlobals "enumerate" = some none)
    (z_int : PySem.W.nsIn K mainGlobals "int" = some none)
    (z_isinstance : PySem.W.nsIn K mainGlobals "isinstance" = some none)
    (z_len : PySem.W.nsIn K mainGlobals "len" = some none)
    (z_list : PySem.W.nsIn K mainGlobals "list" = some none)
    (z_max : PySem.W.nsIn K mainGlobals "max" = some none)
    (z_min : PySem.W.nsIn K mainGlobals "min" = some none)
    (z_range : PySem.W.nsIn K mainGlobals "range" = some none)
    (z_set : PySem.W.nsIn K mainGlobals "set" = some none)
    (z_sorted : PySem.W.nsIn K mainGlobals "sorted" = some none)
    (z_str : PySem.W.nsIn K mainGlobals "str" = some none)
    (z_tuple : PySem.W.nsIn K mainGlobals "tuple" = some none)
    (eA0 : PySem.W.nsIn K mainGlobals "WrongKind" = some (some (.ref e0))) (eX0 : PySem.W.excIn K e0 [.type "Exception", .type "BaseException", .type "object"] "Exception.__new__" = true) (eK0 : PySem.W.keepIn K (.ref e0) = true) (eB0 : PySem.W.subIn K (.ref e0) (.type "BaseException") = some true) (eT0 : PySem.W.typeIn K (.ref e0) = some (.type "type"))
    (eA1 : PySem.W.nsIn K mainGlobals "WrongNumber" = some (some (.ref e1))) (eX1 : PySem.W.excIn K e1 [.type "Exception", .type "BaseException", .type "object"] "Exception.__new__" = true) (eK1 : PySem.W.keepIn K (.ref e1) = true) (eB1 : PySem.W.subIn K (.ref e1) (.type "BaseException") = some true) (eT1 : PySem.W.typeIn K (.ref e1) = some (.type "type"))
    (eA2 : PySem.W.nsIn K mainGlobals "WrongWeb" = some (some (.ref e2))) (eX2 : PySem.W.excIn K e2 [.type "Exception", .type "BaseException", .type "object"] "Exception.__new__" = true) (eK2 : PySem.W.keepIn K (.ref e2) = true) (eB2 : PySem.W.subIn K (.ref e2) (.type "BaseException") = some true) (eT2 : PySem.W.typeIn K (.ref e2) = some (.type "type"))
    (eA3 : PySem.W.nsIn K mainGlobals "TooMuch" = some (some (.ref e3))) (eX3 : PySem.W.excIn K e3 [.type "Exception", .type "BaseException", .type "object"] "Exception.__new__" = true) (eK3 : PySem.W.keepIn K (.ref e3) = true) (eB3 : PySem.W.subIn K (.ref e3) (.type "BaseException") = some true) (eT3 : PySem.W.typeIn K (.ref e3) = some (.type "type"))
    (ap00 : PySem.W.exmOne K (.ref e0) (.ref e0) = some true)
    (ap01 : PySem.W.exmOne K (.ref e0) (.ref e1) = some false)
    (ap02 : PySem.W.exmOne K (.ref e0) (.ref e2) = some false)
    (ap03 : PySem.W.exmOne K (.ref e0) (.ref e3) = some false)
    (ap10 : PySem.W.exmOne K (.ref e1) (.ref e0) = some false)
    (ap11 : PySem.W.exmOne K (.ref e1) (.ref e1) = some true)
    (ap12 : PySem.W.exmOne K (.ref e1) (.ref e2) = some false)
    (ap13 : PySem.W.exmOne K (.ref e1) (.ref e3) = some false)
    (ap20 : PySem.W.exmOne K (.ref e2) (.ref e0) = some false)
    (ap21 : PySem.W.exmOne K (.ref e2) (.ref e1) = some false)
    (ap22 : PySem.W.exmOne K (.ref e2) (.ref e2) = some true)
    (ap23 : PySem.W.exmOne K (.ref e2) (.ref e3) = some false)
    (ap30 : PySem.W.exmOne K (.ref e3) (.ref e0) = some false)
    (ap31 : PySem.W.exmOne K (.ref e3) (.ref e1) = some false)
    (ap32 : PySem.W.exmOne K (.ref e3) (.ref e2) = some false)
    (ap33 : PySem.W.exmOne K (.ref e3) (.ref e3) = some true)
    (a_law_pot : PySem.W.nsIn K mainGlobals "_law_pot" = some (some (.ref f_law_pot)))
    (a_law : PySem.W.nsIn K mainGlobals "law" = some (some (.ref f_law)))
    (b_law_pot : FnIn K "_law_pot" "_law_pot" s_law_pot f_law_pot)
    {oc : Value} {od an : Option Addr} {osl : Array (Option Value)} {kV doc pm cdv ct : Value} (l_law : K.lookup f_law = some ⟨oc, od, .func (PySem.W.fnOf "law" "law" (defArgs s_law) (defBody s_law) (defScope s_law) .none kV doc pm an cdv ct), osl⟩) (c_law : PySem.W.codeIn K cdv "law" = true) (k_law : PySem.W.keepIn K (.ref f_law) = true) :
    ∃ fd : FuncData, (∀ (s : Shared) (v : Value), BindsTo s fd ⟨[v], []⟩ [("_law_script", v)]) ∧ ∀ base : Heap, K.In base → base.Ns mainGlobals mg → FnOk l.prog w K mg base (L2.CX l.prog w) 9 fa fd ["_law_script"] (spLaw K) := by
  have e := hfa.symm.trans (PySem.W.mg_of X G a_law)
  cases e
  obtain ⟨fd_is_integer, F_is_integer⟩ := b_is_integer
  obtain ⟨fd_check_whole, F_check_whole⟩ := b_check_whole
  obtain ⟨fd_whole_list, F_whole_list⟩ := b_whole_list
  obtain ⟨fd_check_size, F_check_size⟩ := b_check_size
  obtain ⟨fd_check_range, F_check_range⟩ := b_check_range
  obtain ⟨fd_check_least, F_check_least⟩ := b_check_least
  obtain ⟨fd_check_most, F_check_most⟩ := b_check_most
  obtain ⟨fd_as_stands, F_as_stands⟩ := b_as_stands
  obtain ⟨fd_is_due, F_is_due⟩ := b_is_due
  obtain ⟨fd_due_in_range, F_due_in_range⟩ := b_due_in_range
  obtain ⟨fd_due_too_great, F_due_too_great⟩ := b_due_too_great
  obtain ⟨fd_check_due, F_check_due⟩ := b_check_due
  obtain ⟨fd_check_kinds, F_check_kinds⟩ := b_check_kinds
  obtain ⟨fd_check_steps, F_check_steps⟩ := b_check_steps
  obtain ⟨fd_check_parts, F_check_parts⟩ := b_check_parts
  obtain ⟨fd_check_web, F_check_web⟩ := b_check_web
  obtain ⟨fd_check_stand, F_check_stand⟩ := b_check_stand
  obtain ⟨fd_check_moving, F_check_moving⟩ := b_check_moving
  obtain ⟨fd_half_of, F_half_of⟩ := b_half_of
  obtain ⟨fd_low_of, F_low_of⟩ := b_low_of
  obtain ⟨fd_high_of, F_high_of⟩ := b_high_of
  obtain ⟨fd_price_of, F_price_of⟩ := b_price_of
  obtain ⟨fd_check_steps_at, F_check_steps_at⟩ := b_check_steps_at
  obtain ⟨fd_low, F_low⟩ := b_low
  obtain ⟨fd_high, F_high⟩ := b_high
  obtain ⟨fd_price, F_price⟩ := b_price
  obtain ⟨fd_law_draw, F_law_draw⟩ := b_law_draw
  obtain ⟨fd_law_whole, F_law_whole⟩ := b_law_whole
  obtain ⟨fd_law_lot, F_law_lot⟩ := b_law_lot
  obtain ⟨fd_law_due, F_law_due⟩ := b_law_due
  obtain ⟨fd_law_marks, F_law_marks⟩ := b_law_marks
  obtain ⟨fd_law_path, F_law_path⟩ := b_law_path
  obtain ⟨fd_law_web, F_law_web⟩ := b_law_web
  obtain ⟨fd_law_built, F_law_built⟩ := b_law_built
  obtain ⟨fd_law_good, F_law_good⟩ := b_law_good
  obtain ⟨fd_law_least, F_law_least⟩ := b_law_least
  obtain ⟨fd_law_refused, F_law_refused⟩ := b_law_refused
  obtain ⟨fd_law_refusals, F_law_refusals⟩ := b_law_refusals
  obtain ⟨fd_Web_init, F_Web_init⟩ := b_Web_init
  obtain ⟨fd_Web_first, F_Web_first⟩ := b_Web_first
  obtain ⟨fd_Web_marks, F_Web_marks⟩ := b_Web_marks
  obtain ⟨fd_Web_second, F_Web_second⟩ := b_Web_second
  obtain ⟨fd_Web_size, F_Web_size⟩ := b_Web_size
  obtain ⟨fd_law_pot, F_law_pot⟩ := b_law_pot
  have F_law := fun_mk (st := s_law) l_law c_law k_law
  let ec : Nat → Addr := fun n => match n with
    | 0 => e0
    | 1 => e1
    | 2 => e2
    | 3 => e3
    | _ => e0
  have apart : ∀ p, Apart ⟨K, p, ec⟩ := fun p => fun n m hn hm => match n, m, hn, hm with
    | 0, 0, _, _ => ap00
    | 0, 1, _, _ => ap01
    | 0, 2, _, _ => ap02
    | 0, 3, _, _ => ap03
    | 1, 0, _, _ => ap10
    | 1, 1, _, _ => ap11
    | 1, 2, _, _ => ap12
    | 1, 3, _, _ => ap13
    | 2, 0, _, _ => ap20
    | 2, 1, _, _ => ap21
    | 2, 2, _, _ => ap22
    | 2, 3, _, _ => ap23
    | 3, 0, _, _ => ap30
    | 3, 1, _, _ => ap31
    | 3, 2, _, _ => ap32
    | 3, 3, _, _ => ap33
    | n + 4, _, h, _ => absurd h (by omega)
    | 0, m + 4, _, h => absurd h (by omega)
    | 1, m + 4, _, h => absurd h (by omega)
    | 2, m + 4, _, h => absurd h (by omega)
    | 3, m + 4, _, h => absurd h (by omega)
  let A : Adr := { is_integer := f_is_integer, fd_is_integer := fd_is_integer, check_whole := f_check_whole, fd_check_whole := fd_check_whole, whole_list := f_whole_list, fd_whole_list := fd_whole_list, check_size := f_check_size, fd_check_size := fd_check_size, check_range := f_check_range, fd_check_range := fd_check_range, check_least := f_check_least, fd_check_least := fd_check_least, check_most := f_check_most, fd_check_most := fd_check_most, as_stands := f_as_stands, fd_as_stands := fd_as_stands, is_due := f_is_due, fd_is_due := fd_is_due, due_in_range := f_due_in_range, fd_due_in_range := fd_due_in_range, due_too_great := f_due_too_great, fd_due_too_great := fd_due_too_great, check_due := f_check_due, fd_check_due := fd_check_due, check_kinds := f_check_kinds, fd_check_kinds := fd_check_kinds, check_steps := f_check_steps, fd_check_steps := fd_check_steps, check_parts := f_check_parts, fd_check_parts := fd_check_parts, check_web := f_check_web, fd_check_web := fd_check_web, check_stand := f_check_stand, fd_check_stand := fd_check_stand, check_moving := f_check_moving, fd_check_moving := fd_check_moving, half_of := f_half_of, fd_half_of := fd_half_of, low_of := f_low_of, fd_low_of := fd_low_of, high_of := f_high_of, fd_high_of := fd_high_of, price_of := f_price_of, fd_price_of := fd_price_of, check_steps_at := f_check_steps_at, fd_check_steps_at := fd_check_steps_at, low := f_low, fd_low := fd_low, high := f_high, fd_high := fd_high, price := f_price, fd_price := fd_price, law_draw := f_law_draw, fd_law_draw := fd_law_draw, law_whole := f_law_whole, fd_law_whole := fd_law_whole, law_lot := f_law_lot, fd_law_lot := fd_law_lot, law_due := f_law_due, fd_law_due := fd_law_due, law_marks := f_law_marks, fd_law_marks := fd_law_marks, law_path := f_law_path, fd_law_path := fd_law_path, law_web := f_law_web, fd_law_web := fd_law_web, law_built := f_law_built, fd_law_built := fd_law_built, law_good := f_law_good, fd_law_good := fd_law_good, law_least := f_law_least, fd_law_least := fd_law_least, law_refused := f_law_refused, fd_law_refused := fd_law_refused, law_refusals := f_law_refusals, fd_law_refusals := fd_law_refusals, Web_init := f_Web_init, fd_Web_init := fd_Web_init, Web_first := f_Web_first, fd_Web_first := fd_Web_first, pr_Web_first := p_Web_first, Web_marks := f_Web_marks, fd_Web_marks := fd_Web_marks, pr_Web_marks := p_Web_marks, Web_second := f_Web_second, fd_Web_second := fd_Web_second, pr_Web_second := p_Web_second, Web_size := f_Web_size, fd_Web_size := fd_Web_size, pr_Web_size := p_Web_size, ca := { Web := C_Web, Heights := 0, Verdict := 0, Paper := 0, Plan := 0, FirstPlan := 0, SecondPlan := 0, Play := 0, Share := 0, Table := 0, TokenPlan := 0 } }
  have T : ∀ p, Txt ⟨K, p, ec⟩ mg A := fun p => { F_is_integer := F_is_integer, m_is_integer := PySem.W.mg_of X G a_is_integer, F_check_whole := F_check_whole, m_check_whole := PySem.W.mg_of X G a_check_whole, F_whole_list := F_whole_list, m_whole_list := PySem.W.mg_of X G a_whole_list, F_check_size := F_check_size, m_check_size := PySem.W.mg_of X G a_check_size, F_check_range := F_check_range, m_check_range := PySem.W.mg_of X G a_check_range, F_check_least := F_check_least, m_check_least := PySem.W.mg_of X G a_check_least, F_check_most := F_check_most, m_check_most := PySem.W.mg_of X G a_check_most, F_as_stands := F_as_stands, m_as_stands := PySem.W.mg_of X G a_as_stands, F_is_due := F_is_due, m_is_due := PySem.W.mg_of X G a_is_due, F_due_in_range := F_due_in_range, m_due_in_range := PySem.W.mg_of X G a_due_in_range, F_due_too_great := F_due_too_great, m_due_too_great := PySem.W.mg_of X G a_due_too_great, F_check_due := F_check_due, m_check_due := PySem.W.mg_of X G a_check_due, F_check_kinds := F_check_kinds, m_check_kinds := PySem.W.mg_of X G a_check_kinds, F_check_steps := F_check_steps, m_check_steps := PySem.W.mg_of X G a_check_steps, F_check_parts := F_check_parts, m_check_parts := PySem.W.mg_of X G a_check_parts, F_check_web := F_check_web, m_check_web := PySem.W.mg_of X G a_check_web, F_check_stand := F_check_stand, m_check_stand := PySem.W.mg_of X G a_check_stand, F_check_moving := F_check_moving, m_check_moving := PySem.W.mg_of X G a_check_moving, F_half_of := F_half_of, m_half_of := PySem.W.mg_of X G a_half_of, F_low_of := F_low_of, m_low_of := PySem.W.mg_of X G a_low_of, F_high_of := F_high_of, m_high_of := PySem.W.mg_of X G a_high_of, F_price_of := F_price_of, m_price_of := PySem.W.mg_of X G a_price_of, F_check_steps_at := F_check_steps_at, m_check_steps_at := PySem.W.mg_of X G a_check_steps_at, F_low := F_low, m_low := PySem.W.mg_of X G a_low, F_high := F_high, m_high := PySem.W.mg_of X G a_high, F_price := F_price, m_price := PySem.W.mg_of X G a_price, F_law_draw := F_law_draw, m_law_draw := PySem.W.mg_of X G a_law_draw, F_law_whole := F_law_whole, m_law_whole := PySem.W.mg_of X G a_law_whole, F_law_lot := F_law_lot, m_law_lot := PySem.W.mg_of X G a_law_lot, F_law_due := F_law_due, m_law_due := PySem.W.mg_of X G a_law_due, F_law_marks := F_law_marks, m_law_marks := PySem.W.mg_of X G a_law_marks, F_law_path := F_law_path, m_law_path := PySem.W.mg_of X G a_law_path, F_law_web := F_law_web, m_law_web := PySem.W.mg_of X G a_law_web, F_law_built := F_law_built, m_law_built := PySem.W.mg_of X G a_law_built, F_law_good := F_law_good, m_law_good := PySem.W.mg_of X G a_law_good, F_law_least := F_law_least, m_law_least := PySem.W.mg_of X G a_law_least, F_law_refused := F_law_refused, m_law_refused := PySem.W.mg_of X G a_law_refused, F_law_refusals := F_law_refusals, m_law_refusals := PySem.W.mg_of X G a_law_refusals, F_Web_init := F_Web_init, m_Web := PySem.W.mg_of X G a_Web, f_Web := g_Web, mk_Web := ⟨q_Web, i_Web, j_Web, k_Web⟩, F_Web_first := F_Web_first, p_Web_first := t_Web_first, F_Web_marks := F_Web_marks, p_Web_marks := t_Web_marks, F_Web_second := F_Web_second, p_Web_second := t_Web_second, F_Web_size := F_Web_size, p_Web_size := t_Web_size, a_Web__dues := n_Web__dues, a_Web__ends := n_Web__ends, a_Web__even := n_Web__even, a_Web__first := n_Web__first, a_Web__greatest_due := n_Web__greatest_due, a_Web__marks := n_Web__marks, a_Web__moving := n_Web__moving, a_Web__second := n_Web__second, a_Web__size := n_Web__size, c_GREATEST := v_GREATEST.imp fun t e => PySem.W.mg_of X G e, c_MOST_STANDS := v_MOST_STANDS.imp fun t e => PySem.W.mg_of X G e, n_bool := PySem.W.mg_none_of X G z_bool, n_enumerate := PySem.W.mg_none_of X G z_enumerate, n_int := PySem.W.mg_none_of X G z_int, n_isinstance := PySem.W.mg_none_of X G z_isinstance, n_len := PySem.W.mg_none_of X G z_len, n_list := PySem.W.mg_none_of X G z_list, n_max := PySem.W.mg_none_of X G z_max, n_min := PySem.W.mg_none_of X G z_min, n_range := PySem.W.mg_none_of X G z_range, n_set := PySem.W.mg_none_of X G z_set, n_sorted := PySem.W.mg_none_of X G z_sorted, n_str := PySem.W.mg_none_of X G z_str, n_tuple := PySem.W.mg_none_of X G z_tuple, mE0 := PySem.W.mg_of X G eA0, xE0 := eX0, kE0 := eK0, bE0 := eB0, tE0 := eT0, mE1 := PySem.W.mg_of X G eA1, xE1 := eX1, kE1 := eK1, bE1 := eB1, tE1 := eT1, mE2 := PySem.W.mg_of X G eA2, xE2 := eX2, kE2 := eK2, bE2 := eB2, tE2 := eT2, mE3 := PySem.W.mg_of X G eA3, xE3 := eX3, kE3 := eK3, bE3 := eB3, tE3 := eT3, apart := apart p }
  exact ⟨PySem.W.fnOf "law" "law" (defArgs s_law) (defBody s_law) (defScope s_law) .none kV doc pm an cdv ct, fun s v => .of_eq rfl, fun base _ _ => ok_law (A := A) (ec := ec) T F_law F_law_pot (PySem.W.mg_of X G a_law_pot)⟩
theorem walk {l : PySem.W.OpenLaw} {q : Program} {loose : List Str} {XP : (Str → Option Value) → Heap → Prop} {YP : World → Heap → Prop} {d : DefRec} {K : Params → PySem.W.Frag} (hn : l.most = some 63) (hdf : d.params.defaults = [])
    (hY : ∀ (w : World) (h : Heap), YP w h → (K w.params).In h)
    (F : ∀ (w : World) (mg : Str → Option Value) (fa : Addr) (h : Heap), (K w.params).In h → h.Ns mainGlobals mg → mg d.name = some (.ref fa) →
      ∃ fd : FuncData, (∀ (s : Shared) (u : Value), BindsTo s fd ⟨[u], []⟩ [("_law_script", u)]) ∧ ∀ base : Heap, (K w.params).In base → base.Ns mainGlobals mg → FnOk l.prog w (K w.params) mg base (L2.CX l.prog w) 9 fa fd ["_law_script"] (spLaw (K w.params))) :
    PySem.W.WalkO q loose XP YP l.row.toRowW d [] (fun f vs => PySem.call f vs) :=
  L2.walk_of (n := 63) (k := 9) (x := "_law_script") (CX := fun w => L2.CX l.prog w) (sp := fun w => spLaw (K w.params)) hn (by decide) hdf ⟨rfl, by decide, by decide⟩ hY F (fun _ _ a ns hl _ hS => ⟨a, ns, rfl, hS, hl, fun _ => rfl⟩) fun w H s e s' z => by
    obtain ⟨_, _, _, _, _, _, _, _, _, _, _, _, h⟩ := z
    exact h
end
end K05

open PySem PySem.W PyProof.Rows
set_option maxRecDepth 100000 in
set_option maxHeartbeats 0 in
theorem PySem.Challenge.cw_pursewebs_k05_price_is_the_least_purse_t_holds : PySem.Challenge.rw_pursewebs_k05_price_is_the_least_purse_t.Holds := by
  w_on; o_law; k_head; (case hw => w_witness2)
  k_fill
  refine K05.walk (l := PySem.Challenge.rw_pursewebs_k05_price_is_the_least_purse_t) rfl rfl (fun w h Y => PySem.W.kIn_of Y) ?F
  case F =>
    intro w mg fa h KX G hmg
    refine' K05.all_mk KX G hmg ?a_is_integer ?b_is_integer ?a_check_whole ?b_check_whole ?a_whole_list ?b_whole_list ?a_check_size ?b_check_size ?a_check_range ?b_check_range ?a_check_least ?b_check_least ?a_check_most ?b_check_most ?a_as_stands ?b_as_stands ?a_is_due ?b_is_due ?a_due_in_range ?b_due_in_range ?a_due_too_great ?b_due_too_great ?a_check_due ?b_check_due ?a_check_kinds ?b_check_kinds ?a_check_steps ?b_check_steps ?a_check_parts ?b_check_parts ?a_check_web ?b_check_web ?a_check_stand ?b_check_stand ?a_check_moving ?b_check_moving ?a_half_of ?b_half_of ?a_low_of ?b_low_of ?a_high_of ?b_high_of ?a_price_of ?b_price_of ?a_check_steps_at ?b_check_steps_at ?a_low ?b_low ?a_high ?b_high ?a_price ?b_price ?a_law_draw ?b_law_draw ?a_law_whole ?b_law_whole ?a_law_lot ?b_law_lot ?a_law_due ?b_law_due ?a_law_marks ?b_law_marks ?a_law_path ?b_law_path ?a_law_web ?b_law_web ?a_law_built ?b_law_built ?a_law_good ?b_law_good ?a_law_least ?b_law_least ?a_law_refused ?b_law_refused ?a_law_refusals ?b_law_refusals ?a_Web ?i_Web ?j_Web ?b_Web_init ?q_Web ?k_Web ?g_Web ?t_Web_first ?b_Web_first ?t_Web_marks ?b_Web_marks ?t_Web_second ?b_Web_second ?t_Web_size ?b_Web_size ?n_Web__dues ?n_Web__ends ?n_Web__even ?n_Web__first ?n_Web__greatest_due ?n_Web__marks ?n_Web__moving ?n_Web__second ?n_Web__size ?v_GREATEST ?v_MOST_STANDS ?z_bool ?z_enumerate ?z_int ?z_isinstance ?z_len ?z_list ?z_max ?z_min ?z_range ?z_set ?z_sorted ?z_str ?z_tuple ?eA0 ?eX0 ?eK0 ?eB0 ?eT0 ?eA1 ?eX1 ?eK1 ?eB1 ?eT1 ?eA2 ?eX2 ?eK2 ?eB2 ?eT2 ?eA3 ?eX3 ?eK3 ?eB3 ?eT3 ?ap00 ?ap01 ?ap02 ?ap03 ?ap10 ?ap11 ?ap12 ?ap13 ?ap20 ?ap21 ?ap22 ?ap23 ?ap30 ?ap31 ?ap32 ?ap33 ?a_law_pot ?a_law ?b_law_pot ?l_law ?c_law ?k_law
    (case a_is_integer => k_is)
    (case b_is_integer => (refine' FX.fnIn_mk ?l ?c ?k; (case l => k_is); (case c => k_is); (case k => k_is)))
    (case a_check_whole => k_is)
    (case b_check_whole => (refine' FX.fnIn_mk ?l ?c ?k; (case l => k_is); (case c => k_is); (case k => k_is)))
    (case a_whole_list => k_is)
    (case b_whole_list => (refine' FX.fnIn_mk ?l ?c ?k; (case l => k_is); (case c => k_is); (case k => k_is)))
    (case a_check_size => k_is)
    (case b_check_size => (refine' FX.fnIn_mk ?l ?c ?k; (case l => k_is); (case c => k_is); (case k => k_is)))
    (case a_check_range => k_is)
    (case b_check_range => (refine' FX.fnIn_mk ?l ?c ?k; (case l => k_is); (case c => k_is); (case k => k_is)))
    (case a_check_least => k_is)
    (case b_check_least => (refine' FX.fnIn_mk ?l ?c ?k; (case l => k_is); (case c => k_is); (case k => k_is)))
    (case a_check_most => k_is)
    (case b_check_most => (refine' FX.fnIn_mk ?l ?c ?k; (case l => k_is); (case c => k_is); (case k => k_is)))
    (case a_as_stands => k_is)
    (case b_as_stands => (refine' FX.fnIn_mk ?l ?c ?k; (case l => k_is); (case c => k_is); (case k => k_is)))
    (case a_is_due => k_is)
    (case b_is_due => (refine' FX.fnIn_mk ?l ?c ?k; (case l => k_is); (case c => k_is); (case k => k_is)))
    (case a_due_in_range => k_is)
    (case b_due_in_range => (refine' FX.fnIn_mk ?l ?c ?k; (case l => k_is); (case c => k_is); (case k => k_is)))
    (case a_due_too_great => k_is)
    (case b_due_too_great => (refine' FX.fnIn_mk ?l ?c ?k; (case l => k_is); (case c => k_is); (case k => k_is)))
    (case a_check_due => k_is)
    (case b_check_due => (refine' FX.fnIn_mk ?l ?c ?k; (case l => k_is); (case c => k_is); (case k => k_is)))
    (case a_check_kinds => k_is)
    (case b_check_kinds => (refine' FX.fnIn_mk ?l ?c ?k; (case l => k_is); (case c => k_is); (case k => k_is)))
    (case a_check_steps => k_is)
    (case b_check_steps => (refine' FX.fnIn_mk ?l ?c ?k; (case l => k_is); (case c => k_is); (case k => k_is)))
    (case a_check_parts => k_is)
    (case b_check_parts => (refine' FX.fnIn_mk ?l ?c ?k; (case l => k_is); (case c => k_is); (case k => k_is)))
    (case a_check_web => k_is)
    (case b_check_web => (refine' FX.fnIn_mk ?l ?c ?k; (case l => k_is); (case c => k_is); (case k => k_is)))
    (case a_check_stand => k_is)
    (case b_check_stand => (refine' FX.fnIn_mk ?l ?c ?k; (case l => k_is); (case c => k_is); (case k => k_is)))
    (case a_check_moving => k_is)
    (case b_check_moving => (refine' FX.fnIn_mk ?l ?c ?k; (case l => k_is); (case c => k_is); (case k => k_is)))
    (case a_half_of => k_is)
    (case b_half_of => (refine' FX.fnIn_mk ?l ?c ?k; (case l => k_is); (case c => k_is); (case k => k_is)))
    (case a_low_of => k_is)
    (case b_low_of => (refine' FX.fnIn_mk ?l ?c ?k; (case l => k_is); (case c => k_is); (case k => k_is)))
    (case a_high_of => k_is)
    (case b_high_of => (refine' FX.fnIn_mk ?l ?c ?k; (case l => k_is); (case c => k_is); (case k => k_is)))
    (case a_price_of => k_is)
    (case b_price_of => (refine' FX.fnIn_mk ?l ?c ?k; (case l => k_is); (case c => k_is); (case k => k_is)))
    (case a_check_steps_at => k_is)
    (case b_check_steps_at => (refine' FX.fnIn_mk ?l ?c ?k; (case l => k_is); (case c => k_is); (case k => k_is)))
    (case a_low => k_is)
    (case b_low => (refine' FX.fnIn_mk ?l ?c ?k; (case l => k_is); (case c => k_is); (case k => k_is)))
    (case a_high => k_is)
    (case b_high => (refine' FX.fnIn_mk ?l ?c ?k; (case l => k_is); (case c => k_is); (case k => k_is)))
    (case a_price => k_is)
    (case b_price => (refine' FX.fnIn_mk ?l ?c ?k; (case l => k_is); (case c => k_is); (case k => k_is)))
    (case a_law_draw => k_is)
    (case b_law_draw => (refine' FX.fnIn_mk ?l ?c ?k; (case l => k_is); (case c => k_is); (case k => k_is)))
    (case a_law_whole => k_is)
    (case b_law_whole => (refine' FX.fnIn_mk ?l ?c ?k; (case l => k_is); (case c => k_is); (case k => k_is)))
    (case a_law_lot => k_is)
    (case b_law_lot => (refine' FX.fnIn_mk ?l ?c ?k; (case l => k_is); (case c => k_is); (case k => k_is)))
    (case a_law_due => k_is)
    (case b_law_due => (refine' FX.fnIn_mk ?l ?c ?k; (case l => k_is); (case c => k_is); (case k => k_is)))
    (case a_law_marks => k_is)
    (case b_law_marks => (refine' FX.fnIn_mk ?l ?c ?k; (case l => k_is); (case c => k_is); (case k => k_is)))
    (case a_law_path => k_is)
    (case b_law_path => (refine' FX.fnIn_mk ?l ?c ?k; (case l => k_is); (case c => k_is); (case k => k_is)))
    (case a_law_web => k_is)
    (case b_law_web => (refine' FX.fnIn_mk ?l ?c ?k; (case l => k_is); (case c => k_is); (case k => k_is)))
    (case a_law_built => k_is)
    (case b_law_built => (refine' FX.fnIn_mk ?l ?c ?k; (case l => k_is); (case c => k_is); (case k => k_is)))
    (case a_law_good => k_is)
    (case b_law_good => (refine' FX.fnIn_mk ?l ?c ?k; (case l => k_is); (case c => k_is); (case k => k_is)))
    (case a_law_least => k_is)
    (case b_law_least => (refine' FX.fnIn_mk ?l ?c ?k; (case l => k_is); (case c => k_is); (case k => k_is)))
    (case a_law_refused => k_is)
    (case b_law_refused => (refine' FX.fnIn_mk ?l ?c ?k; (case l => k_is); (case c => k_is); (case k => k_is)))
    (case a_law_refusals => k_is)
    (case b_law_refusals => (refine' FX.fnIn_mk ?l ?c ?k; (case l => k_is); (case c => k_is); (case k => k_is)))
    (case a_Web => k_is)
    (case i_Web => k_is)
    (case j_Web => k_is)
    (case b_Web_init => (refine' FX.fnIn_mk ?l ?c ?k; (case l => k_is); (case c => k_is); (case k => k_is)))
    (case q_Web => k_is)
    (case k_Web => k_is)
    (case g_Web => (refine' FX.clsF_at ⟨?x1, ?x2, ?x3, ?x4⟩ ?x5 ?x6 ?x7 ?x8; (case x1 => k_is); (case x2 => k_is); (case x3 => k_is); (case x4 => k_is); (case x5 => k_is); (case x6 => k_is); (case x7 => k_is); (case x8 => k_is)))
    (case t_Web_first => (refine' FX.prop_at ?x1 ?x2 ?x3; (case x1 => k_is); (case x2 => k_is); (case x3 => rfl)))
    (case b_Web_first => (refine' FX.fnIn_mk ?l ?c ?k; (case l => k_is); (case c => k_is); (case k => k_is)))
    (case t_Web_marks => (refine' FX.prop_at ?x1 ?x2 ?x3; (case x1 => k_is); (case x2 => k_is); (case x3 => rfl)))
    (case b_Web_marks => (refine' FX.fnIn_mk ?l ?c ?k; (case l => k_is); (case c => k_is); (case k => k_is)))
    (case t_Web_second => (refine' FX.prop_at ?x1 ?x2 ?x3; (case x1 => k_is); (case x2 => k_is); (case x3 => rfl)))
    (case b_Web_second => (refine' FX.fnIn_mk ?l ?c ?k; (case l => k_is); (case c => k_is); (case k => k_is)))
    (case t_Web_size => (refine' FX.prop_at ?x1 ?x2 ?x3; (case x1 => k_is); (case x2 => k_is); (case x3 => rfl)))
    (case b_Web_size => (refine' FX.fnIn_mk ?l ?c ?k; (case l => k_is); (case c => k_is); (case k => k_is)))
    (case n_Web__dues => k_is)
    (case n_Web__ends => k_is)
    (case n_Web__even => k_is)
    (case n_Web__first => k_is)
    (case n_Web__greatest_due => k_is)
    (case n_Web__marks => k_is)
    (case n_Web__moving => k_is)
    (case n_Web__second => k_is)
    (case n_Web__size => k_is)
    (case v_GREATEST => exact ⟨_, rfl⟩)
    (case v_MOST_STANDS => exact ⟨_, rfl⟩)
    (case z_bool => k_is)
    (case z_enumerate => k_is)
    (case z_int => k_is)
    (case z_isinstance => k_is)
    (case z_len => k_is)
    (case z_list => k_is)
    (case z_max => k_is)
    (case z_min => k_is)
    (case z_range => k_is)
    (case z_set => k_is)
    (case z_sorted => k_is)
    (case z_str => k_is)
    (case z_tuple => k_is)
    (case eA0 => k_is)
    (case eX0 => k_exc)
    (case eK0 => k_is)
    (case eB0 => k_is)
    (case eT0 => k_is)
    (case eA1 => k_is)
    (case eX1 => k_exc)
    (case eK1 => k_is)
    (case eB1 => k_is)
    (case eT1 => k_is)
    (case eA2 => k_is)
    (case eX2 => k_exc)
    (case eK2 => k_is)
    (case eB2 => k_is)
    (case eT2 => k_is)
    (case eA3 => k_is)
    (case eX3 => k_exc)
    (case eK3 => k_is)
    (case eB3 => k_is)
    (case eT3 => k_is)
    (case ap00 => (refine' FX.exm_at ?x1 ?x2 ?x3 ?x4; (case x1 => k_is); (case x2 => k_is); (case x3 => k_is); (case x4 => first | rfl | k_is)))
    (case ap01 => (refine' FX.exm_at ?x1 ?x2 ?x3 ?x4; (case x1 => k_is); (case x2 => k_is); (case x3 => k_is); (case x4 => first | rfl | k_is)))
    (case ap02 => (refine' FX.exm_at ?x1 ?x2 ?x3 ?x4; (case x1 => k_is); (case x2 => k_is); (case x3 => k_is); (case x4 => first | rfl | k_is)))
    (case ap03 => (refine' FX.exm_at ?x1 ?x2 ?x3 ?x4; (case x1 => k_is); (case x2 => k_is); (case x3 => k_is); (case x4 => first | rfl | k_is)))
    (case ap10 => (refine' FX.exm_at ?x1 ?x2 ?x3 ?x4; (case x1 => k_is); (case x2 => k_is); (case x3 => k_is); (case x4 => first | rfl | k_is)))
    (case ap11 => (refine' FX.exm_at ?x1 ?x2 ?x3 ?x4; (case x1 => k_is); (case x2 => k_is); (case x3 => k_is); (case x4 => first | rfl | k_is)))
    (case ap12 => (refine' FX.exm_at ?x1 ?x2 ?x3 ?x4; (case x1 => k_is); (case x2 => k_is); (case x3 => k_is); (case x4 => first | rfl | k_is)))
    (case ap13 => (refine' FX.exm_at ?x1 ?x2 ?x3 ?x4; (case x1 => k_is); (case x2 => k_is); (case x3 => k_is); (case x4 => first | rfl | k_is)))
    (case ap20 => (refine' FX.exm_at ?x1 ?x2 ?x3 ?x4; (case x1 => k_is); (case x2 => k_is); (case x3 => k_is); (case x4 => first | rfl | k_is)))
    (case ap21 => (refine' FX.exm_at ?x1 ?x2 ?x3 ?x4; (case x1 => k_is); (case x2 => k_is); (case x3 => k_is); (case x4 => first | rfl | k_is)))
    (case ap22 => (refine' FX.exm_at ?x1 ?x2 ?x3 ?x4; (case x1 => k_is); (case x2 => k_is); (case x3 => k_is); (case x4 => first | rfl | k_is)))
    (case ap23 => (refine' FX.exm_at ?x1 ?x2 ?x3 ?x4; (case x1 => k_is); (case x2 => k_is); (case x3 => k_is); (case x4 => first | rfl | k_is)))
    (case ap30 => (refine' FX.exm_at ?x1 ?x2 ?x3 ?x4; (case x1 => k_is); (case x2 => k_is); (case x3 => k_is); (case x4 => first | rfl | k_is)))
    (case ap31 => (refine' FX.exm_at ?x1 ?x2 ?x3 ?x4; (case x1 => k_is); (case x2 => k_is); (case x3 => k_is); (case x4 => first | rfl | k_is)))
    (case ap32 => (refine' FX.exm_at ?x1 ?x2 ?x3 ?x4; (case x1 => k_is); (case x2 => k_is); (case x3 => k_is); (case x4 => first | rfl | k_is)))
    (case ap33 => (refine' FX.exm_at ?x1 ?x2 ?x3 ?x4; (case x1 => k_is); (case x2 => k_is); (case x3 => k_is); (case x4 => first | rfl | k_is)))
    (case a_law_pot => k_is)
    (case a_law => k_is)
    (case b_law_pot => (refine' FX.fnIn_mk ?l ?c ?k; (case l => k_is); (case c => k_is); (case k => k_is)))
    (case l_law => k_is)
    (case c_law => k_is)
    (case k_law => k_is)
