import PyProof.Rows.All
import Wide.All
import OpenK.AllK
import Wide.FinOn
import HandS.ForMost
import HandS.ForExc
import HandS.TryMany
import HandS.Star
import HandS.Strs
import HandS.SetFor
import HandS.IsInst
import HandS.Property
import HandS.Conv
import HandS.Small
import HandS.RevRange
import KE.GoesEnum
import KE.GoesMore
import KE.KOpsOwn
import HandS.More
import HandS.SlotsOwn
import PyProof.InstNe
import HandS.IterVal
import HandS.OwnEq
import HandS.Flow
import HandS.OwnIter
import HandS.DictComp
import HandS.WideBits
import HandS.List
import HandS.Gcd
import HandS.ClsMeth
import HandS.Wide
import HandS.Defaults
import Flt.RightSqrt
import KE.DataMinMax
import HandS.SortKw
import HandS.Style
import PySem.Challenge.RW_pursewebs_k50_line_numbers_in_closed_for
import KE.IntBitsLaws
set_option Elab.async false
set_option linter.all false
set_option maxRecDepth 100000
set_option maxHeartbeats 4000000
namespace Den
open PySem L2
inductive Ty where
  | non | bl | int | str | lst | tup
  deriving DecidableEq
def Ty.name : Ty → String
  | .non => "NoneType"
  | .bl => "bool"
  | .int => "int"
  | .str => "str"
  | .lst => "list"
  | .tup => "tuple"
inductive D where
  | non | bl (b : Bool) | int (i : Int) | str (x : Str) | lst (ds : List D) | tup (ds : List D) | ins (C : Addr) (ns : List Str) (ds : List D) | pot | ty (n : Ty) | cls (C : Addr) | dct (kvs : List (Key × V)) | mr (j : Nat)

/-- what stands for good (hp), and where the things lie that may change (ps) -/
structure Wd where
  hp : Hp
  ps : List Addr
  ver : Nat
instance : CoeFun Wd (fun _ => Addr → Option HO) := ⟨Wd.hp⟩
instance : Coe Wd Hp := ⟨Wd.hp⟩
def wup (G : Wd) (p : Addr) (o : HO) : Wd := ⟨upd G.hp p o, G.ps, G.ver⟩
theorem wup_same {G : Wd} {p : Addr} {o : HO} : (wup G p o) p = some o := upd_same
theorem wup_ne {G : Wd} {p q : Addr} {o : HO} (h : q ≠ p) : (wup G p o) q = G q := upd_ne h
/-- p is neither -/
structure Wd.No (G : Wd) (p : Addr) : Prop where
  hp : G p = none
  ps : p ∉ G.ps

mutual
/-- the value v is the datum d, as far as the standing part G of the heap tells -/
inductive At (P : Addr) (G : Wd) : V → D → Prop
  | non : At P G .non .non
  | bl (b : Bool) : At P G (.bl b) (.bl b)
  | int (i : Int) : At P G (.int i) (.int i)
  | str (x : Str) : At P G (.str x) (.str x)
  | lst {p : Addr} {vs : List V} {ds : List D} (h : G p = some (.lst vs)) (a : AtL P G vs ds) : At P G (.ref p) (.lst ds)
  | tup {p : Addr} {vs : List V} {ds : List D} (h : G p = some (.tup vs)) (a : AtL P G vs ds) : At P G (.ref p) (.tup ds)
  | ins {p dx C : Addr} {ns : List Str} {vs : List V} {ds : List D} (h : G p = some (.ins C dx (ns.zip vs))) (a : AtL P G vs ds) : At P G (.ref p) (.ins C ns ds)
  | pot : At P G (.ref P) .pot
  | mr {j : Nat} {a : Addr} (h : G.ps[j]? = some a) : At P G (.ref a) (.mr j)
  | ty (n : Ty) : At P G (.ty n.name) (.ty n)
  | cls (C : Addr) : At P G (.ref C) (.cls C)
  | dct {p : Addr} {o : Obj} {kvs : List (Key × V)} (h : G p = some (.frz o (.dK kvs))) : At P G (.ref p) (.dct kvs)
inductive AtL (P : Addr) (G : Wd) : List V → List D → Prop
  | nil : AtL P G [] []
  | cons {v : V} {d : D} {vs : List V} {ds : List D} (h : At P G v d) (t : AtL P G vs ds) : AtL P G (v :: vs) (d :: ds)
end
def Ex (H H' : Hp) : Prop := ∀ a o, H a = some o → H' a = some o
theorem Ex.refl (H : Hp) : Ex H H := fun _ _ h => h
theorem Ex.trans {H H1 H2 : Hp} (a : Ex H H1) (b : Ex H1 H2) : Ex H H2 := fun x o h => b x o (a x o h)
theorem Ex.new {H : Hp} {p : Addr} {o : HO} (h : H p = none) : Ex H (upd H p o) := fun a u e => by
  rw [upd_ne (ne_of_none e h)]
  exact e
/-- the world grows -/
structure Ew (G G' : Wd) : Prop where
  hp : Ex G.hp G'.hp
  ps : ∀ (j : Nat) (a : Addr), G.ps[j]? = some a → G'.ps[j]? = some a
theorem Ew.refl (G : Wd) : Ew G G := ⟨Ex.refl _, fun _ _ h => h⟩
theorem Ew.trans {G G1 G2 : Wd} (a : Ew G G1) (b : Ew G1 G2) : Ew G G2 := ⟨a.hp.trans b.hp, fun j x h => b.ps j x (a.ps j x h)⟩
theorem Ew.new {G : Wd} {p : Addr} {o : HO} (h : G p = none) : Ew G (wup G p o) := ⟨Ex.new h, fun _ _ h => h⟩
theorem Ew.mem {G G' : Wd} (e : Ew G G') {a : Addr} (h : a ∈ G.ps) : a ∈ G'.ps := by
  obtain ⟨j, hj⟩ := List.mem_iff_getElem?.mp h
  exact List.mem_of_getElem? (e.ps j a hj)
/-- from a world to a heap that it is part of -/
theorem Ew.gh {G G' : Wd} {H : Hp} (a : Ew G G') (b : Ex G' H) : Ex G H := a.hp.trans b

mutual
theorem At.mono {P : Addr} {G G' : Wd} (e : Ew G G') : ∀ {v : V} {d : D}, At P G v d → At P G' v d
  | _, _, .non => .non
  | _, _, .bl b => .bl b
  | _, _, .int i => .int i
  | _, _, .str x => .str x
  | _, _, .lst h a => .lst (e.hp _ _ h) (AtL.mono e a)
  | _, _, .tup h a => .tup (e.hp _ _ h) (AtL.mono e a)
  | _, _, .ins h a => .ins (e.hp _ _ h) (AtL.mono e a)
  | _, _, .pot => .pot
  | _, _, .mr h => .mr (e.ps _ _ h)
  | _, _, .ty n => .ty n
  | _, _, .cls C => .cls C
  | _, _, .dct h => .dct (e.hp _ _ h)
theorem AtL.mono {P : Addr} {G G' : Wd} (e : Ew G G') : ∀ {vs : List V} {ds : List D}, AtL P G vs ds → AtL P G' vs ds
  | _, _, .nil => .nil
  | _, _, .cons h t => .cons (At.mono e h) (AtL.mono e t)
end
section
variable {P : Addr} {G : Wd}
theorem AtL.length : ∀ {vs : List V} {ds : List D}, AtL P G vs ds → vs.length = ds.length
  | _, _, .nil => rfl
  | _, _, .cons _ t => by simp [AtL.length t]
theorem AtL.get : ∀ {vs : List V} {ds : List D} {i : Nat} {d : D}, AtL P G vs ds → ds[i]? = some d → ∃ v, vs[i]? = some v ∧ At P G v d
  | _, _, _, _, .nil, e => by simp at e
  | _, _, 0, _, .cons h _, e => by simp at e; subst e; exact ⟨_, rfl, h⟩
  | _, _, i + 1, d, .cons _ t, e => by
    obtain ⟨v, h1, h2⟩ := AtL.get (i := i) (d := d) t (by simpa using e)
    exact ⟨v, by simpa using h1, h2⟩
theorem AtL.getV : ∀ {vs : List V} {ds : List D} {i : Nat} {v : V}, AtL P G vs ds → vs[i]? = some v → ∃ d, ds[i]? = some d ∧ At P G v d
  | _, _, _, _, .nil, e => by simp at e
  | _, _, 0, _, .cons h _, e => by simp at e; subst e; exact ⟨_, rfl, h⟩
  | _, _, i + 1, v, .cons _ t, e => by
    obtain ⟨d, h1, h2⟩ := AtL.getV (i := i) (v := v) t (by simpa using e)
    exact ⟨d, by simpa using h1, h2⟩
theorem AtL.append : ∀ {vs ws : List V} {ds es : List D}, AtL P G vs ds → AtL P G ws es → AtL P G (vs ++ ws) (ds ++ es)
  | _, _, _, _, .nil, s => s
  | _, _, _, _, .cons h t, s => .cons h (AtL.append t s)
theorem AtL.take : ∀ {vs : List V} {ds : List D} (n : Nat), AtL P G vs ds → AtL P G (vs.take n) (ds.take n)
  | _, _, 0, _ => .nil
  | _, _, _ + 1, .nil => .nil
  | _, _, n + 1, .cons h t => .cons h (AtL.take n t)
theorem AtL.drop : ∀ {vs : List V} {ds : List D} (n : Nat), AtL P G vs ds → AtL P G (vs.drop n) (ds.drop n)
  | _, _, 0, a => a
  | _, _, _ + 1, .nil => .nil
  | _, _, n + 1, .cons h t => AtL.drop n t
theorem AtL.set {v : V} {d : D} (h : At P G v d) : ∀ {vs : List V} {ds : List D} (i : Nat), AtL P G vs ds → AtL P G (vs.set i v) (ds.set i d)
  | _, _, _, .nil => .nil
  | _, _, 0, .cons _ t => .cons h t
  | _, _, i + 1, .cons q t => .cons q (AtL.set h i t)
theorem AtL.ints : ∀ {ns : List Int}, AtL P G (ns.map V.int) (ns.map D.int)
  | [] => .nil
  | n :: ns => .cons (.int n) AtL.ints
end
/-- how what may change has grown; where the version is the same, it is as it was -/
def Nwp (G : Wd) (H : Hp) (G' : Wd) (H' : Hp) : Prop := (∀ a, a ∈ G'.ps → a ∈ G.ps ∨ H a = none) ∧ G.ver ≤ G'.ver ∧ (G'.ver = G.ver → G'.ps = G.ps ∧ ∀ a o, a ∈ G.ps → H a = some o → H' a = some o)
theorem Nwp.refl {G : Wd} {H : Hp} : Nwp G H G H := ⟨fun _ h => .inl h, Nat.le_refl _, fun _ => ⟨rfl, fun _ _ _ h => h⟩⟩
theorem Nwp.poke {G G' : Wd} {H H' : Hp} {q : Addr} {o : HO} (n : Nwp G H G' H') (h : q ∉ G.ps ∨ H q = none) : Nwp G H G' (upd H' q o) := ⟨n.1, n.2.1, fun e => ⟨(n.2.2 e).1, fun a u m x => by
  rw [upd_ne (fun z => by subst z; exact h.elim (fun h => h m) fun h => by rw [h] at x; cases x)]
  exact (n.2.2 e).2 a u m x⟩⟩
/-- from (G, H) on: the standing part grows, what stood stands (but the pot and what may change), what is new was free -/
structure Stp (B : Addr → Prop) (G : Wd) (H : Hp) (G' : Wd) (H' : Hp) : Prop where
  gg : Ew G G'
  gh : Ex G' H'
  keep : ∀ q o, H q = some o → ¬ B q → q ∉ G.ps → H' q = some o
  there : ∀ q, H' q = none → H q = none
  new : ∀ p o, G' p = some o → G p = some o ∨ H p = none
  np : Nwp G H G' H'
theorem Stp.newp {B : Addr → Prop} {G G' : Wd} {H H' : Hp} (s : Stp B G H G' H') : ∀ a, a ∈ G'.ps → a ∈ G.ps ∨ H a = none := s.np.1
theorem Stp.refl {B : Addr → Prop} {G : Wd} {H : Hp} (gh : Ex G H) : Stp B G H G H := ⟨Ew.refl G, gh, fun _ _ h _ _ => h, fun _ h => h, fun _ _ h => .inl h, Nwp.refl⟩
theorem Stp.trans {B : Addr → Prop} {G G1 G2 : Wd} {H H1 H2 : Hp} (a : Stp B G H G1 H1) (b : Stp B G1 H1 G2 H2) : Stp B G H G2 H2 :=
  ⟨a.gg.trans b.gg, b.gh, fun q o h n m => b.keep q o (a.keep q o h n m) n (fun z => (a.newp q z).elim m fun w => by rw [w] at h; cases h), fun q h => a.there q (b.there q h), fun p o h => (b.new p o h).elim (fun z => a.new p o z) fun z => .inr (a.there p z),
    fun p h => (b.newp p h).elim (fun z => a.newp p z) fun z => .inr (a.there p z), Nat.le_trans a.np.2.1 b.np.2.1, fun e => by
      have e1 : G1.ver = G.ver := Nat.le_antisymm (e ▸ b.np.2.1) a.np.2.1
      have e2 : G2.ver = G1.ver := e.trans e1.symm
      exact ⟨(b.np.2.2 e2).1.trans (a.np.2.2 e1).1, fun x o m h => (b.np.2.2 e2).2 x o (by rw [(a.np.2.2 e1).1]; exact m) ((a.np.2.2 e1).2 x o m h)⟩⟩
theorem Stp.no {B : Addr → Prop} {G G' : Wd} {H H' : Hp} {q : Addr} (s : Stp B G H G' H') (n : G.No q) (h : H q ≠ none) : G'.No q := by
  refine ⟨?_, fun z => (s.newp q z).elim n.ps h⟩
  cases e : G' q with
  | none => rfl
  | some u => exact (s.new q u e).elim (fun z => by rw [n.hp] at z; cases z) fun z => absurd z h
theorem Wd.no_of {G : Wd} {H : Hp} {q : Addr} (gh : Ex G H) (h : H q = none) (np : q ∉ G.ps) : G.No q := by
  refine ⟨?_, np⟩
  cases e : G q with
  | none => rfl
  | some u => have := gh q u e; rw [h] at this; cases this
/-- a new object, standing from now on -/
theorem Stp.lay {B : Addr → Prop} {G : Wd} {H : Hp} {p : Addr} {o : HO} (gh : Ex G H) (h : H p = none) : Stp B G H (wup G p o) (upd H p o) := by
  refine ⟨⟨fun a u e => ?_, fun _ _ h => h⟩, fun a u e => ?_, fun q u e _ _ => ?_, fun q e => ?_, fun a u e => ?_, Nwp.poke (Nwp.refl) (.inr h)⟩
  · show upd G.hp p o a = some u
    rw [upd_ne (ne_of_none (gh a u e) h)]; exact e
  · by_cases z : a = p
    · subst z; rw [wup_same] at e; rw [upd_same]; exact e
    · rw [wup_ne z] at e; rw [upd_ne z]; exact gh a u e
  · rw [upd_ne (ne_of_none e h)]; exact e
  · by_cases z : q = p
    · subst z; exact h
    · rw [upd_ne z] at e; exact e
  · by_cases z : a = p
    · subst z; exact .inr h
    · rw [wup_ne z] at e; exact .inl e
/-- a new object that does not stand yet -/
theorem Stp.lay0 {B : Addr → Prop} {G : Wd} {H : Hp} {p : Addr} {o : HO} (gh : Ex G H) (h : H p = none) : Stp B G H G (upd H p o) := by
  refine ⟨Ew.refl G, fun a u e => ?_, fun q u e _ _ => ?_, fun q e => ?_, fun a u e => .inl e, Nwp.refl.poke (.inr h)⟩
  · rw [upd_ne (ne_of_none (gh a u e) h)]; exact gh a u e
  · rw [upd_ne (ne_of_none e h)]; exact e
  · by_cases z : q = p
    · subst z; exact h
    · rw [upd_ne z] at e; exact e
/-- what a slot holds: a datum, a list of one's own, an instance that is being made -/
inductive L where
  | dat (d : D) | cell (ds : List D) | obj (a C : Addr) (ns : List Str) (ds : List D)
abbrev Loc := List (Option L)

/-- what may change: a list, an instance, a dict -/
inductive MO where
  | lst (ds : List D) | ins (C : Addr) (ns : List Str) (ds : List D) | dct (kvs : List (Key × V))
/-- the state of a reading: the pot, and what may change -/
structure S where
  pot : List Int
  st : List MO
  ver : Nat
def MAt (P : Addr) (G : Wd) (H : Hp) (a : Addr) : MO → Prop
  | .lst ds => ∃ vs, H a = some (.lst vs) ∧ AtL P G vs ds
  | .ins C ns ds => ∃ vs dx, H a = some (.ins C dx (ns.zip vs)) ∧ AtL P G vs ds ∧ ns.length = ds.length
  | .dct kvs => H a = some (.dK kvs)
theorem MAt.mono {P : Addr} {G G' : Wd} {H H' : Hp} {a : Addr} (e : Ew G G') (h : H' a = H a) : ∀ {m : MO}, MAt P G H a m → MAt P G' H' a m
  | .lst ds, ⟨vs, h1, h2⟩ => ⟨vs, h.trans h1, AtL.mono e h2⟩
  | .ins C ns ds, ⟨vs, dx, h1, h2, h3⟩ => ⟨vs, dx, h.trans h1, AtL.mono e h2, h3⟩
  | .dct kvs, h1 => h.trans h1
theorem MAt.there {P : Addr} {G : Wd} {H : Hp} {a : Addr} {m : MO} (h : MAt P G H a m) : H a ≠ none := by
  intro z
  cases m with
  | lst ds => obtain ⟨vs, h1, _⟩ := h; rw [z] at h1; cases h1
  | ins C ns ds => obtain ⟨vs, dx, h1, _⟩ := h; rw [z] at h1; cases h1
  | dct kvs => have h1 : H a = some (.dK kvs) := h; rw [z] at h1; cases h1

/-- P: the pot's place; B: the pot; inv: what it holds -/
structure Cfg where
  K : PySem.W.Frag
  P : Addr
  ec : Nat → Addr
  B : Addr → Prop
  inv : List Int → Hp → Prop
  full : ∀ {p : List Int} {H : Hp}, inv p H → ∀ a, B a → H a ≠ none
  ext : ∀ {p : List Int} {H H' : Hp}, (∀ a, B a → H' a = H a) → inv p H → inv p H'
def Cfg.R (c : Cfg) (G : Wd) (a : Addr) : Prop := c.B a ∨ a ∈ G.ps
/-- the heap holds the state -/
structure Sat (c : Cfg) (G : Wd) (p : S) (H : Hp) : Prop where
  inv : c.inv p.pot H
  len : p.st.length = G.ps.length
  ver : p.ver = G.ver
  nd : G.ps.Nodup
  no : ∀ a, a ∈ G.ps → ¬ c.B a ∧ G a = none
  at_ : ∀ (j : Nat) (m : MO) (a : Addr), p.st[j]? = some m → G.ps[j]? = some a → MAt c.P G H a m
/-- what the state holds is as it was -/
structure Same (c : Cfg) (G : Wd) (H : Hp) (G' : Wd) (H' : Hp) : Prop where
  ps : G'.ps = G.ps
  ver : G'.ver = G.ver
  eq : ∀ a, c.R G a → H' a = H a
theorem Sat.full {c : Cfg} {G : Wd} {p : S} {H : Hp} (s : Sat c G p H) : ∀ a, c.R G a → H a ≠ none := fun a r => r.elim (fun b => c.full s.inv a b) fun b z => by
  obtain ⟨j, hj⟩ := List.mem_iff_getElem?.mp b
  have hl : j < p.st.length := by rw [s.len]; exact (List.getElem?_eq_some_iff.mp hj).1
  exact (s.at_ j _ a (List.getElem?_eq_getElem hl) hj).there z
theorem Sat.same {c : Cfg} {G G' : Wd} {p : S} {H H' : Hp} (s : Sat c G p H) (t : Stp c.B G H G' H') (e : Same c G H G' H') : Sat c G' p H' := by
  refine ⟨c.ext (fun a b => e.eq a (.inl b)) s.inv, by rw [e.ps]; exact s.len, s.ver.trans e.ver.symm, by rw [e.ps]; exact s.nd, fun a h => ?_, fun j m a h1 h2 => ?_⟩
  · rw [e.ps] at h
    refine ⟨(s.no a h).1, ?_⟩
    cases z : G' a with
    | none => rfl
    | some u => exact (t.new a u z).elim (fun y => by rw [(s.no a h).2] at y; cases y) fun y => absurd y (s.full a (.inr h))
  · rw [e.ps] at h2
    exact (s.at_ j m a h1 h2).mono t.gg (e.eq a (.inr (List.mem_of_getElem? h2)))
theorem Sat.ext {c : Cfg} {G : Wd} {p : S} {H H' : Hp} (e : ∀ a, c.R G a → H' a = H a) (s : Sat c G p H) : Sat c G p H' :=
  ⟨c.ext (fun a b => e a (.inl b)) s.inv, s.len, s.ver, s.nd, s.no, fun j m a h1 h2 => (s.at_ j m a h1 h2).mono (Ew.refl G) (e a (.inr (List.mem_of_getElem? h2)))⟩
/-- a new standing object -/
theorem Sat.stand {c : Cfg} {G : Wd} {p : S} {H : Hp} {q : Addr} {o : HO} (s : Sat c G p H) (n : G.No q) : Sat c (wup G q o) p H :=
  ⟨s.inv, s.len, s.ver, s.nd, fun a h => ⟨(s.no a h).1, by rw [wup_ne (fun z => n.ps (by rw [← z]; exact h))]; exact (s.no a h).2⟩, fun j m a h1 h2 => (s.at_ j m a h1 h2).mono (Ew.new n.hp) rfl⟩
/-- something that is no part of the state changes -/
theorem Sat.poke {c : Cfg} {G : Wd} {p : S} {H : Hp} {q : Addr} {o : HO} (s : Sat c G p H) (nB : ¬ c.B q) (n : G.No q) : Sat c G p (upd H q o) := s.ext fun a r => upd_ne fun z => r.elim (fun b => nB (by rw [← z]; exact b)) fun b => n.ps (by rw [← z]; exact b)
theorem Same.refl {c : Cfg} {G : Wd} {H : Hp} : Same c G H G H := ⟨rfl, rfl, fun _ _ => rfl⟩
theorem Same.lay {c : Cfg} {G : Wd} {H : Hp} {p : Addr} {o u : HO} (f : ∀ a, c.R G a → H a ≠ none) (h : H p = none) : Same c G H (wup G p u) (upd H p o) := ⟨rfl, rfl, fun a r => upd_ne fun z => f a r (by rw [z]; exact h)⟩
theorem Same.lay0 {c : Cfg} {G : Wd} {H : Hp} {p : Addr} {o : HO} (f : ∀ a, c.R G a → H a ≠ none) (h : H p = none) : Same c G H G (upd H p o) := ⟨rfl, rfl, fun a r => upd_ne fun z => f a r (by rw [z]; exact h)⟩
theorem Same.up {c : Cfg} {G G' : Wd} {H : Hp} {p : Addr} {o : HO} (f : ∀ a, c.R G a → H a ≠ none) (h : H p = none) (e : G'.ps = G.ps := by rfl) (e2 : G'.ver = G.ver := by rfl) : Same c G H G' (upd H p o) := ⟨e, e2, fun a r => upd_ne fun z => f a r (by rw [z]; exact h)⟩
theorem Same.trans {c : Cfg} {G G1 G2 : Wd} {H H1 H2 : Hp} (a : Same c G H G1 H1) (b : Same c G1 H1 G2 H2) : Same c G H G2 H2 := ⟨b.ps.trans a.ps, b.ver.trans a.ver, fun x r => (b.eq x (r.imp_right fun m => by rw [a.ps]; exact m)).trans (a.eq x r)⟩

def SlotAt (c : Cfg) (H0 : Hp) (G : Wd) (H : Hp) : Option (Option V) → L → Prop
  | some (some v), .dat d => At c.P G v d
  | some (some (.ref p)), .cell ds => ∃ vs, H p = some (.lst vs) ∧ AtL c.P G vs ds ∧ G.No p ∧ H0 p = none
  | some (some (.ref p)), .obj a C ns ds => p = a ∧ ∃ vs dx, H p = some (.ins C dx (ns.zip vs)) ∧ AtL c.P G vs ds ∧ G.No p ∧ H0 p = none ∧ ¬ c.B p ∧ (ns = [] → H dx = some (.own p) ∧ H0 dx = none ∧ G.No dx ∧ dx ≠ p)
  | _, _ => False
def owned : L → Bool
  | .dat _ => false
  | _ => true

structure Rel (c : Cfg) (G0 : Wd) (H0 : Hp) (G : Wd) (H : Hp) (σ : St) (l : Loc) (pot : S) : Prop where
  stp : Stp c.B G0 H0 G H
  pot : Sat c G pot H
  gP : ∀ a, c.B a → G a = none
  hP : ∀ a, c.R G0 a → H0 a ≠ none
  len : σ.length = l.length
  slot : ∀ (i : Nat) (x : L), l[i]? = some (some x) → SlotAt c H0 G H σ[i]? x
  dist : ∀ (i j : Nat) (x y : L), l[i]? = some (some x) → l[j]? = some (some y) → owned x = true → owned y = true → i ≠ j → σ[i]? ≠ σ[j]?

inductive R (α : Type) where
  | ok (a : α) (pot : S) | err (n : Nat) (pot : S) | bad
def R.bind {α β : Type} : R α → (α → S → R β) → R β
  | .ok a p, k => k a p
  | .err n p, _ => .err n p
  | .bad, _ => .bad
abbrev M (α : Type) := Loc → S → R α

section
variable {c : Cfg} {G0 G G' : Wd} {H0 H H' : Hp} {σ : St} {l : Loc} {pot pot' : S}
theorem SlotAt.step {x : L} {o : Option (Option V)} (hh : ∀ a, c.B a → H0 a ≠ none) (s : Stp c.B G H G' H') (a : SlotAt c H0 G H o x) : SlotAt c H0 G' H' o x := by
  match o, x, a with
  | some (some v), .dat d, a => exact At.mono s.gg a
  | some (some (.ref p)), .cell ds, ⟨vs, h1, h2, h3, h4⟩ =>
    exact ⟨vs, s.keep p _ h1 (fun z => hh p z h4) h3.ps, AtL.mono s.gg h2, s.no h3 (by rw [h1]; exact fun z => nomatch z), h4⟩
  | some (some (.ref p)), .obj a C ns ds, ⟨ea, vs, dx, h1, h2, h3, h4, h5, h6⟩ => exact ⟨ea, vs, dx, s.keep p _ h1 h5 h3.ps, AtL.mono s.gg h2, s.no h3 (by rw [h1]; exact fun z => nomatch z), h4, h5, fun z => ⟨s.keep dx _ (h6 z).1 (fun w => hh dx w (h6 z).2.1) (h6 z).2.2.1.ps, (h6 z).2.1, s.no (h6 z).2.2.1 (by rw [(h6 z).1]; exact fun z => nomatch z), (h6 z).2.2.2⟩⟩
theorem Rel.hp (r : Rel c G0 H0 G H σ l pot) : ∀ a, c.R G a → H a ≠ none := r.pot.full
theorem Rel.h0 (r : Rel c G0 H0 G H σ l pot) : ∀ a, c.B a → H0 a ≠ none := fun a b => r.hP a (.inl b)
/-- the state behind an expression -/
theorem Rel.step (r : Rel c G0 H0 G H σ l pot) (s : Stp c.B G H G' H') (hp : Sat c G' pot' H') : Rel c G0 H0 G' H' σ l pot' := by
  refine ⟨r.stp.trans s, hp, fun a b => ?_, r.hP, r.len, fun i x e => (r.slot i x e).step r.h0 s, r.dist⟩
  cases e : G' a with
  | none => rfl
  | some w =>
    rcases s.new _ w e with z | z
    · rw [r.gP a b] at z; cases z
    · exact absurd z (r.hp a (.inl b))
/-- nothing that belongs to the state is touched -/
theorem Rel.same (r : Rel c G0 H0 G H σ l pot) (s : Stp c.B G H G' H') (hp : Same c G H G' H') : Rel c G0 H0 G' H' σ l pot := r.step s (r.pot.same s hp)
end
/-- what is changed is a list of ints: the pot -/
structure Cfg.Pot (c : Cfg) : Prop where
  b : ∀ a, c.B a ↔ a = c.P
  i : ∀ p H, c.inv p H ↔ H c.P = some (.lst (p.map V.int))
def potCfg (K : PySem.W.Frag) (P : Addr) (ec : Nat → Addr) : Cfg := ⟨K, P, ec, fun a => a = P, fun p H => H P = some (.lst (p.map V.int)), (fun {p H} h a b z => by rw [b, h] at z; cases z), (fun {p H H'} e h => by rw [e P rfl]; exact h)⟩
theorem potCfg_pot (K : PySem.W.Frag) (P : Addr) (ec : Nat → Addr) : (potCfg K P ec).Pot := ⟨fun _ => Iff.rfl, fun _ _ => Iff.rfl⟩

/-- what is wanted behind a reading that comes to r -/
def Post (c : Cfg) (E : St → XK) {α β : Type} (rel : Wd → α → β → Prop) (G0 : Wd) (H0 : Hp) (G : Wd) (H : Hp) (σ : St) (l : Loc) : R β → (α → Hp → Prop) → Prop
  | .ok b p, Q => ∀ a G' H', Stp c.B G H G' H' → Rel c G0 H0 G' H' σ l p → rel G' a b → Q a H'
  | .err n p, _ => ∀ G' H', Ew G G' → Rel c G0 H0 G' H' σ l p → E σ (.ref (c.ec n)) none H'
  | .bad, _ => False
/-- what an expression's (a test's, an argument list's) reading owes to its function -/
def Sn (c : Cfg) (E : St → XK) {α β : Type} (rel : Wd → α → β → Prop) (t : St → Hp → (α → Hp → Prop) → Prop) (e : M β) : Prop :=
  ∀ G0 H0 G H σ l pot, Rel c G0 H0 G H σ l pot → ∀ Q : α → Hp → Prop, Post c E rel G0 H0 G H σ l (e l pot) Q → t σ H Q
abbrev rD (c : Cfg) : Wd → V → D → Prop := fun G v d => At c.P G v d
abbrev rB : Wd → Bool → Bool → Prop := fun _ a b => a = b
abbrev rA (c : Cfg) : Wd → List V → List D → Prop := fun G v d => AtL c.P G v d
abbrev SE (c : Cfg) (E : St → XK) (t : TE) (e : M D) : Prop := Sn c E (rD c) t e
abbrev ST (c : Cfg) (E : St → XK) (t : TT) (e : M Bool) : Prop := Sn c E rB t e
abbrev SA (c : Cfg) (E : St → XK) (t : TA) (e : M (List D)) : Prop := Sn c E (rA c) t e
def mbind {α β : Type} (a : M α) (k : α → M β) : M β := fun l p => (a l p).bind fun x p' => k x l p'
def mret {α : Type} (a : α) : M α := fun _ p => .ok a p
def mlift {α : Type} : Option α → M α
  | some a => mret a
  | none => fun _ _ => .bad

section
variable {c : Cfg} {E : St → XK} {α β : Type} {rel : Wd → α → β → Prop} {G0 : Wd} {H0 : Hp} {G : Wd} {H : Hp} {G' : Wd} {H' : Hp} {σ : St} {l : Loc} {pot pot' : S}
theorem Post.mono {r : R β} {Q : α → Hp → Prop} (p : Post c E rel G0 H0 G H σ l r Q) (s : Stp c.B G H G' H') : Post c E rel G0 H0 G' H' σ l r Q := by
  cases r with
  | ok b q => exact fun a G2 H2 s2 r2 ra => p a G2 H2 (s.trans s2) r2 ra
  | err n q => exact fun G2 H2 e2 r2 => p G2 H2 (s.gg.trans e2) r2
  | bad => exact p
theorem Post.ok {b : β} {Q : α → Hp → Prop} {a : α} (p : Post c E rel G0 H0 G H σ l (.ok b pot) Q) (r : Rel c G0 H0 G H σ l pot) (h : rel G a b) : Q a H := p a G H (Stp.refl r.stp.gh) r h
theorem Sn.go {γ δ : Type} {rel' : Wd → γ → δ → Prop} {t1 : St → Hp → (γ → Hp → Prop) → Prop} {e1 : M δ} (h1 : Sn c E rel' t1 e1) (r : Rel c G0 H0 G H σ l pot) {k : δ → M β} {Q : α → Hp → Prop} {X : γ → Hp → Prop}
    (post : Post c E rel G0 H0 G H σ l (mbind e1 k l pot) Q)
    (h2 : ∀ a b p G' H', Stp c.B G H G' H' → Rel c G0 H0 G' H' σ l p → rel' G' a b → Post c E rel G0 H0 G' H' σ l (k b l p) Q → X a H') : t1 σ H X := by
  refine h1 G0 H0 G H σ l pot r _ ?_
  unfold mbind at post
  cases e : e1 l pot with
  | ok b p =>
    rw [e] at post
    exact fun a G' H' s r' ra => h2 a b p G' H' s r' ra (Post.mono post s)
  | err n p =>
    rw [e] at post
    exact post
  | bad =>
    rw [e] at post
    exact post
end
end Den
namespace Den
open PySem L2
section
variable {c : Cfg} {E : St → XK}
def mvar (i : Nat) : M D := fun l p => match l[i]? with
  | some (some (.dat d)) => .ok d p
  | _ => .bad
theorem se_var {i : Nat} : SE c E (tVar i) (mvar i) := by
  intro G0 H0 G H σ l pot r Q post
  unfold mvar at post
  split at post
  · rename_i d e
    have a := r.slot i _ e
    cases e2 : σ[i]? with
    | none => rw [e2] at a; exact a.elim
    | some o =>
      cases o with
      | none => rw [e2] at a; exact a.elim
      | some v =>
        rw [e2] at a
        exact ⟨v, e2, Post.ok post r a⟩
  · exact post.elim
theorem se_c {v : V} {d : D} (h : ∀ P G, At P G v d) : SE c E (tC v) (mret d) := fun G0 H0 G H σ l pot r Q post => Post.ok post r (h _ _)
theorem se_int {i : Int} : SE c E (tC (.int i)) (mret (.int i)) := se_c fun _ _ => .int i
theorem se_str {x : Str} : SE c E (tC (.str x)) (mret (.str x)) := se_c fun _ _ => .str x
theorem se_bl {b : Bool} : SE c E (tC (.bl b)) (mret (.bl b)) := se_c fun _ _ => .bl b
theorem se_non : SE c E (tC .non) (mret .non) := se_c fun _ _ => .non

/-- behind an operation: perhaps something new, the pot as it was -/
def OpS (c : Cfg) (t : Hp → VK → Prop) (G : Wd) (H : Hp) (d : D) : Prop := ∀ Q : VK, (∀ v G' H', Stp c.B G H G' H' → Same c G H G' H' → At c.P G' v d → Q v H') → t H Q
structure S2 (c : Cfg) (r : R2) (f : D → D → Option D) : Prop where
  run : ∀ (G : Wd) (H : Hp) x y dx dy d, Ex G H → (∀ a, c.R G a → H a ≠ none) → At c.P G x dx → At c.P G y dy → f dx dy = some d → OpS c (r x y) G H d
structure S1 (c : Cfg) (r : V → Hp → VK → Prop) (f : D → Option D) : Prop where
  run : ∀ (G : Wd) (H : Hp) x dx d, Ex G H → (∀ a, c.R G a → H a ≠ none) → At c.P G x dx → f dx = some d → OpS c (r x) G H d
structure SN (c : Cfg) (r : List V → Hp → VK → Prop) (f : List D → Option D) : Prop where
  run : ∀ (G : Wd) (H : Hp) xs ds d, Ex G H → (∀ a, c.R G a → H a ≠ none) → AtL c.P G xs ds → f ds = some d → OpS c (r xs) G H d
def op2 (f : D → D → Option D) (a b : M D) : M D := mbind a fun x => mbind b fun y => mlift (f x y)
def op1 (f : D → Option D) (a : M D) : M D := mbind a fun x => mlift (f x)
def opn (f : List D → Option D) (a : M (List D)) : M D := mbind a fun x => mlift (f x)
theorem post_op {G0 : Wd} {H0 : Hp} {G : Wd} {H : Hp} {σ : St} {l : Loc} {pot : S} {o : Option D} {t : Hp → VK → Prop} {Q : VK} (r : Rel c G0 H0 G H σ l pot) (post : Post c E (rD c) G0 H0 G H σ l (mlift o l pot) Q)
    (h : ∀ d, o = some d → OpS c t G H d) : t H Q := by
  cases o with
  | none => exact post.elim
  | some d => exact h d rfl Q fun v G' H' s hp a => post v G' H' s (r.same s hp) a
theorem se_op2 {r : R2} {f : D → D → Option D} {ta tb : TE} {a b : M D} (hr : S2 c r f) (ha : SE c E ta a) (hb : SE c E tb b) : SE c E (tOp r ta tb) (op2 f a b) := by
  intro G0 H0 G H σ l pot rl Q post
  refine Sn.go ha rl post fun x dx p G1 H1 s1 r1 hx post1 => ?_
  refine Sn.go hb r1 post1 fun y dy p2 G2 H2 s2 r2 hy post2 => ?_
  exact post_op (t := r x y) r2 post2 fun d e => hr.run G2 H2 x y dx dy d r2.stp.gh r2.hp (At.mono s2.gg hx) hy e
theorem se_op1 {r : V → Hp → VK → Prop} {f : D → Option D} {ta : TE} {a : M D} (hr : S1 c r f) (ha : SE c E ta a) : SE c E (tUn r ta) (op1 f a) := by
  intro G0 H0 G H σ l pot rl Q post
  refine Sn.go ha rl post fun x dx p G1 H1 s1 r1 hx post1 => ?_
  exact post_op (t := r x) r1 post1 fun d e => hr.run G1 H1 x dx d r1.stp.gh r1.hp hx e
theorem se_cb {r : List V → Hp → VK → Prop} {f : List D → Option D} {ta : TA} {a : M (List D)} (hr : SN c r f) (ha : SA c E ta a) : SE c E (tCB r ta) (opn f a) := by
  intro G0 H0 G H σ l pot rl Q post
  refine Sn.go ha rl post fun x dx p G1 H1 s1 r1 hx post1 => ?_
  exact post_op (t := r x) r1 post1 fun d e => hr.run G1 H1 x dx d r1.stp.gh r1.hp hx e
def anil : M (List D) := mret []
def acons (a : M D) (b : M (List D)) : M (List D) := mbind a fun x => mbind b fun ys => mret (x :: ys)
theorem sa_nil : SA c E tNil anil := fun G0 H0 G H σ l pot r Q post => Post.ok post r .nil
theorem sa_cons {te : TE} {t : TA} {a : M D} {b : M (List D)} (ha : SE c E te a) (hb : SA c E t b) : SA c E (tCons te t) (acons a b) := by
  intro G0 H0 G H σ l pot rl Q post
  refine Sn.go ha rl post fun x dx p G1 H1 s1 r1 hx post1 => ?_
  refine Sn.go hb r1 post1 fun ys dys p2 G2 H2 s2 r2 hy post2 => ?_
  exact Post.ok post2 r2 (.cons (At.mono s2.gg hx) hy)
def seqOf : D → Option (List D)
  | .lst ds => some ds
  | .tup ds => some ds
  | _ => none
theorem seq_at {P : Addr} {G : Wd} {x : V} {d : D} {ds : List D} (h : At P G x d) (e : seqOf d = some ds) : ∃ p vs, x = .ref p ∧ (G p = some (.lst vs) ∨ G p = some (.tup vs)) ∧ AtL P G vs ds := by
  cases h with
  | lst h a => cases e; exact ⟨_, _, rfl, .inl h, a⟩
  | tup h a => cases e; exact ⟨_, _, rfl, .inr h, a⟩
  | _ => cases e
theorem sqLT {K : PySem.W.Frag} {G : Wd} {H : Hp} {p : Addr} {vs : List V} (e : Ex G H) (h : G p = some (.lst vs) ∨ G p = some (.tup vs)) : SqL K H p vs ∨ SqT K H p vs := h.elim (fun z => .inl (.inl (.inl (e _ _ z)))) fun z => .inr (.inl (.inl (e _ _ z)))
def astar (a : M D) (b : M (List D)) : M (List D) := mbind a fun x => mbind (mlift (seqOf x)) fun ds => mbind b fun ys => mret (ds ++ ys)
theorem post_lift {α β : Type} {rel : Wd → α → β → Prop} {G0 : Wd} {H0 : Hp} {G : Wd} {H : Hp} {σ : St} {l : Loc} {pot : S} {γ : Type} {o : Option γ} {k : γ → M β} {Q : α → Hp → Prop} (post : Post c E rel G0 H0 G H σ l (mbind (mlift o) k l pot) Q) :
    ∃ g, o = some g ∧ Post c E rel G0 H0 G H σ l (k g l pot) Q := by
  cases o with
  | none => exact post.elim
  | some g => exact ⟨g, rfl, post⟩
theorem sa_star {te : TE} {t : TA} {a : M D} {b : M (List D)} (ha : SE c E te a) (hb : SA c E t b) : SA c E (StX.tStar c.K te t) (astar a b) := by
  intro G0 H0 G H σ l pot rl Q post
  refine Sn.go ha rl post fun x dx p G1 H1 s1 r1 hx post1 => ?_
  obtain ⟨ds, e, post2⟩ := post_lift post1
  obtain ⟨q, vs, rfl, h, a⟩ := seq_at hx e
  refine ⟨_, _, rfl, (sqLT r1.stp.gh h).symm, ?_⟩
  refine Sn.go hb r1 post2 fun ys dys p2 G2 H2 s2 r2 hy post2 => ?_
  exact Post.ok post2 r2 (AtL.append (AtL.mono s2.gg a) hy)

theorem ops_pure {t : Hp → VK → Prop} {G : Wd} {H : Hp} {d : D} {v : V} (gh : Ex G H) (a : At c.P G v d) (h : ∀ Q : VK, Q v H → t H Q) : OpS c t G H d := fun Q q => h Q (q v G H (Stp.refl gh) Same.refl a)
theorem ops_new {t : Hp → VK → Prop} {G : Wd} {H : Hp} {d : D} (o : HO) (gh : Ex G H) (hP : (∀ a, c.R G a → H a ≠ none)) (a : ∀ p, H p = none → At c.P (wup G p o) (.ref p) d) (h : ∀ Q : VK, (∀ p, H p = none → Q (.ref p) (upd H p o)) → t H Q) : OpS c t G H d := fun Q q =>
  h Q fun p hp => q _ _ _ (Stp.lay gh hp) (Same.lay hP hp) (a p hp)
theorem none_of {G : Wd} {H : Hp} {p : Addr} (gh : Ex G H) (h : H p = none) : G p = none := by
  cases e : G p with
  | none => rfl
  | some u => have := gh p u e; rw [h] at this; cases this
theorem at_new_l {P : Addr} {G : Wd} {H : Hp} {p : Addr} {vs : List V} {ds : List D} (gh : Ex G H) (h : H p = none) (a : AtL P G vs ds) : At P (wup G p (.lst vs)) (.ref p) (.lst ds) := .lst wup_same (AtL.mono (Ew.new (none_of gh h)) a)
theorem at_new_t {P : Addr} {G : Wd} {H : Hp} {p : Addr} {vs : List V} {ds : List D} (gh : Ex G H) (h : H p = none) (a : AtL P G vs ds) : At P (wup G p (.tup vs)) (.ref p) (.tup ds) := .tup wup_same (AtL.mono (Ew.new (none_of gh h)) a)
def fI (g : Int → Int → Option D) : D → D → Option D
  | .int i, .int j => g i j
  | _, _ => none
theorem fI_at {g : Int → Int → Option D} {P : Addr} {G : Wd} {x y : V} {dx dy d : D} (hx : At P G x dx) (hy : At P G y dy) (e : fI g dx dy = some d) : ∃ i j, x = .int i ∧ y = .int j ∧ g i j = some d := by
  cases hx with
  | int i =>
    cases hy with
    | int j => exact ⟨i, j, rfl, rfl, e⟩
    | _ => cases e
  | _ => cases e
def fAdd : D → D → Option D := fI fun i j => some (.int (i + j))
def fSub : D → D → Option D := fI fun i j => some (.int (i - j))
def fMul : D → D → Option D := fI fun i j => if i.natAbs < 18446744073709551616 ∨ j.natAbs < 18446744073709551616 then some (.int (i * j)) else none
def fDiv : D → D → Option D := fI fun i j => if 0 < j ∧ j.natAbs < 1073741824 then some (.int (i / j)) else none
def fMod : D → D → Option D := fI fun i j => if 0 < j then some (.int (i % j)) else none
def fPow : D → D → Option D := fI fun i j => if 0 ≤ j ∧ j.natAbs ≤ 1000000 ∧ i.natAbs < 18446744073709551616 then some (.int (i ^ j.toNat)) else none
def fLt : D → D → Option D := fI fun i j => some (.bl (decide (i < j)))
def fLe : D → D → Option D := fI fun i j => some (.bl (decide (i ≤ j)))
def fGt : D → D → Option D := fI fun i j => some (.bl (decide (j < i)))
def fGe : D → D → Option D := fI fun i j => some (.bl (decide (j ≤ i)))
theorem s2_add : S2 c (rI0 fun i j => .int (i + j)) fAdd := ⟨fun G H x y dx dy d gh _ hx hy e => by
  obtain ⟨i, j, rfl, rfl, e⟩ := fI_at hx hy e
  cases e
  exact ops_pure gh (.int _) fun Q q => ⟨i, j, rfl, rfl, q⟩⟩
theorem s2_sub : S2 c (rI0 fun i j => .int (i - j)) fSub := ⟨fun G H x y dx dy d gh _ hx hy e => by
  obtain ⟨i, j, rfl, rfl, e⟩ := fI_at hx hy e
  cases e
  exact ops_pure gh (.int _) fun Q q => ⟨i, j, rfl, rfl, q⟩⟩
theorem s2_mul : S2 c (rI CMul fun i j => .int (i * j)) fMul := ⟨fun G H x y dx dy d gh _ hx hy e => by
  obtain ⟨i, j, rfl, rfl, e⟩ := fI_at hx hy e
  split at e
  · rename_i z
    cases e
    exact ops_pure gh (.int _) fun Q q => ⟨i, j, rfl, rfl, (by unfold CMul; omega), q⟩
  · cases e⟩
theorem s2_div : S2 c (rI CDiv fun i j => .int (i / j)) fDiv := ⟨fun G H x y dx dy d gh _ hx hy e => by
  obtain ⟨i, j, rfl, rfl, e⟩ := fI_at hx hy e
  split at e
  · rename_i z
    cases e
    exact ops_pure gh (.int _) fun Q q => ⟨i, j, rfl, rfl, (by unfold CDiv; omega), q⟩
  · cases e⟩
theorem s2_mod : S2 c (rI (fun _ j => 0 < j) fun i j => .int (i % j)) fMod := ⟨fun G H x y dx dy d gh _ hx hy e => by
  obtain ⟨i, j, rfl, rfl, e⟩ := fI_at hx hy e
  split at e
  · rename_i z
    cases e
    exact ops_pure gh (.int _) fun Q q => ⟨i, j, rfl, rfl, z, q⟩
  · cases e⟩
theorem s2_pow : S2 c (rI CPow fun i j => .int (i ^ j.toNat)) fPow := ⟨fun G H x y dx dy d gh _ hx hy e => by
  obtain ⟨i, j, rfl, rfl, e⟩ := fI_at hx hy e
  split at e
  · rename_i z
    cases e
    exact ops_pure gh (.int _) fun Q q => ⟨i, j, rfl, rfl, (by unfold CPow; omega), q⟩
  · cases e⟩
theorem s2_lt : S2 c (rI0 fun i j => .bl (decide (i < j))) fLt := ⟨fun G H x y dx dy d gh _ hx hy e => by
  obtain ⟨i, j, rfl, rfl, e⟩ := fI_at hx hy e
  cases e
  exact ops_pure gh (.bl _) fun Q q => ⟨i, j, rfl, rfl, q⟩⟩
theorem s2_le : S2 c (rI0 fun i j => .bl (decide (i ≤ j))) fLe := ⟨fun G H x y dx dy d gh _ hx hy e => by
  obtain ⟨i, j, rfl, rfl, e⟩ := fI_at hx hy e
  cases e
  exact ops_pure gh (.bl _) fun Q q => ⟨i, j, rfl, rfl, q⟩⟩
theorem s2_gt : S2 c (rI0 fun i j => .bl (decide (j < i))) fGt := ⟨fun G H x y dx dy d gh _ hx hy e => by
  obtain ⟨i, j, rfl, rfl, e⟩ := fI_at hx hy e
  cases e
  exact ops_pure gh (.bl _) fun Q q => ⟨i, j, rfl, rfl, q⟩⟩
theorem s2_ge : S2 c (rI0 fun i j => .bl (decide (j ≤ i))) fGe := ⟨fun G H x y dx dy d gh _ hx hy e => by
  obtain ⟨i, j, rfl, rfl, e⟩ := fI_at hx hy e
  cases e
  exact ops_pure gh (.bl _) fun Q q => ⟨i, j, rfl, rfl, q⟩⟩
def fNeg : D → Option D
  | .int i => some (.int (-i))
  | _ => none
theorem s1_neg : S1 c (rU fun i => .int (-i)) fNeg := ⟨fun G H x dx d gh _ hx e => by
  cases hx with
  | int i => cases e; exact ops_pure gh (.int _) fun Q q => ⟨i, rfl, q⟩
  | _ => cases e⟩
/-- == of the scalars -/
def sc : D → Option V
  | .non => some .non
  | .int i => some (.int i)
  | .str x => some (.str x)
  | .bl b => some (.bl b)
  | _ => none
theorem sc_at {P : Addr} {G : Wd} {x : V} {d : D} {v : V} (h : At P G x d) (e : sc d = some v) : x = v := by
  cases h with
  | non => cases e; rfl
  | bl b => cases e; rfl
  | int i => cases e; rfl
  | str s => cases e; rfl
  | _ => cases e
def fEq (a b : D) : Option D := match sc a, sc b with
  | some v, some w => if scal v w = true then some (.bl (decide (v = w))) else none
  | _, _ => none
def fNe (a b : D) : Option D := match sc a, sc b with
  | some v, some w => if scal v w = true then some (.bl (!decide (v = w))) else none
  | _, _ => none
theorem s2_eq : S2 c rEq fEq := ⟨fun G H x y dx dy d gh _ hx hy e => by
  unfold fEq at e
  split at e
  · rename_i v w e1 e2
    have q1 := sc_at hx e1
    have q2 := sc_at hy e2
    subst q1 q2
    split at e
    · rename_i z
      cases e
      exact ops_pure gh (.bl _) fun Q q => ⟨z, q⟩
    · cases e
  · cases e⟩
theorem s2_ne : S2 c rNe fNe := ⟨fun G H x y dx dy d gh _ hx hy e => by
  unfold fNe at e
  split at e
  · rename_i v w e1 e2
    have q1 := sc_at hx e1
    have q2 := sc_at hy e2
    subst q1 q2
    split at e
    · rename_i z
      cases e
      exact ops_pure gh (.bl _) fun Q q => ⟨z, q⟩
    · cases e
  · cases e⟩
def isNon : D → Bool
  | .non => true
  | _ => false
theorem isNon_at {P : Addr} {G : Wd} {x : V} {d : D} (h : At P G x d) : decide (x = .non) = isNon d := by
  cases h <;> rfl
def fIsN (a b : D) : Option D := if isNon b then some (.bl (isNon a)) else none
def fNotN (a b : D) : Option D := if isNon b then some (.bl (!isNon a)) else none
theorem s2_isN : S2 c (fun x y H Q => y = .non ∧ Q (.bl (decide (x = .non))) H) fIsN := ⟨fun G H x y dx dy d gh _ hx hy e => by
  unfold fIsN at e
  split at e
  · rename_i z
    cases e
    rw [← isNon_at hy] at z
    exact ops_pure gh (.bl _) fun Q q => ⟨of_decide_eq_true z, by rw [isNon_at hx]; exact q⟩
  · cases e⟩
theorem s2_notN : S2 c (fun x y H Q => y = .non ∧ Q (.bl (!decide (x = .non))) H) fNotN := ⟨fun G H x y dx dy d gh _ hx hy e => by
  unfold fNotN at e
  split at e
  · rename_i z
    cases e
    rw [← isNon_at hy] at z
    exact ops_pure gh (.bl _) fun Q q => ⟨of_decide_eq_true z, by rw [isNon_at hx]; exact q⟩
  · cases e⟩

def mand (a b : M Bool) : M Bool := mbind a fun x => if x = true then b else mret false
def mor (a b : M Bool) : M Bool := mbind a fun x => if x = true then mret true else b
def mnot (a : M Bool) : M Bool := mbind a fun x => mret (!x)
def mif {α : Type} (t : M Bool) (a b : M α) : M α := mbind t fun x => if x = true then a else b
def boolOf : D → Option Bool
  | .bl b => some b
  | _ => none
theorem bool_at {P : Addr} {G : Wd} {x : V} {d : D} {b : Bool} (h : At P G x d) (e : boolOf d = some b) : x = .bl b := by
  cases h with
  | bl b => cases e; rfl
  | _ => cases e
def mtest (a : M D) : M Bool := mbind a fun x => mlift (boolOf x)
theorem st_test {t : TE} {a : M D} (ha : SE c E t a) : ST c E (tTest t) (mtest a) := by
  intro G0 H0 G H σ l pot rl Q post
  refine Sn.go ha rl post fun x dx p G1 H1 s1 r1 hx post1 => ?_
  cases e : boolOf dx with
  | none => rw [e] at post1; exact post1.elim
  | some b =>
    rw [e] at post1
    exact ⟨b, bool_at hx e, Post.ok post1 r1 rfl⟩
theorem st_and {t u : TT} {a b : M Bool} (ha : ST c E t a) (hb : ST c E u b) : ST c E (tAnd t u) (mand a b) := by
  intro G0 H0 G H σ l pot rl Q post
  refine Sn.go ha rl post fun x dx p G1 H1 s1 r1 hx post1 => ?_
  subst hx
  cases x with
  | true => rw [if_pos rfl]; exact hb _ _ _ _ _ _ _ r1 Q post1
  | false => rw [if_neg Bool.false_ne_true]; exact Post.ok post1 r1 rfl
theorem st_or {t u : TT} {a b : M Bool} (ha : ST c E t a) (hb : ST c E u b) : ST c E (tOr t u) (mor a b) := by
  intro G0 H0 G H σ l pot rl Q post
  refine Sn.go ha rl post fun x dx p G1 H1 s1 r1 hx post1 => ?_
  subst hx
  cases x with
  | true => rw [if_pos rfl]; exact Post.ok post1 r1 rfl
  | false => rw [if_neg Bool.false_ne_true]; exact hb _ _ _ _ _ _ _ r1 Q post1
theorem st_not {t : TT} {a : M Bool} (ha : ST c E t a) : ST c E (tNot t) (mnot a) := by
  intro G0 H0 G H σ l pot rl Q post
  refine Sn.go ha rl post fun x dx p G1 H1 s1 r1 hx post1 => ?_
  subst hx
  exact Post.ok post1 r1 rfl
def vand (a b : M D) : M D := mbind (mtest a) fun x => if x = true then b else mret (.bl false)
def vor (a b : M D) : M D := mbind (mtest a) fun x => if x = true then mret (.bl true) else b
def vnot (a : M D) : M D := mbind (mtest a) fun x => mret (.bl (!x))
theorem se_and {ta tb : TE} {a b : M D} (ha : SE c E ta a) (hb : SE c E tb b) : SE c E (tAndV ta tb) (vand a b) := by
  intro G0 H0 G H σ l pot rl Q post
  refine Sn.go (X := fun x H1 => ∃ c, x = .bl c ∧ if c = true then tb σ H1 Q else Q (.bl false) H1) ha rl (k := fun x => mbind (mlift (boolOf x)) fun x => if x = true then b else mret (.bl false)) (by unfold vand mtest at post; unfold mbind at post ⊢; cases e : a l pot <;> simp only [e, R.bind] at post ⊢ <;> exact post) fun x dx p G1 H1 s1 r1 hx post1 => ?_
  obtain ⟨k, e, post2⟩ := post_lift post1
  refine ⟨k, bool_at hx e, ?_⟩
  cases k with
  | true => rw [if_pos rfl]; exact hb _ _ _ _ _ _ _ r1 Q post2
  | false => rw [if_neg Bool.false_ne_true]; exact Post.ok post2 r1 (.bl false)
theorem se_or {ta tb : TE} {a b : M D} (ha : SE c E ta a) (hb : SE c E tb b) : SE c E (tOrV ta tb) (vor a b) := by
  intro G0 H0 G H σ l pot rl Q post
  refine Sn.go (X := fun x H1 => ∃ c, x = .bl c ∧ if c = true then Q (.bl true) H1 else tb σ H1 Q) ha rl (k := fun x => mbind (mlift (boolOf x)) fun x => if x = true then mret (.bl true) else b) (by unfold vor mtest at post; unfold mbind at post ⊢; cases e : a l pot <;> simp only [e, R.bind] at post ⊢ <;> exact post) fun x dx p G1 H1 s1 r1 hx post1 => ?_
  obtain ⟨k, e, post2⟩ := post_lift post1
  refine ⟨k, bool_at hx e, ?_⟩
  cases k with
  | true => rw [if_pos rfl]; exact Post.ok post2 r1 (.bl true)
  | false => rw [if_neg Bool.false_ne_true]; exact hb _ _ _ _ _ _ _ r1 Q post2
theorem se_not {ta : TE} {a : M D} (ha : SE c E ta a) : SE c E (tNotV ta) (vnot a) := by
  intro G0 H0 G H σ l pot rl Q post
  refine Sn.go (β := D) (rel := rD c) (Q := Q) (X := fun x H1 => ∃ c, x = V.bl c ∧ Q (V.bl (!c)) H1) ha rl (k := fun x => mbind (mlift (boolOf x)) fun x => mret (D.bl (!x))) (by unfold vnot mtest at post; unfold mbind at post ⊢; cases e : a l pot <;> simp only [e, R.bind] at post ⊢ <;> exact post) fun x dx p G1 H1 s1 r1 hx post1 => ?_
  obtain ⟨k, e, post2⟩ := post_lift post1
  exact ⟨k, bool_at hx e, Post.ok post2 r1 (.bl _)⟩
theorem se_if {t : TT} {ta tb : TE} {q : M Bool} {a b : M D} (hq : ST c E t q) (ha : SE c E ta a) (hb : SE c E tb b) : SE c E (tIf t ta tb) (mif q a b) := by
  intro G0 H0 G H σ l pot rl Q post
  refine Sn.go hq rl post fun x dx p G1 H1 s1 r1 hx post1 => ?_
  subst hx
  cases x with
  | true => rw [if_pos rfl]; exact ha _ _ _ _ _ _ _ r1 Q post1
  | false => rw [if_neg Bool.false_ne_true]; exact hb _ _ _ _ _ _ _ r1 Q post1
/-- truth -/
def truOf : D → Option Bool
  | .non => some false
  | .bl b => some b
  | .int i => some (i != 0)
  | .lst ds => some (!ds.isEmpty)
  | .tup ds => some (!ds.isEmpty)
  | _ => none
theorem isEmpty_at {P : Addr} {G : Wd} {vs : List V} {ds : List D} (a : AtL P G vs ds) : vs.isEmpty = ds.isEmpty := by
  cases a <;> rfl
theorem tru_at {K : PySem.W.Frag} {P : Addr} {G : Wd} {H : Hp} {x : V} {d : D} {b : Bool} (gh : Ex G H) (h : At P G x d) (e : truOf d = some b) : TruV K x H b := by
  cases h with
  | non => cases e; rfl
  | bl b => cases e; rfl
  | int i => cases e; rfl
  | lst h a => cases e; exact .inl ⟨_, .inl (.inl (gh _ _ h)), by rw [isEmpty_at a]⟩
  | tup h a => cases e; exact .inr (.inl ⟨_, .inl (.inl (gh _ _ h)), by rw [isEmpty_at a]⟩)
  | _ => cases e
def mtru (a : M D) : M Bool := mbind a fun x => mlift (truOf x)
theorem st_tru {t : TE} {a : M D} (ha : SE c E t a) : ST c E (fun σ H Q => t σ H fun x H' => ∃ k, TruV c.K x H' k ∧ Q k H') (mtru a) := by
  intro G0 H0 G H σ l pot rl Q post
  refine Sn.go ha rl post fun x dx p G1 H1 s1 r1 hx post1 => ?_
  cases e : truOf dx with
  | none => rw [e] at post1; exact post1.elim
  | some b =>
    rw [e] at post1
    exact ⟨b, tru_at r1.stp.gh hx e, Post.ok post1 r1 rfl⟩

def rLenS (K : PySem.W.Frag) : List V → Hp → VK → Prop := fun xs H Q => ∃ p ys, xs = [.ref p] ∧ (SqL K H p ys ∨ SqT K H p ys) ∧ Q (.int ys.length) H
def fLen : List D → Option D
  | [.lst ds] => some (.int ds.length)
  | [.tup ds] => some (.int ds.length)
  | _ => none
theorem sn_len : SN c (rLenS c.K) fLen := ⟨fun G H xs ds d gh _ hx e => by
  cases hx with
  | nil => cases e
  | cons h t =>
    cases h with
    | lst h a =>
      cases t with
      | nil => cases e; exact ops_pure gh (.int _) fun Q q => ⟨_, _, rfl, .inl (.inl (.inl (gh _ _ h))), by rw [AtL.length a]; exact q⟩
      | cons _ _ => cases e
    | tup h a =>
      cases t with
      | nil => cases e; exact ops_pure gh (.int _) fun Q q => ⟨_, _, rfl, .inr (.inl (.inl (gh _ _ h))), by rw [AtL.length a]; exact q⟩
      | cons _ _ => cases e
    | _ => cases e⟩
theorem atl1 {P : Addr} {G : Wd} {xs : List V} {d : D} (h : AtL P G xs [d]) : ∃ x, xs = [x] ∧ At P G x d := by
  cases h with
  | cons h t => cases t; exact ⟨_, rfl, h⟩
theorem atl2 {P : Addr} {G : Wd} {xs : List V} {d e : D} (h : AtL P G xs [d, e]) : ∃ x y, xs = [x, y] ∧ At P G x d ∧ At P G y e := by
  cases h with
  | cons h t => obtain ⟨y, rfl, hy⟩ := atl1 t; exact ⟨_, _, rfl, h, hy⟩
theorem at_int {P : Addr} {G : Wd} {x : V} {i : Int} (h : At P G x (.int i)) : x = .int i := by cases h; rfl
theorem at_bl {P : Addr} {G : Wd} {x : V} {i : Bool} (h : At P G x (.bl i)) : x = .bl i := by cases h; rfl
theorem at_lst {P : Addr} {G : Wd} {x : V} {ds : List D} (h : At P G x (.lst ds)) : ∃ p vs, x = .ref p ∧ G p = some (.lst vs) ∧ AtL P G vs ds := by cases h; exact ⟨_, _, rfl, by assumption, by assumption⟩
theorem at_tup {P : Addr} {G : Wd} {x : V} {ds : List D} (h : At P G x (.tup ds)) : ∃ p vs, x = .ref p ∧ G p = some (.tup vs) ∧ AtL P G vs ds := by cases h; exact ⟨_, _, rfl, by assumption, by assumption⟩
def fMax2 : List D → Option D
  | [.int i, .int j] => some (.int (if j > i then j else i))
  | _ => none
def fMin2 : List D → Option D
  | [.int i, .int j] => some (.int (if j < i then j else i))
  | _ => none
theorem sn_max2 : SN c (fun xs H Q => ∃ i j, xs = [.int i, .int j] ∧ Q (.int (if j > i then j else i)) H) fMax2 := ⟨fun G H xs ds d gh _ hx e => by
  unfold fMax2 at e
  split at e
  · obtain ⟨x, y, rfl, hx, hy⟩ := atl2 hx
    rw [at_int hx, at_int hy]
    cases e
    exact ops_pure gh (.int _) fun Q q => ⟨_, _, rfl, q⟩
  · cases e⟩
theorem sn_min2 : SN c (fun xs H Q => ∃ i j, xs = [.int i, .int j] ∧ Q (.int (if j < i then j else i)) H) fMin2 := ⟨fun G H xs ds d gh _ hx e => by
  unfold fMin2 at e
  split at e
  · obtain ⟨x, y, rfl, hx, hy⟩ := atl2 hx
    rw [at_int hx, at_int hy]
    cases e
    exact ops_pure gh (.int _) fun Q q => ⟨_, _, rfl, q⟩
  · cases e⟩
def fAbs : List D → Option D
  | [.int i] => some (.int (if i < 0 then -i else i))
  | _ => none
def fInt : List D → Option D
  | [.int i] => some (.int i)
  | [.bl b] => some (.int (if b then 1 else 0))
  | _ => none
theorem sn_int : SN c (fun xs H Q => (∃ i, xs = [.int i] ∧ Q (.int i) H) ∨ ∃ k, xs = [.bl k] ∧ Q (.int (if k then 1 else 0)) H) fInt := ⟨fun G H xs ds d gh _ hx e => by
  unfold fInt at e
  split at e
  · obtain ⟨x, rfl, hx1⟩ := atl1 hx
    rw [at_int hx1]
    cases e
    exact ops_pure gh (.int _) fun Q q => .inl ⟨_, rfl, q⟩
  · obtain ⟨x, rfl, hx1⟩ := atl1 hx
    rw [at_bl hx1]
    cases e
    exact ops_pure gh (.int _) fun Q q => .inr ⟨_, rfl, q⟩
  · cases e⟩
def fTuple : List D → Option D
  | [.lst ds] => some (.tup ds)
  | [.tup ds] => some (.tup ds)
  | _ => none
theorem sn_tuple : SN c (fun xs H Q => ∃ p ys, xs = [.ref p] ∧ ((SqL c.K H p ys ∧ ∀ l, H l = none → Q (.ref l) (upd H l (.tup ys))) ∨ (SqT c.K H p ys ∧ Q (.ref p) H))) fTuple := ⟨fun G H xs ds d gh hP hx e => by
  unfold fTuple at e
  split at e
  · obtain ⟨x, rfl, hx1⟩ := atl1 hx
    obtain ⟨p, vs, rfl, h, a⟩ := at_lst hx1
    cases e
    exact ops_new _ gh hP (fun q hq => at_new_t gh hq a) fun Q k => ⟨p, vs, rfl, .inl ⟨.inl (.inl (gh _ _ h)), k⟩⟩
  · obtain ⟨x, rfl, hx1⟩ := atl1 hx
    obtain ⟨p, vs, rfl, h, a⟩ := at_tup hx1
    cases e
    exact ops_pure gh (.tup h a) fun Q k => ⟨p, vs, rfl, .inr ⟨.inl (.inl (gh _ _ h)), k⟩⟩
  · cases e⟩
/-- the ints of a list -/
def intsOf : List D → Option (List Int)
  | [] => some []
  | .int i :: ds => (intsOf ds).map (i :: ·)
  | _ :: _ => none
theorem ints_at {P : Addr} {G : Wd} : ∀ {vs : List V} {ds : List D} {ns : List Int}, AtL P G vs ds → intsOf ds = some ns → vs = ns.map V.int
  | _, [], _, h, e => by cases h; cases e; rfl
  | _, d :: ds, ns, h, e => by
    cases h with
    | cons h t =>
      unfold intsOf at e
      split at e
      · cases ‹_ :: _ = []›
      · rename_i i ds' q
        cases q
        cases h
        cases e1 : intsOf ds with
        | none => rw [e1] at e; cases e
        | some ms => rw [e1] at e; cases e; rw [ints_at t e1]; rfl
      · cases e
def minL : Int → List Int → Int
  | m, [] => m
  | m, n :: ns => minL (if n < m then n else m) ns
def maxL : Int → List Int → Int
  | m, [] => m
  | m, n :: ns => maxL (if m < n then n else m) ns
theorem minL_le : ∀ (ns : List Int) (m : Int), minL m ns ≤ m ∧ ∀ y ∈ ns, minL m ns ≤ y
  | [], m => ⟨Int.le_refl _, fun _ h => nomatch h⟩
  | n :: ns, m => by
    obtain ⟨h1, h2⟩ := minL_le ns (if n < m then n else m)
    unfold minL
    refine ⟨?_, fun y hy => ?_⟩
    · split at h1 <;> rename_i z
      · rw [if_pos z] at *; omega
      · rw [if_neg z] at *; omega
    · rcases List.mem_cons.mp hy with rfl | hy
      · split at h1 <;> rename_i z
        · rw [if_pos z] at *; omega
        · rw [if_neg z] at *; omega
      · exact h2 y hy
theorem minL_mem : ∀ (ns : List Int) (m : Int), minL m ns ∈ m :: ns
  | [], m => List.mem_cons_self
  | n :: ns, m => by
    have h := minL_mem ns (if n < m then n else m)
    unfold minL
    split at h
    · rename_i z
      rw [if_pos z]
      exact List.mem_cons_of_mem _ h
    · rename_i z
      rw [if_neg z]
      rcases List.mem_cons.mp h with e | h
      · rw [e]; exact List.mem_cons_self
      · exact List.mem_cons_of_mem _ (List.mem_cons_of_mem _ h)
theorem le_maxL : ∀ (ns : List Int) (m : Int), m ≤ maxL m ns ∧ ∀ y ∈ ns, y ≤ maxL m ns
  | [], m => ⟨Int.le_refl _, fun _ h => nomatch h⟩
  | n :: ns, m => by
    obtain ⟨h1, h2⟩ := le_maxL ns (if m < n then n else m)
    unfold maxL
    refine ⟨?_, fun y hy => ?_⟩
    · split at h1 <;> rename_i z
      · rw [if_pos z] at *; omega
      · rw [if_neg z] at *; omega
    · rcases List.mem_cons.mp hy with rfl | hy
      · split at h1 <;> rename_i z
        · rw [if_pos z] at *; omega
        · rw [if_neg z] at *; omega
      · exact h2 y hy
theorem maxL_mem : ∀ (ns : List Int) (m : Int), maxL m ns ∈ m :: ns
  | [], m => List.mem_cons_self
  | n :: ns, m => by
    have h := maxL_mem ns (if m < n then n else m)
    unfold maxL
    split at h
    · rename_i z
      rw [if_pos z]
      exact List.mem_cons_of_mem _ h
    · rename_i z
      rw [if_neg z]
      rcases List.mem_cons.mp h with e | h
      · rw [e]; exact List.mem_cons_self
      · exact List.mem_cons_of_mem _ (List.mem_cons_of_mem _ h)
def leastOf : List Int → Option D
  | [] => none
  | n :: ns => some (.int (minL n ns))
def mostOf : List Int → Option D
  | [] => none
  | n :: ns => some (.int (maxL n ns))
def fMinL : List D → Option D
  | [.lst ds] => (intsOf ds).bind leastOf
  | _ => none
def fMaxL : List D → Option D
  | [.lst ds] => (intsOf ds).bind mostOf
  | _ => none
theorem sn_minL : SN c (rMin c.K) fMinL := ⟨fun G H xs ds d gh _ hx e => by
  unfold fMinL at e
  split at e
  · obtain ⟨x, rfl, hx1⟩ := atl1 hx
    obtain ⟨p, vs, rfl, h, a⟩ := at_lst hx1
    rename_i es
    cases e1 : intsOf es with
    | none => rw [e1] at e; cases e
    | some ns =>
      rw [e1] at e
      have ev := ints_at a e1
      subst ev
      cases ns with
      | nil => cases e
      | cons n ns =>
        cases e
        refine ops_pure gh (.int _) fun Q q => ⟨p, n :: ns, rfl, .inl (.inl (gh _ _ h)), Nat.succ_pos _, fun m hm hl => ?_⟩
        have h1 := hl _ (minL_mem ns n)
        have h2 : minL n ns ≤ m := by
          rcases List.mem_cons.mp hm with rfl | hm
          · exact (minL_le ns m).1
          · exact (minL_le ns n).2 m hm
        rw [Int.le_antisymm h1 h2]
        exact q
  · cases e⟩
theorem sn_maxL : SN c (rMax c.K) fMaxL := ⟨fun G H xs ds d gh _ hx e => by
  unfold fMaxL at e
  split at e
  · obtain ⟨x, rfl, hx1⟩ := atl1 hx
    obtain ⟨p, vs, rfl, h, a⟩ := at_lst hx1
    rename_i es
    cases e1 : intsOf es with
    | none => rw [e1] at e; cases e
    | some ns =>
      rw [e1] at e
      have ev := ints_at a e1
      subst ev
      cases ns with
      | nil => cases e
      | cons n ns =>
        cases e
        refine ops_pure gh (.int _) fun Q q => ⟨p, n :: ns, rfl, .inl (.inl (gh _ _ h)), Nat.succ_pos _, fun m hm hl => ?_⟩
        have h1 := hl _ (maxL_mem ns n)
        have h2 : m ≤ maxL n ns := by
          rcases List.mem_cons.mp hm with rfl | hm
          · exact (le_maxL ns m).1
          · exact (le_maxL ns n).2 m hm
        rw [Int.le_antisymm h2 h1]
        exact q
  · cases e⟩
end
end Den
namespace Den
open PySem L2
section
variable {c : Cfg} {E : St → XK}
theorem atI_at {P : Addr} {G : Wd} {vs : List V} {ds : List D} {i : Int} {d : D} (a : AtL P G vs ds) (e : atI ds i = some d) : ∃ v, atI vs i = some v ∧ At P G v d := by
  unfold atI at e ⊢
  rw [AtL.length a]
  cases e1 : ixN ds.length i with
  | none => rw [e1] at e; cases e
  | some j =>
    rw [e1] at e
    exact AtL.get a e
def fIx : D → D → Option D
  | .lst ds, .int i => atI ds i
  | .tup ds, .int i => atI ds i
  | _, _ => none
theorem s2_ix : S2 c (rIx c.K) fIx := ⟨fun G H x y dx dy d gh _ hx hy e => by
  unfold fIx at e
  split at e
  · obtain ⟨p, vs, rfl, h, a⟩ := at_lst hx
    obtain ⟨v, e1, av⟩ := atI_at a e
    rw [at_int hy]
    exact ops_pure gh av fun Q q => .inl ⟨p, vs, _, v, rfl, rfl, .inl (.inl (gh _ _ h)), e1, q⟩
  · obtain ⟨p, vs, rfl, h, a⟩ := at_tup hx
    obtain ⟨v, e1, av⟩ := atI_at a e
    rw [at_int hy]
    exact ops_pure gh av fun Q q => .inr (.inl ⟨p, vs, _, v, rfl, rfl, .inl (.inl (gh _ _ h)), e1, q⟩)
  · cases e⟩
def scL : List D → Option (List V)
  | [] => some []
  | d :: ds => match sc d, scL ds with
    | some v, some vs => some (v :: vs)
    | _, _ => none
theorem sc_flat {d : D} {v : V} (e : sc d = some v) : flatV v = true := by
  cases d <;> first | (cases e; rfl) | cases e
theorem scL_at {P : Addr} {G : Wd} : ∀ {vs : List V} {ds : List D} {ws : List V}, AtL P G vs ds → scL ds = some ws → vs = ws ∧ ws.all flatV = true
  | _, [], _, .nil, e => by cases e; exact ⟨rfl, rfl⟩
  | _, d :: ds, ws, .cons h t, e => by
    unfold scL at e
    split at e
    · rename_i v vs e1 e2
      cases e
      obtain ⟨q1, q2⟩ := scL_at t e2
      refine ⟨by rw [sc_at h e1, q1], ?_⟩
      rw [List.all_cons, sc_flat e1, q2]
      rfl
    · cases e
def fInB (neg : Bool) (x y : D) : Option D := match sc x, (seqOf y).bind scL with
  | some v, some vs => some (.bl (if neg then !inV v vs else inV v vs))
  | _, _ => none
theorem s2_in {neg : Bool} : S2 c (rIn c.K neg) (fInB neg) := ⟨fun G H x y dx dy d gh _ hx hy e => by
  unfold fInB at e
  split at e
  · rename_i v vs e1 e2
    cases e
    cases e3 : seqOf dy with
    | none => rw [e3] at e2; cases e2
    | some ds =>
      rw [e3] at e2
      obtain ⟨p, ws, rfl, h, a⟩ := seq_at hy e3
      obtain ⟨q1, q2⟩ := scL_at a e2
      subst q1
      rw [sc_at hx e1]
      exact ops_pure gh (.bl _) fun Q q => ⟨p, ws, rfl, sqLT gh h, sc_flat e1, q2, q⟩
  · cases e⟩

def PostN (c : Cfg) (E : St → XK) (G0 : Wd) (H0 : Hp) (G : Wd) (H : Hp) (σ : St) (l : Loc) : R (List D) → VK → Prop
  | .ok ds p, Q => ∀ q vs G' H', Stp c.B G H G' H' → Rel c G0 H0 G' H' σ l p → H' q = some (.lst vs) → AtL c.P G' vs ds → G'.No q → H q = none → Q (.ref q) H'
  | .err n p, _ => ∀ G' H', Ew G G' → Rel c G0 H0 G' H' σ l p → E σ (.ref (c.ec n)) none H'
  | .bad, _ => False
/-- an expression that makes a new list -/
def SEN (c : Cfg) (E : St → XK) (t : TE) (e : M (List D)) : Prop :=
  ∀ G0 H0 G H σ l pot, Rel c G0 H0 G H σ l pot → ∀ Q : VK, PostN c E G0 H0 G H σ l (e l pot) Q → t σ H Q
theorem PostN.mono {G0 : Wd} {H0 : Hp} {G : Wd} {H : Hp} {G' : Wd} {H' : Hp} {σ : St} {l : Loc} {r : R (List D)} {Q : VK} (p : PostN c E G0 H0 G H σ l r Q) (s : Stp c.B G H G' H') : PostN c E G0 H0 G' H' σ l r Q := by
  cases r with
  | ok b q => exact fun a vs G2 H2 s2 r2 h1 h2 h3 h4 => p a vs G2 H2 (s.trans s2) r2 h1 h2 h3 (s.there _ h4)
  | err n q => exact fun G2 H2 e2 r2 => p G2 H2 (s.gg.trans e2) r2
  | bad => exact p
theorem Sn.goN {γ δ : Type} {rel' : Wd → γ → δ → Prop} {G0 : Wd} {H0 : Hp} {G : Wd} {H : Hp} {σ : St} {l : Loc} {pot : S} {t1 : St → Hp → (γ → Hp → Prop) → Prop} {e1 : M δ} (h1 : Sn c E rel' t1 e1) (r : Rel c G0 H0 G H σ l pot) {k : δ → M (List D)} {Q : VK} {X : γ → Hp → Prop}
    (post : PostN c E G0 H0 G H σ l (mbind e1 k l pot) Q)
    (h2 : ∀ a b p G' H', Stp c.B G H G' H' → Rel c G0 H0 G' H' σ l p → rel' G' a b → PostN c E G0 H0 G' H' σ l (k b l p) Q → X a H') : t1 σ H X := by
  refine h1 G0 H0 G H σ l pot r _ ?_
  unfold mbind at post
  cases e : e1 l pot with
  | ok b p =>
    rw [e] at post
    exact fun a G' H' s r' ra => h2 a b p G' H' s r' ra (PostN.mono post s)
  | err n p =>
    rw [e] at post
    exact post
  | bad =>
    rw [e] at post
    exact post
theorem Rel.freeze {G0 : Wd} {H0 : Hp} {G : Wd} {H : Hp} {σ : St} {l : Loc} {pot : S} {q : Addr} {o : HO} (r : Rel c G0 H0 G H σ l pot) (h : H q = some o) (hq : H0 q = none) (hP : ¬ c.B q) (nc : ∀ (i : Nat) (x : L), l[i]? = some (some x) → owned x = true → σ[i]? ≠ some (some (.ref q))) (hG : G.No q) (no : ∀ a, o ≠ .own a := by intro a z; cases z) :
    Rel c G0 H0 (wup G q o) H σ l pot := by
  have eg : Ew G (wup G q o) := Ew.new hG.hp
  refine ⟨⟨r.stp.gg.trans eg, fun a u e => ?_, r.stp.keep, r.stp.there, fun a u e => ?_, r.stp.np⟩, r.pot.stand hG, ?_, r.hP, r.len, fun i x e => ?_, r.dist⟩
  · by_cases z : a = q
    · subst z; rw [wup_same] at e; cases e; exact h
    · rw [wup_ne z] at e; exact r.stp.gh a u e
  · by_cases z : a = q
    · subst z; exact .inr hq
    · rw [wup_ne z] at e; exact r.stp.new a u e
  · intro a b; rw [wup_ne (fun z => hP (by rw [← z]; exact b))]; exact r.gP a b
  · have a := r.slot i x e
    have ne := nc i x e
    match ho : σ[i]?, x, a with
    | some (some v), .dat d, a => exact At.mono eg a
    | some (some (.ref p)), .cell ds, ⟨vs, h1, h2, h3, h4⟩ =>
      have np : p ≠ q := fun z => ne rfl (by rw [ho, z])
      exact ⟨vs, h1, AtL.mono eg h2, ⟨by rw [wup_ne np]; exact h3.hp, h3.ps⟩, h4⟩
    | some (some (.ref p)), .obj ea C ns ds, ⟨hea, vs, dx, h1, h2, h3, h4, h5, h6⟩ =>
      have np : p ≠ q := fun z => ne rfl (by rw [ho, z])
      exact ⟨hea, vs, dx, h1, AtL.mono eg h2, ⟨by rw [wup_ne np]; exact h3.hp, h3.ps⟩, h4, h5, fun z => ⟨(h6 z).1, (h6 z).2.1, ⟨by
        have nd : dx ≠ q := fun w => no p (Option.some.inj (by rw [← h, ← w]; exact (h6 z).1))
        rw [wup_ne nd]; exact (h6 z).2.2.1.hp, (h6 z).2.2.1.ps⟩, (h6 z).2.2.2⟩⟩
/-- no own slot is at an address that is free -/
theorem Rel.own_ne {G0 : Wd} {H0 : Hp} {G : Wd} {H : Hp} {σ : St} {l : Loc} {pot : S} {q : Addr} (r : Rel c G0 H0 G H σ l pot) (h : H q = none) : ∀ (i : Nat) (x : L), l[i]? = some (some x) → owned x = true → σ[i]? ≠ some (some (.ref q)) := fun i x e ho z => by
  have a := r.slot i x e
  rw [z] at a
  cases x with
  | dat d => cases ho
  | cell ds => obtain ⟨vs, h1, _⟩ := a; rw [h] at h1; cases h1
  | obj ea C ns ds => obtain ⟨_, vs, dx, h1, _⟩ := a; rw [h] at h1; cases h1
def mfreeze (a : M (List D)) : M D := mbind a fun ds => mret (.lst ds)
theorem se_new {t : TE} {e : M (List D)} (h : SEN c E t e) : SE c E t (mfreeze e) := by
  intro G0 H0 G H σ l pot r Q post
  refine h G0 H0 G H σ l pot r Q ?_
  unfold mfreeze mbind at post
  cases e1 : e l pot with
  | bad => rw [e1] at post; exact post
  | err n p => rw [e1] at post; exact post
  | ok ds p =>
    rw [e1] at post
    intro q vs G' H' s r' h1 h2 h3 h4
    have h0 : H0 q = none := r.stp.there q h4
    have hP : ¬ c.B q := fun z => r.h0 q z h0
    have r2 : Rel c G0 H0 (wup G' q (.lst vs)) H' σ l p := Rel.freeze r' h1 h0 hP (fun i x e ho => r.own_ne h4 i x e ho) h3
    exact post (.ref q) _ H' ⟨s.gg.trans (Ew.new h3.hp), r2.stp.gh, s.keep, s.there, fun a u e => by
      by_cases z : a = q
      · subst z; exact .inr h4
      · rw [wup_ne z] at e; exact s.new a u e, s.np⟩ r2 (.lst wup_same (AtL.mono (Ew.new h3.hp) h2))

/-- a list display, a tuple display -/
def mshort (a : M (List D)) : M (List D) := mbind a fun ds => if ds.length ≤ 1000 then mret ds else fun _ _ => .bad
def mtupd (a : M (List D)) : M D := mbind (mshort a) fun ds => mret (.tup ds)
theorem sz1000 {n : Nat} (h : n ≤ 1000) : n ≤ sizeLine := Nat.le_trans h (by decide)
theorem sen_of {G0 : Wd} {H0 : Hp} {G : Wd} {H : Hp} {σ : St} {l : Loc} {pot : S} {vs : List V} {ds : List D} {Q : VK} (r : Rel c G0 H0 G H σ l pot) (a : AtL c.P G vs ds) (post : PostN c E G0 H0 G H σ l (.ok ds pot) Q) (p : Addr) (hp : H p = none) : Q (.ref p) (upd H p (.lst vs)) := by
  have s : Stp c.B G H G (upd H p (.lst vs)) := Stp.lay0 r.stp.gh hp
  have hG : G.No p := Wd.no_of r.stp.gh hp fun z => r.hp p (.inr z) hp
  exact post p vs G _ s (r.same s (Same.lay0 r.hp hp)) upd_same a hG hp
theorem sen_lst {t : TA} {a : M (List D)} (ha : SA c E t a) : SEN c E (tLst t) (mshort a) := by
  intro G0 H0 G H σ l pot r Q post
  refine Sn.goN ha r post fun x dx p G1 H1 s1 r1 hx post1 => ?_
  split at post1
  · rename_i z
    exact ⟨by rw [AtL.length hx]; exact sz1000 z, sen_of r1 hx post1⟩
  · exact post1.elim
theorem se_tup {t : TA} {a : M (List D)} (ha : SA c E t a) : SE c E (tTup t) (mtupd a) := by
  intro G0 H0 G H σ l pot r Q post
  refine Sn.go (β := D) (rel := rD c) (Q := Q) ha r (k := fun ds => mbind (if ds.length ≤ 1000 then mret ds else fun _ _ => .bad) fun ds => mret (D.tup ds)) (by unfold mtupd mshort at post; unfold mbind at post ⊢; cases e : a l pot <;> simp only [e, R.bind] at post ⊢ <;> exact post) fun x dx p G1 H1 s1 r1 hx post1 => ?_
  split at post1
  · rename_i z
    refine ⟨by rw [AtL.length hx]; exact sz1000 z, fun q hq => ?_⟩
    have s : Stp c.B G1 H1 (wup G1 q (.tup x)) (upd H1 q (.tup x)) := Stp.lay r1.stp.gh hq
    exact post1 _ _ _ s (r1.same s (Same.lay r1.hp hq)) (at_new_t r1.stp.gh hq hx)
  · exact post1.elim
/-- list(x), new -/
def fSeq1 : List D → Option (List D)
  | [d] => seqOf d
  | _ => none
def mlistN (a : M (List D)) : M (List D) := mbind a fun ds => mlift (fSeq1 ds)
theorem sen_list {t : TA} {a : M (List D)} (ha : SA c E t a) : SEN c E (tCB (fun xs H Q => ∃ p ys, xs = [.ref p] ∧ (SqL c.K H p ys ∨ SqT c.K H p ys) ∧ ∀ l, H l = none → Q (.ref l) (upd H l (.lst ys))) t) (mlistN a) := by
  intro G0 H0 G H σ l pot r Q post
  refine Sn.goN ha r post fun x dx p G1 H1 s1 r1 hx post1 => ?_
  cases e : fSeq1 dx with
  | none => rw [e] at post1; exact post1.elim
  | some es =>
    rw [e] at post1
    unfold fSeq1 at e
    split at e
    · obtain ⟨y, rfl, hy⟩ := atl1 hx
      obtain ⟨q, vs, rfl, h, a⟩ := seq_at hy e
      exact ⟨q, vs, rfl, sqLT r1.stp.gh h, sen_of r1 a post1⟩
    · cases e
/-- xs + ys of lists; xs * k -/
def fCat : D → D → Option D
  | .lst a, .lst b => if a.length + b.length ≤ 1000 then some (.lst (a ++ b)) else none
  | _, _ => none
theorem s2_cat : S2 c rCat fCat := ⟨fun G H x y dx dy d gh hP hx hy e => by
  unfold fCat at e
  split at e
  · split at e
    · rename_i z
      obtain ⟨p, vs, rfl, h, a⟩ := at_lst hx
      obtain ⟨q, ws, rfl, h', b⟩ := at_lst hy
      cases e
      exact ops_new _ gh hP (fun u hu => at_new_l gh hu (AtL.append a b)) fun Q k => ⟨p, q, vs, ws, rfl, rfl, gh _ _ h, gh _ _ h', by rw [AtL.length a, AtL.length b]; exact sz1000 z, k⟩
    · cases e
  · cases e⟩
def fRep : D → D → Option D
  | .lst [d], .int k => if 0 ≤ k ∧ k ≤ 1000 then some (.lst (List.replicate k.toNat d)) else none
  | _, _ => none
theorem atl_rep {P : Addr} {G : Wd} {v : V} {d : D} (h : At P G v d) : ∀ n, AtL P G (List.replicate n v) (List.replicate n d)
  | 0 => .nil
  | n + 1 => .cons h (atl_rep h n)
theorem rep_flat {α : Type} (v : α) : ∀ n, (List.replicate n [v]).flatten = List.replicate n v
  | 0 => rfl
  | n + 1 => by rw [List.replicate_succ, List.flatten_cons, rep_flat v n]; rfl
theorem s2_rep : S2 c rRep fRep := ⟨fun G H x y dx dy d gh hP hx hy e => by
  unfold fRep at e
  split at e
  · split at e
    · rename_i z
      obtain ⟨p, vs, rfl, h, a⟩ := at_lst hx
      obtain ⟨v, rfl, hv⟩ := atl1 a
      rw [at_int hy]
      cases e
      refine ops_new (.lst (List.replicate _ v)) gh hP (fun u hu => at_new_l gh hu (atl_rep hv _)) fun Q k => ⟨p, _, [v], rfl, rfl, gh _ _ h, by omega, by omega, ?_, ?_⟩
      · show 1 * _ ≤ sizeLine
        refine sz1000 ?_
        omega
      · rw [rep_flat]
        exact k
    · cases e
  · cases e⟩

def lstOf : D → Option (List D)
  | .lst ds => some ds
  | _ => none
abbrev RF := List D → S → R D
def spD (c : Cfg) (f : RF) : Sp := fun vs H Q E => ∃ (G : Wd) (ds : List D) (pot : S), AtL c.P G vs ds ∧ Ex G H ∧ (∀ a, c.B a → G a = none) ∧ Sat c G pot H ∧ (match f ds pot with
  | .ok d p => ∀ v G' H', Stp c.B G H G' H' → Sat c G' p H' → At c.P G' v d → Q v H'
  | .err m p => ∀ (G' : Wd) (H' : Hp), Stp c.B G H G' H' → Sat c G' p H' → E (.ref (c.ec m)) none H'
  | .bad => False)
def mcall (f : RF) (a : M (List D)) : M D := mbind a fun ds _ p => f ds p
theorem spD_of {f : RF} {G0 : Wd} {H0 : Hp} {G : Wd} {H : Hp} {σ : St} {l : Loc} {pot : S} {Q : VK} {vs : List V} {ds : List D} (r : Rel c G0 H0 G H σ l pot) (a : AtL c.P G vs ds)
    (post : Post c E (rD c) G0 H0 G H σ l (f ds pot) Q) : spD c f vs H Q (E σ) := by
  refine ⟨G, ds, pot, a, r.stp.gh, r.gP, r.pot, ?_⟩
  cases e : f ds pot with
  | ok d p =>
    rw [e] at post
    exact fun v G' H' s hp av => post v G' H' s (r.step s hp) av
  | err m p =>
    rw [e] at post
    exact fun G' H' s hp => post G' H' s.gg (r.step s hp)
  | bad =>
    rw [e] at post
    exact post
theorem se_call {f : RF} {t : TA} {a : M (List D)} (ha : SA c E t a) : SE c E (tCallS (spD c f) E t) (mcall f a) := by
  intro G0 H0 G H σ l pot r Q post
  refine Sn.go ha r post fun x dx p G1 H1 s1 r1 hx post1 => ?_
  exact spD_of r1 hx post1
end
end Den
namespace Den
open PySem L2
section
variable {X : Cx}
def rSetI (K : PySem.W.Frag) (w : World) : List V → Hp → VK → Prop := fun xs H Q => ∃ (p : Addr) (ns : List Int), xs = [.ref p] ∧ SqT K H p (ns.map V.int) ∧ ns.length ≤ 1000 ∧
  ∀ q n, H q = none → n ≤ ns.length → Q (.ref q) (upd H q (SetO w q (fun j => decide (j ∈ ns)) n))
theorem cr_setI (hc : X.calm = true) : CallR X (.type "set") (rSetI X.K X.w) := by
  intro pins s σ H xs us Q I r h
  obtain ⟨p, ns, rfl, hs, hl, q⟩ := h
  obtain ⟨its, rv, ht, hz⟩ := I.tuple hs
  rw [Vals.ref1 r]
  refine call_set_tupI ns (I.ok.hd hc) ht (by simpa using ints_of_vals rv) (Nat.lt_of_le_of_lt (Nat.succ_le_succ hl) (by decide +kernel)) fun h' tk n R hn k => ?_
  have hnw : H s.heap.objs.size = none := I.hok.fresh (Nat.le_refl _)
  exact ⟨.ref _, _, I.laid (t' := tk) k (Nat.le_refl _) (setO_new R), rfl, q _ n hnw hn⟩
end
def insS (k : Int) : List Int → List Int
  | [] => [k]
  | n :: ns => if k < n then k :: n :: ns else if k = n then n :: ns else n :: insS k ns
def sortSet : List Int → List Int
  | [] => []
  | n :: ns => insS n (sortSet ns)
theorem mem_insS {k j : Int} : ∀ {ns : List Int}, j ∈ insS k ns ↔ j = k ∨ j ∈ ns
  | [] => by simp [insS]
  | n :: ns => by
    unfold insS
    split
    · simp
    · split
      · rename_i h; subst h; simp
      · simp only [List.mem_cons, mem_insS (ns := ns)]
        constructor
        · rintro (h | h | h) <;> simp [h]
        · rintro (h | h | h) <;> simp [h]
theorem mem_sortSet {j : Int} : ∀ {ns : List Int}, j ∈ sortSet ns ↔ j ∈ ns
  | [] => Iff.rfl
  | n :: ns => by unfold sortSet; rw [mem_insS, mem_sortSet (ns := ns), List.mem_cons]
theorem insS_srt {k : Int} : ∀ {ns : List Int}, ns.Pairwise (· < ·) → (insS k ns).Pairwise (· < ·)
  | [], _ => by simp [insS]
  | n :: ns, h => by
    unfold insS
    cases h with
    | cons h1 h2 =>
      split
      · rename_i z
        exact .cons (fun a ha => by
          rcases List.mem_cons.mp ha with rfl | ha
          · exact z
          · exact Int.lt_trans z (h1 a ha)) (.cons h1 h2)
      · split
        · exact .cons h1 h2
        · rename_i z1 z2
          exact .cons (fun a ha => by
            rcases mem_insS.mp ha with rfl | ha
            · omega
            · exact h1 a ha) (insS_srt h2)
theorem sortSet_srt : ∀ (ns : List Int), (sortSet ns).Pairwise (· < ·)
  | [] => .nil
  | n :: ns => insS_srt (sortSet_srt ns)
theorem srt_eq : ∀ {a b : List Int}, a.Pairwise (· < ·) → b.Pairwise (· < ·) → (∀ k : Int, k ∈ a ↔ k ∈ b) → a = b
  | [], [], _, _, _ => rfl
  | [], y :: ys, _, _, h => absurd ((h y).mpr List.mem_cons_self) (fun z => nomatch z)
  | x :: xs, [], _, _, h => absurd ((h x).mp List.mem_cons_self) (fun z => nomatch z)
  | x :: xs, y :: ys, .cons h1 h2, .cons g1 g2, h => by
    have exy : x = y := by
      rcases List.mem_cons.mp ((h x).mp List.mem_cons_self) with e | e
      · exact e
      · rcases List.mem_cons.mp ((h y).mpr List.mem_cons_self) with e' | e'
        · exact e'.symm
        · have := g1 x e; have := h1 y e'; omega
    subst exy
    rw [srt_eq h2 g2 fun k => ?_]
    constructor
    · intro hk
      rcases List.mem_cons.mp ((h k).mp (List.mem_cons_of_mem _ hk)) with e | e
      · subst e; exact absurd (h1 k hk) (Int.lt_irrefl _)
      · exact e
    · intro hk
      rcases List.mem_cons.mp ((h k).mpr (List.mem_cons_of_mem _ hk)) with e | e
      · subst e; exact absurd (g1 k hk) (Int.lt_irrefl _)
      · exact e
def fSortSet : D → Option D
  | .tup ds => (intsOf ds).bind fun ns => if ns.length < 64 then some (.lst ((sortSet ns).map .int)) else none
  | _ => none
section
variable {c : Cfg} {E : St → XK}
theorem se_sortSet {w : World} {t : TE} {a : M D} (ha : SE c E t a) : SE c E (tCB (rSortedSet w) (tCons (tCB (rSetI c.K w) (tCons t tNil)) tNil)) (op1 fSortSet a) := by
  intro G0 H0 G H σ l pot r Q post
  show t σ H (fun v H1 => rSetI c.K w [v] H1 fun u H2 => rSortedSet w [u] H2 Q)
  refine Sn.go ha r post fun x dx p G1 H1 s1 r1 hx post1 => ?_
  cases dx with
  | tup ds =>
    obtain ⟨q, vs, rfl, h, a⟩ := at_tup hx
    cases e : intsOf ds with
    | none => simp only [fSortSet, e] at post1; exact post1.elim
    | some ns =>
      have ev := ints_at a e
      subst ev
      by_cases z : ns.length < 64
      · simp only [fSortSet, e, Option.bind_some, if_pos z] at post1
        refine ⟨q, ns, rfl, .inl (.inl (r1.stp.gh _ _ h)), by omega, fun u n hu hn => ?_⟩
        have s2 : Stp c.B G1 H1 G1 (upd H1 u (SetO w u (fun j => decide (j ∈ ns)) n)) := Stp.lay0 r1.stp.gh hu
        have r2 := r1.same s2 (Same.lay0 r1.hp hu)
        refine ⟨u, _, n, rfl, upd_same, by omega, fun ms y hm hk _ hy => ?_⟩
        have em : ms = sortSet ns := srt_eq hm (sortSet_srt ns) fun k => by rw [hk, mem_sortSet]; simp
        subst em
        have s3 := Stp.lay (B := c.B) (o := .lst ((sortSet ns).map V.int)) r2.stp.gh hy
        exact post1 _ _ _ (s2.trans s3) (r2.same s3 (Same.lay r2.hp hy)) (at_new_l r2.stp.gh hy AtL.ints)
      · simp only [fSortSet, e, Option.bind_some, if_neg z] at post1
        exact post1.elim
  | _ => exact post1.elim

/-- what is known of an own class -/
structure ClsF (K : PySem.W.Frag) (C : Addr) : Prop where
  cl : Cls K C
  ha : PySem.W.findIn K (.ref C) "__class__" = some (some (.builtin "object.__class__"))
  hn : PySem.W.specialIn K (.builtin "object.__class__") "__get__" = some (some (.builtin "getset_descriptor.__get__"))
  htk : PySem.W.takesIn K (.builtin "object.__class__") = some true
  hm : PySem.W.mroIn K C (.type "object") = some true
  self : PySem.W.kitOne K (.ref C) (.ref C) = some true
  nl : PySem.W.kitOne K (.type "list") (.ref C) = some false
  nt : PySem.W.kitOne K (.type "tuple") (.ref C) = some false
  ni : PySem.W.kitOne K (.type "int") (.ref C) = some false
  nb : PySem.W.kitOne K (.type "bool") (.ref C) = some false
  ns : PySem.W.kitOne K (.type "str") (.ref C) = some false
  nn : PySem.W.kitOne K (.type "NoneType") (.ref C) = some false
def tyN : D → Option Ty
  | .non => some .non
  | .bl _ => some .bl
  | .int _ => some .int
  | .str _ => some .str
  | .lst _ => some .lst
  | .tup _ => some .tup
  | _ => none
def isTy : Ty → Ty → Bool
  | .non, .non => true
  | .bl, .bl => true
  | .bl, .int => true
  | .int, .int => true
  | .str, .str => true
  | .lst, .lst => true
  | .tup, .tup => true
  | _, _ => false
theorem kit_is (K : PySem.W.Frag) (a b : Ty) : PySem.W.kitOne K (.type a.name) (.type b.name) = some (isTy a b) := by
  cases a <;> cases b <;> exact kit_ty (by decide +kernel)
theorem ty_at {K : PySem.W.Frag} {P : Addr} {G : Wd} {H : Hp} {x : V} {d : D} {n : Ty} (gh : Ex G H) (h : At P G x d) (e : tyN d = some n) : TyX K H x (.type n.name) := by
  cases h with
  | non => cases e; exact .base .non
  | bl b => cases e; exact .base (.bl b)
  | int i => cases e; exact .base (.int i)
  | str s => cases e; exact .base (.str s)
  | lst h a => cases e; exact .base (.lst (gh _ _ h))
  | tup h a => cases e; exact .base (.tup (gh _ _ h))
  | _ => cases e
def fIs1 : List D → Option D
  | [d, .ty t] => (tyN d).map fun n => .bl (isTy n t)
  | _ => none
theorem sn_is1 : SN c (rIsi c.K) fIs1 := ⟨fun G H xs ds d gh _ hx e => by
  unfold fIs1 at e
  split at e
  · obtain ⟨x, y, rfl, hx1, hy⟩ := atl2 hx
    rename_i dx t
    cases e1 : tyN dx with
    | none => rw [e1] at e; cases e
    | some n =>
      rw [e1] at e
      cases e
      cases hy
      exact ops_pure gh (.bl _) fun Q q => ⟨x, .ty t.name, _, _, _, rfl, .ty t.name, ty_at gh hx1 e1, kit_is _ n t, q⟩
  · cases e⟩
def fIs2 : List D → Option D
  | [d, .tup [.ty t, .ty u]] => (tyN d).map fun n => .bl (isTy n t || isTy n u)
  | _ => none
theorem sn_is2 : SN c (rIsiT c.K) fIs2 := ⟨fun G H xs ds d gh _ hx e => by
  unfold fIs2 at e
  split at e
  · obtain ⟨x, y, rfl, hx1, hy⟩ := atl2 hx
    rename_i dx t u
    cases e1 : tyN dx with
    | none => rw [e1] at e; cases e
    | some n =>
      rw [e1] at e
      cases e
      obtain ⟨p, vs, rfl, h, al⟩ := at_tup hy
      obtain ⟨v1, v2, rfl, h1, h2⟩ := atl2 al
      cases h1
      cases h2
      refine ops_pure gh (.bl _) fun Q q => ⟨x, p, _, _, _, _, rfl, gh _ _ h, .cons (.ty _) (.cons (.ty _) .nil), ty_at gh hx1 e1, ?_, q⟩
      refine kitAny_cons (kit_is _ n t) (fun ha => ?_) fun ha => by rw [ha]; rfl
      refine kitAny_cons (kit_is _ n u) (fun hb => ?_) fun hb => by rw [hb]; cases isTy n t <;> rfl
      rw [ha, hb]
      rfl
  · cases e⟩
def fIsC (C : Addr) : List D → Option D
  | [d, .cls C'] => if C' = C then (match d with
    | .ins C1 _ _ => if C1 = C then some (.bl true) else none
    | d => (tyN d).map fun _ => .bl false) else none
  | _ => none
theorem sn_isC {C : Addr} (F : ClsF c.K C) : SN c (rIsi c.K) (fIsC C) := ⟨fun G H xs ds d gh _ hx e => by
  unfold fIsC at e
  split at e
  · obtain ⟨x, y, rfl, hx1, hy⟩ := atl2 hx
    rename_i dx C'
    split at e
    · rename_i z
      subst z
      cases hy
      have tyCase : ∀ {n : Ty}, tyN dx = some n → PySem.W.kitOne c.K (.type n.name) (.ref C') = some false → d = .bl false → OpS c (rIsi c.K [x, .ref C']) G H d := fun {n : Ty} e1 e2 e3 => by
        subst e3
        exact ops_pure gh (.bl false) fun Q q => ⟨x, .ref C', _, _, false, rfl, .own C', ty_at gh hx1 e1, e2, q⟩
      cases dx with
      | ins C1 ns es =>
        dsimp only at e
        split at e
        · rename_i z
          subst z
          cases e
          cases hx1 with
          | ins h a => exact ops_pure gh (.bl true) fun Q q => ⟨_, .ref C1, _, _, true, rfl, .own C1, .base (.ins (gh _ _ h) F.cl F.ha F.hn F.htk F.hm), F.self, q⟩
        · cases e
      | non => cases e; exact tyCase rfl F.nn rfl
      | bl b => cases e; exact tyCase rfl F.nb rfl
      | int i => cases e; exact tyCase rfl F.ni rfl
      | str s => cases e; exact tyCase rfl F.ns rfl
      | lst l => cases e; exact tyCase rfl F.nl rfl
      | tup l => cases e; exact tyCase rfl F.nt rfl
      | pot => cases e
      | ty n => cases e
      | cls C => cases e
      | dct kvs => cases e
      | mr j => cases e
    · cases e
  · cases e⟩
end
end Den
namespace Den
open PySem L2
section
variable {c : Cfg} {E : St → XK}
theorem Rel.set {G0 : Wd} {H0 : Hp} {G : Wd} {H : Hp} {σ : St} {l : Loc} {pot : S} {i : Nat} {v : V} {d : D} (r : Rel c G0 H0 G H σ l pot) (a : At c.P G v d) (hi : i < l.length) : Rel c G0 H0 G H (σ.set i (some v)) (l.set i (some (.dat d))) pot := by
  have hσ : i < σ.length := by rw [r.len]; exact hi
  refine ⟨r.stp, r.pot, r.gP, r.hP, by rw [List.length_set, List.length_set, r.len], fun j x e => ?_, fun j k x y e1 e2 o1 o2 ne => ?_⟩
  · by_cases z : j = i
    · subst z
      rw [List.getElem?_set_self hi] at e
      cases e
      rw [List.getElem?_set_self hσ]
      exact a
    · rw [List.getElem?_set_ne (Ne.symm z)] at e ⊢
      exact r.slot j x e
  · have nj : j ≠ i := fun z => by
      subst z
      rw [List.getElem?_set_self hi] at e1
      cases e1
      cases o1
    have nk : k ≠ i := fun z => by
      subst z
      rw [List.getElem?_set_self hi] at e2
      cases e2
      cases o2
    rw [List.getElem?_set_ne (Ne.symm nj)] at e1 ⊢
    rw [List.getElem?_set_ne (Ne.symm nk)] at e2 ⊢
    exact r.dist j k x y e1 e2 o1 o2 ne
/-- a new list of one's own goes to a slot -/
theorem Rel.own {G0 : Wd} {H0 : Hp} {G : Wd} {H : Hp} {σ : St} {l : Loc} {pot : S} {i : Nat} {p : Addr} {vs : List V} {ds : List D} (r : Rel c G0 H0 G H σ l pot) (h : H p = some (.lst vs)) (a : AtL c.P G vs ds) (hg : G.No p) (h0 : H0 p = none) (nc : ∀ (j : Nat) (x : L), l[j]? = some (some x) → owned x = true → σ[j]? ≠ some (some (.ref p))) (hi : i < l.length) :
    Rel c G0 H0 G H (σ.set i (some (.ref p))) (l.set i (some (.cell ds))) pot := by
  have hσ : i < σ.length := by rw [r.len]; exact hi
  refine ⟨r.stp, r.pot, r.gP, r.hP, by rw [List.length_set, List.length_set, r.len], fun j x e => ?_, fun j k x y e1 e2 o1 o2 ne => ?_⟩
  · by_cases z : j = i
    · subst z
      rw [List.getElem?_set_self hi] at e
      cases e
      rw [List.getElem?_set_self hσ]
      exact ⟨vs, h, a, hg, h0⟩
    · rw [List.getElem?_set_ne (Ne.symm z)] at e ⊢
      exact r.slot j x e
  · by_cases zj : j = i
    · subst zj
      have nk : k ≠ j := fun z => ne z.symm
      rw [List.getElem?_set_ne (Ne.symm nk)] at e2 ⊢
      rw [List.getElem?_set_self hσ]
      exact fun z => nc k y e2 o2 z.symm
    · rw [List.getElem?_set_ne (Ne.symm zj)] at e1 ⊢
      by_cases zk : k = i
      · subst zk
        rw [List.getElem?_set_self hσ]
        exact nc j x e1 o1
      · rw [List.getElem?_set_ne (Ne.symm zk)] at e2 ⊢
        exact r.dist j k x y e1 e2 o1 o2 ne
/-- a list of one's own changes -/
theorem Rel.write {G0 : Wd} {H0 : Hp} {G : Wd} {H : Hp} {σ : St} {l : Loc} {pot : S} {i : Nat} {p : Addr} {vs : List V} {ds es : List D} (r : Rel c G0 H0 G H σ l pot) (hc : l[i]? = some (some (.cell es))) (hσ : σ[i]? = some (some (.ref p))) (a : AtL c.P G vs ds) :
    Rel c G0 H0 G (upd H p (.lst vs)) σ (l.set i (some (.cell ds))) pot := by
  have q := r.slot i _ hc
  rw [hσ] at q
  obtain ⟨ws, h1, h2, h3, h4⟩ := q
  have hi : i < l.length := (List.getElem?_eq_some_iff.mp hc).1
  have hP : ∀ a, c.R G a → a ≠ p := fun a b z => b.elim (fun b => r.h0 a b (by rw [z]; exact h4)) fun b => h3.ps (by rw [← z]; exact b)
  refine ⟨⟨r.stp.gg, fun b o e => ?_, fun b o e n n2 => ?_, fun b e => ?_, r.stp.new, r.stp.np.poke (.inr h4)⟩, r.pot.ext (fun a b => upd_ne (hP a b)), r.gP, r.hP, by rw [List.length_set, r.len], fun j x e => ?_, fun j k x y e1 e2 o1 o2 ne => ?_⟩
  · rw [upd_ne (fun z => by subst z; have e : G _ = some o := e; rw [h3.hp] at e; cases e)]; exact r.stp.gh b o e
  · rw [upd_ne (fun z => by subst z; rw [h4] at e; cases e)]; exact r.stp.keep b o e n n2
  · by_cases z : b = p
    · subst z; exact h4
    · rw [upd_ne z] at e; exact r.stp.there b e
  · by_cases z : j = i
    · subst z
      rw [List.getElem?_set_self hi] at e
      cases e
      rw [hσ]
      exact ⟨vs, upd_same, a, h3, h4⟩
    · rw [List.getElem?_set_ne (Ne.symm z)] at e
      have a2 := r.slot j x e
      match ho : σ[j]?, x, a2 with
      | some (some v), .dat d, a2 => exact a2
      | some (some (.ref q)), .cell ds', ⟨ws', g1, g2, g3, g4⟩ =>
        have nq : q ≠ p := fun w => r.dist j i _ _ e hc rfl rfl z (by rw [ho, hσ, w])
        exact ⟨ws', (upd_ne nq).trans g1, g2, g3, g4⟩
      | some (some (.ref q)), .obj ea C ns ds', ⟨hea, ws', dx, g1, g2, g3, g4, g5, g6⟩ =>
        have nq : q ≠ p := fun w => r.dist j i _ _ e hc rfl rfl z (by rw [ho, hσ, w])
        exact ⟨hea, ws', dx, (upd_ne nq).trans g1, g2, g3, g4, g5, fun w => ⟨(upd_ne (fun y => by
          have y1 := (g6 w).1
          rw [y, h1] at y1
          cases y1)).trans (g6 w).1, (g6 w).2⟩⟩
  · have back : ∀ (m : Nat) (x : L), (l.set i (some (.cell ds)))[m]? = some (some x) → owned x = true → ∃ y, l[m]? = some (some y) ∧ owned y = true := fun m x e o => by
      by_cases z : m = i
      · subst z; exact ⟨_, hc, rfl⟩
      · rw [List.getElem?_set_ne (Ne.symm z)] at e; exact ⟨x, e, o⟩
    obtain ⟨x', e1', o1'⟩ := back j x e1 o1
    obtain ⟨y', e2', o2'⟩ := back k y e2 o2
    exact r.dist j k x' y' e1' e2' o1' o2' ne
/-- a list of one's own stands from now on -/
theorem Rel.give {G0 : Wd} {H0 : Hp} {G : Wd} {H : Hp} {σ : St} {l : Loc} {pot : S} {i : Nat} {ds : List D} (r : Rel c G0 H0 G H σ l pot) (hc : l[i]? = some (some (.cell ds))) :
    ∃ G', Ew G G' ∧ Rel c G0 H0 G' H σ (l.set i (some (.dat (.lst ds)))) pot := by
  have q := r.slot i _ hc
  have hi : i < l.length := (List.getElem?_eq_some_iff.mp hc).1
  cases ho : σ[i]? with
  | none => rw [ho] at q; exact q.elim
  | some o =>
    cases o with
    | none => rw [ho] at q; exact q.elim
    | some v =>
      cases v with
      | ref p =>
        rw [ho] at q
        obtain ⟨vs, h1, h2, h3, h4⟩ := q
        have hP : ¬ c.B p := fun z => r.h0 p z h4
        have r1 : Rel c G0 H0 G H σ (l.set i none) pot := by
          refine ⟨r.stp, r.pot, r.gP, r.hP, by rw [List.length_set, r.len], fun j x e => ?_, fun j k x y e1 e2 o1 o2 ne => ?_⟩
          · by_cases z : j = i
            · subst z; rw [List.getElem?_set_self hi] at e; cases e
            · rw [List.getElem?_set_ne (Ne.symm z)] at e; exact r.slot j x e
          · have nn : ∀ (m : Nat) (x : L), (l.set i none)[m]? = some (some x) → m ≠ i := fun m x e z => by
              subst z; rw [List.getElem?_set_self hi] at e; cases e
            have nj := nn j x e1
            have nk := nn k y e2
            rw [List.getElem?_set_ne (Ne.symm nj)] at e1
            rw [List.getElem?_set_ne (Ne.symm nk)] at e2
            exact r.dist j k x y e1 e2 o1 o2 ne
        have r2 := Rel.freeze r1 h1 h4 hP (fun j x e o z => by
          have nj : j ≠ i := fun w => by subst w; rw [List.getElem?_set_self hi] at e; cases e
          rw [List.getElem?_set_ne (Ne.symm nj)] at e
          exact r.dist j i _ _ e hc o rfl nj (by rw [z, ho])) h3
        have r3 := Rel.set (i := i) r2 (v := .ref p) (d := .lst ds) (.lst wup_same (AtL.mono (Ew.new h3.hp) h2)) (by rw [List.length_set]; exact hi)
        have e1 : σ.set i (some (.ref p)) = σ := by
          have hσ : i < σ.length := by rw [r.len]; exact hi
          refine List.ext_getElem? fun j => ?_
          by_cases z : j = i
          · subst z; rw [List.getElem?_set_self hσ, ho]
          · rw [List.getElem?_set_ne (Ne.symm z)]
        rw [e1, List.set_set] at r3
        exact ⟨_, Ew.new h3.hp, r3⟩
      | _ => rw [ho] at q; exact q.elim

inductive O where
  | nx (l : Loc) (p : S) | rt (d : D) (p : S) | bk (l : Loc) (p : S) | ct (l : Loc) (p : S) | err (n : Nat) (l : Loc) (p : S) | bad
abbrev MS := Loc → S → O
def PostS (c : Cfg) (E : St → XK) (G0 : Wd) (H0 : Hp) (G : Wd) (De : Ends) : O → Prop
  | .nx l' p => ∀ G' H' σ', Ew G G' → Rel c G0 H0 G' H' σ' l' p → De.nx σ' H'
  | .rt d p => ∀ v G' H' σ' l', Ew G G' → Rel c G0 H0 G' H' σ' l' p → At c.P G' v d → De.rt v H'
  | .bk l' p => ∀ G' H' σ', Ew G G' → Rel c G0 H0 G' H' σ' l' p → De.bk σ' H'
  | .ct l' p => ∀ G' H' σ', Ew G G' → Rel c G0 H0 G' H' σ' l' p → De.ct σ' H'
  | .err n l' p => ∀ G' H' σ', Ew G G' → Rel c G0 H0 G' H' σ' l' p → E σ' (.ref (c.ec n)) none H'
  | .bad => False
def SS (c : Cfg) (E : St → XK) (ts : TS) (s : MS) : Prop := ∀ G0 H0 G H σ l pot, Rel c G0 H0 G H σ l pot → ∀ De, PostS c E G0 H0 G De (s l pot) → ts De σ H
theorem PostS.mono {G0 : Wd} {H0 : Hp} {G G1 : Wd} {De : Ends} {o : O} (p : PostS c E G0 H0 G De o) (e : Ew G G1) : PostS c E G0 H0 G1 De o := by
  cases o with
  | nx l' q => exact fun G' H' σ' e' r => p G' H' σ' (e.trans e') r
  | rt d q => exact fun v G' H' σ' l' e' r a => p v G' H' σ' l' (e.trans e') r a
  | bk l' q => exact fun G' H' σ' e' r => p G' H' σ' (e.trans e') r
  | ct l' q => exact fun G' H' σ' e' r => p G' H' σ' (e.trans e') r
  | err n l' q => exact fun G' H' σ' e' r => p G' H' σ' (e.trans e') r
  | bad => exact p
def sbind {α : Type} (a : M α) (k : α → MS) : MS := fun l p => match a l p with
  | .ok x p' => k x l p'
  | .err n p' => .err n l p'
  | .bad => .bad
theorem Sn.goS {γ δ : Type} {rel' : Wd → γ → δ → Prop} {G0 : Wd} {H0 : Hp} {G : Wd} {H : Hp} {σ : St} {l : Loc} {pot : S} {t1 : St → Hp → (γ → Hp → Prop) → Prop} {e1 : M δ} (h1 : Sn c E rel' t1 e1) (r : Rel c G0 H0 G H σ l pot) {k : δ → MS} {De : Ends} {X : γ → Hp → Prop}
    (post : PostS c E G0 H0 G De (sbind e1 k l pot))
    (h2 : ∀ a b p G' H', Stp c.B G H G' H' → Rel c G0 H0 G' H' σ l p → rel' G' a b → PostS c E G0 H0 G' De (k b l p) → X a H') : t1 σ H X := by
  refine h1 G0 H0 G H σ l pot r _ ?_
  unfold sbind at post
  cases e : e1 l pot with
  | ok b p =>
    rw [e] at post
    exact fun a G' H' s r' ra => h2 a b p G' H' s r' ra (PostS.mono post s.gg)
  | err n p =>
    rw [e] at post
    exact fun G' H' e' r' => post G' H' σ e' r'
  | bad =>
    rw [e] at post
    exact post
theorem PostS.of {G0 : Wd} {H0 : Hp} {G : Wd} {H : Hp} {De : Ends} {σ : St} {l : Loc} {p : S} (post : PostS c E G0 H0 G De (.nx l p)) (r : Rel c G0 H0 G H σ l p) : De.nx σ H := post G H σ (Ew.refl G) r
def sskip : MS := fun l p => .nx l p
theorem ss_next : SS c E tNext sskip := fun G0 H0 G H σ l pot r De post => PostS.of post r
def sseq (a b : MS) : MS := fun l p => match a l p with
  | .nx l' p' => b l' p'
  | o => o
theorem ss_seq {t u : TS} {a b : MS} (ha : SS c E t a) (hb : SS c E u b) : SS c E (tSeq t u) (sseq a b) := by
  intro G0 H0 G H σ l pot r De post
  refine ha G0 H0 G H σ l pot r _ ?_
  unfold sseq at post
  cases e : a l pot with
  | nx l' p' =>
    rw [e] at post
    exact fun G' H' σ' e' r' => hb _ _ _ _ _ _ _ r' De (PostS.mono post e')
  | rt d p' => rw [e] at post; exact post
  | bk l' p' => rw [e] at post; exact post
  | ct l' p' => rw [e] at post; exact post
  | err n l' p' => rw [e] at post; exact post
  | bad => rw [e] at post; exact post
def sif (t : M Bool) (a b : MS) : MS := sbind t fun x => if x = true then a else b
theorem ss_if {t : TT} {ta tb : TS} {q : M Bool} {a b : MS} (hq : ST c E t q) (ha : SS c E ta a) (hb : SS c E tb b) : SS c E (tIfS t ta tb) (sif q a b) := by
  intro G0 H0 G H σ l pot r De post
  refine Sn.goS hq r post fun x dx p G1 H1 s1 r1 hx post1 => ?_
  subst hx
  cases x with
  | true => rw [if_pos rfl]; exact ha _ _ _ _ _ _ _ r1 De post1
  | false => rw [if_neg Bool.false_ne_true]; exact hb _ _ _ _ _ _ _ r1 De post1
def sret (a : M D) : MS := sbind a fun x _ p => .rt x p
theorem ss_ret {t : TE} {a : M D} (ha : SE c E t a) : SS c E (tRet t) (sret a) := by
  intro G0 H0 G H σ l pot r De post
  refine Sn.goS ha r post fun x dx p G1 H1 s1 r1 hx post1 => ?_
  exact post1 x G1 H1 σ l (Ew.refl G1) r1 hx
def sdrop (a : M D) : MS := sbind a fun _ l p => .nx l p
theorem ss_drop {t : TE} {a : M D} (ha : SE c E t a) : SS c E (tDrop t) (sdrop a) := by
  intro G0 H0 G H σ l pot r De post
  refine Sn.goS ha r post fun x dx p G1 H1 s1 r1 hx post1 => ?_
  exact PostS.of post1 r1
/-- targets -/
def SG (c : Cfg) (g : TG) (tg : D → Loc → Option Loc) : Prop := ∀ G0 H0 G H σ l l' pot x d, Rel c G0 H0 G H σ l pot → At c.P G x d → tg d l = some l' → ∀ Q : St → Hp → Prop, (∀ σ', Rel c G0 H0 G H σ' l' pot → Q σ' H) → g x σ H Q
def gset (i : Nat) : D → Loc → Option Loc := fun d l => if i < l.length then some (l.set i (some (.dat d))) else none
theorem sg_name {i : Nat} : SG c (gName i) (gset i) := by
  intro G0 H0 G H σ l l' pot x d r a e Q q
  unfold gset at e
  split at e
  · rename_i z
    cases e
    exact q _ (r.set a z)
  · cases e
def gset2 (i j : Nat) : D → Loc → Option Loc := fun d l => match d with
  | .tup [a, b] => (gset i a l).bind (gset j b)
  | _ => none
theorem sg_pair {i j : Nat} : SG c (gTup c.K 2 (gCons (gName i) (gCons (gName j) gNil))) (gset2 i j) := by
  intro G0 H0 G H σ l l' pot x d r a e Q q
  unfold gset2 at e
  split at e
  · rename_i d1 d2
    obtain ⟨p, vs, rfl, h, al⟩ := at_tup a
    obtain ⟨v1, v2, rfl, h1, h2⟩ := atl2 al
    refine ⟨p, _, rfl, .inl (.inl (r.stp.gh _ _ h)), rfl, v1, _, rfl, ?_⟩
    cases e1 : gset i d1 l with
    | none => rw [e1] at e; cases e
    | some l1 =>
      rw [e1] at e
      refine sg_name (c := c) (i := i) G0 H0 G H σ l l1 pot v1 d1 r h1 e1 _ fun σ1 r1 => ⟨v2, _, rfl, ?_⟩
      exact sg_name (c := c) (i := j) G0 H0 G H σ1 l1 l' pot v2 d2 r1 h2 e _ fun σ2 r2 => ⟨rfl, q σ2 r2⟩
  · cases e
def sasg (a : M D) (tg : D → Loc → Option Loc) : MS := sbind a fun x l p => match tg x l with
  | some l' => .nx l' p
  | none => .bad
theorem ss_asg {t : TE} {g : TG} {a : M D} {tg : D → Loc → Option Loc} (ha : SE c E t a) (hg : SG c g tg) : SS c E (tAsg t g) (sasg a tg) := by
  intro G0 H0 G H σ l pot r De post
  refine Sn.goS ha r post fun x dx p G1 H1 s1 r1 hx post1 => ?_
  cases e : tg dx l with
  | none => simp only [e] at post1; exact post1.elim
  | some l' =>
    simp only [e] at post1
    exact hg G0 H0 G1 H1 σ l l' p x dx r1 hx e _ fun σ' r' => PostS.of post1 r'
/-- x = a new list, one's own -/
def sown (a : M (List D)) (i : Nat) : MS := sbind a fun ds l p => if i < l.length then .nx (l.set i (some (.cell ds))) p else .bad
theorem ss_own {t : TE} {a : M (List D)} {i : Nat} (ha : SEN c E t a) : SS c E (tAsg t (gName i)) (sown a i) := by
  intro G0 H0 G H σ l pot r De post
  refine ha G0 H0 G H σ l pot r _ ?_
  unfold sown sbind at post
  cases e : a l pot with
  | bad => rw [e] at post; exact post
  | err n p => rw [e] at post; exact fun G' H' e' r' => post G' H' σ e' r'
  | ok ds p =>
    rw [e] at post
    intro q vs G' H' s r' h1 h2 h3 h4
    dsimp only at post
    split at post
    · rename_i z
      exact PostS.of (PostS.mono post s.gg) (r'.own h1 h2 h3 (r.stp.there q h4) (fun j x e o => r.own_ne h4 j x e o) z)
    · exact post.elim
/-- ahead of a statement: a list of one's own stands from now on -/
def sgive (i : Nat) (s : MS) : MS := fun l p => match l[i]? with
  | some (some (.cell ds)) => s (l.set i (some (.dat (.lst ds)))) p
  | _ => s l p
theorem ss_give {i : Nat} {t : TS} {s : MS} (hs : SS c E t s) : SS c E t (sgive i s) := by
  intro G0 H0 G H σ l pot r De post
  unfold sgive at post
  split at post
  · rename_i ds e
    obtain ⟨G', eg, r'⟩ := r.give e
    exact hs _ _ _ _ _ _ _ r' De (PostS.mono post eg)
  · exact hs _ _ _ _ _ _ _ r De post
/-- xs.append(e), xs one's own -/
def sappend (i : Nat) (a : M D) : MS := fun l p => match l[i]? with
  | some (some (.cell ds)) => if ds.length < 1000 then sbind a (fun x l p => .nx (l.set i (some (.cell (ds ++ [x])))) p) l p else .bad
  | _ => .bad
theorem cell_at {G0 : Wd} {H0 : Hp} {G : Wd} {H : Hp} {σ : St} {l : Loc} {pot : S} {i : Nat} {ds : List D} (r : Rel c G0 H0 G H σ l pot) (hc : l[i]? = some (some (.cell ds))) :
    ∃ p vs, σ[i]? = some (some (.ref p)) ∧ H p = some (.lst vs) ∧ AtL c.P G vs ds := by
  have q := r.slot i _ hc
  cases ho : σ[i]? with
  | none => rw [ho] at q; exact q.elim
  | some o =>
    cases o with
    | none => rw [ho] at q; exact q.elim
    | some v =>
      cases v with
      | ref p =>
        rw [ho] at q
        obtain ⟨vs, h1, h2, h3, h4⟩ := q
        exact ⟨p, vs, rfl, h1, h2⟩
      | _ => rw [ho] at q; exact q.elim
theorem ss_append {i : Nat} {t : TE} {a : M D} (ha : SE c E t a) : SS c E (tDrop (tBM c.K "list" rAppend (tVar i) (tCons t tNil))) (sappend i a) := by
  intro G0 H0 G H σ l pot r De post
  unfold sappend at post
  split at post
  · rename_i ds hc
    split at post
    · rename_i z
      obtain ⟨p, vs, hσ, h1, h2⟩ := cell_at r hc
      refine ⟨.ref p, hσ, .inl ⟨rfl, _, .inl (.inl h1)⟩, ?_⟩
      refine Sn.goS ha r post fun x dx p' G1 H1 s1 r1 hx post1 => ?_
      obtain ⟨p2, vs2, hσ2, g1, g2⟩ := cell_at r1 hc
      rw [hσ] at hσ2
      cases hσ2
      refine ⟨p, vs2, x, rfl, rfl, g1, by rw [AtL.length g2]; exact Nat.lt_of_lt_of_le z (by decide), ?_⟩
      exact PostS.of post1 (r1.write hc hσ (AtL.append g2 (.cons hx .nil)))
    · exact post.elim
  · exact post.elim
/-- something that belongs to the state changes -/
theorem Stp.poke0 {B : Addr → Prop} {G : Wd} {H : Hp} {q : Addr} {o : HO} (gh : Ex G H) (hB : B q) (hG : G q = none) (hH : H q ≠ none) (hp : q ∉ G.ps) : Stp B G H G (upd H q o) := by
  refine ⟨Ew.refl G, fun b u e => ?_, fun b u e n m => ?_, fun b e => ?_, fun b u e => .inl e, Nwp.refl.poke (.inl hp)⟩
  · have e : G b = some u := e
    rw [upd_ne (fun z => by subst z; rw [hG] at e; cases e)]; exact gh b u e
  · rw [upd_ne (fun z => by subst z; exact n hB)]; exact e
  · by_cases z : b = q
    · subst z; rw [upd_same] at e; cases e
    · rw [upd_ne z] at e; exact e
/-- something that may change changes -/
theorem Stp.pokeM {B : Addr → Prop} {G : Wd} {H : Hp} {q : Addr} {o : HO} (gh : Ex G H) (hB : q ∈ G.ps) (hG : G q = none) (hH : H q ≠ none) : Stp B G H ⟨G.hp, G.ps, G.ver + 1⟩ (upd H q o) := by
  refine ⟨⟨Ex.refl _, fun _ _ h => h⟩, fun b u e => ?_, fun b u e n m => ?_, fun b e => ?_, fun b u e => .inl e, fun _ h => .inl h, Nat.le_succ _, fun e => absurd e (Nat.succ_ne_self _)⟩
  · have e : G b = some u := e
    rw [upd_ne (fun z => by subst z; rw [hG] at e; cases e)]; exact gh b u e
  · rw [upd_ne (fun z => by subst z; exact m hB)]; exact e
  · by_cases z : b = q
    · subst z; rw [upd_same] at e; cases e
    · rw [upd_ne z] at e; exact e
def mpop (a : M D) : M D := mbind a fun x l p => match x with
  | .pot => match p.pot[p.pot.length - 1]? with
    | some n => .ok (.int n) ⟨p.pot.dropLast, p.st, p.ver⟩
    | none => .bad
  | _ => .bad
theorem se_pop (pc : c.Pot) {t : TE} {a : M D} (ha : SE c E t a) : SE c E (tBM0 c.K "list" rPop t) (mpop a) := by
  intro G0 H0 G H σ l pot r Q post
  refine Sn.go ha r post fun x dx p G1 H1 s1 r1 hx post1 => ?_
  cases dx with
  | pot =>
    cases hx
    have hp1 := (pc.i _ _).mp r1.pot.inv
    have hB : c.B c.P := (pc.b _).mpr rfl
    refine ⟨.inl ⟨rfl, _, .inl (.inl hp1)⟩, ?_⟩
    dsimp only at post1
    cases e : p.pot[p.pot.length - 1]? with
    | none => rw [e] at post1; exact post1.elim
    | some n =>
      rw [e] at post1
      refine ⟨c.P, _, .int n, rfl, rfl, hp1, by simpa using e, ?_⟩
      have s := Stp.poke0 (B := c.B) (o := .lst ((p.pot.map V.int).dropLast)) r1.stp.gh hB (r1.gP _ hB) (r1.hp _ (.inl hB)) (fun z => (r1.pot.no _ z).1 hB)
      have st : Sat c G1 ⟨p.pot.dropLast, p.st, p.ver⟩ (upd H1 c.P (.lst ((p.pot.map V.int).dropLast))) := by
        refine ⟨(pc.i _ _).mpr (by rw [upd_same, List.map_dropLast]), r1.pot.len, r1.pot.ver, r1.pot.nd, r1.pot.no, fun j m a h1 h2 => (r1.pot.at_ j m a h1 h2).mono (Ew.refl _) (upd_ne fun z => ?_)⟩
        exact (r1.pot.no a (List.mem_of_getElem? h2)).1 (by rw [z]; exact hB)
      exact post1 _ _ _ s (r1.step s st) (.int n)
  | _ => exact post1.elim
def mlenp (a : M D) : M D := mbind a fun x l p => match x with
  | .pot => .ok (.int p.pot.length) p
  | _ => .bad
theorem se_lenp (pc : c.Pot) {t : TE} {a : M D} (ha : SE c E t a) : SE c E (tCB (rLenS c.K) (tCons t tNil)) (mlenp a) := by
  intro G0 H0 G H σ l pot r Q post
  show t σ H (fun x H1 => rLenS c.K [x] H1 Q)
  refine Sn.go ha r post fun x dx p G1 H1 s1 r1 hx post1 => ?_
  cases dx with
  | pot =>
    cases hx
    refine ⟨c.P, _, rfl, .inl (.inl (.inl ((pc.i _ _).mp r1.pot.inv))), ?_⟩
    rw [List.length_map]
    exact post1 _ _ _ (Stp.refl r1.stp.gh) r1 (.int _)
  | _ => exact post1.elim

structure Walks (c : Cfg) (J : It) (ds : List D) (G : Wd) : Prop where
  stop : ∀ i H, Ex G H → i = ds.length → J.stop i H
  go : ∀ i H, Ex G H → i < ds.length → J.go i H
  yld : ∀ i H x H', Ex G H → i < ds.length → J.yld i H x H' → ∀ G2, Ew G G2 → Ex G2 H → (∀ a, c.R G2 a → H a ≠ none) → ∃ d G3, ds[i]? = some d ∧ Stp c.B G2 H G3 H' ∧ Same c G2 H G3 H' ∧ At c.P G3 x d
theorem walks_list {G : Wd} {a : Addr} {vs : List V} {ds : List D} (h : G a = some (.lst vs)) (al : AtL c.P G vs ds) : Walks c (Itl c.K a) ds G := by
  refine ⟨fun i H e z => ⟨vs, .inl (.inl (e _ _ h)), ?_⟩, fun i H e z => ?_, fun i H x H' e z y G2 e2 e3 hP => ?_⟩
  · rw [AtL.length al]; exact Nat.le_of_eq z.symm
  · have z' : i < vs.length := by rw [AtL.length al]; exact z
    exact ⟨vs, vs[i], .inl (.inl (e _ _ h)), List.getElem?_eq_getElem z'⟩
  · obtain ⟨rfl, y⟩ := y
    obtain ⟨d, ed, ad⟩ := AtL.getV al (y vs (.inl (.inl (e _ _ h))))
    exact ⟨d, G2, ed, Stp.refl e3, Same.refl, At.mono e2 ad⟩
theorem walks_tup {G : Wd} {a : Addr} {vs : List V} {ds : List D} (h : G a = some (.tup vs)) (al : AtL c.P G vs ds) : Walks c (Itt c.K a) ds G := by
  refine ⟨fun i H e z => ⟨vs, .inl (.inl (e _ _ h)), ?_⟩, fun i H e z => ?_, fun i H x H' e z y G2 e2 e3 hP => ?_⟩
  · rw [AtL.length al]; exact Nat.le_of_eq z.symm
  · have z' : i < vs.length := by rw [AtL.length al]; exact z
    exact ⟨vs, vs[i], .inl (.inl (e _ _ h)), List.getElem?_eq_getElem z'⟩
  · obtain ⟨rfl, y⟩ := y
    obtain ⟨d, ed, ad⟩ := AtL.getV al (y vs (.inl (.inl (e _ _ h))))
    exact ⟨d, G2, ed, Stp.refl e3, Same.refl, At.mono e2 ad⟩
def rngD (lo : Int) (n : Nat) : List D := (List.range n).map fun (i : Nat) => D.int (lo + (i : Int))
theorem walks_rng {G : Wd} {lo : Int} {n : Nat} : Walks c (Itr lo n) (rngD lo n) G := by
  have hl : (rngD lo n).length = n := by simp [rngD]
  refine ⟨fun i H e z => by rw [hl] at z; exact Nat.le_of_eq z.symm, fun i H e z => by rw [hl] at z; exact z, fun i H x H' e z y G2 e2 e3 hP => ?_⟩
  obtain ⟨rfl, rfl⟩ := y
  rw [hl] at z
  exact ⟨.int (lo + (i : Int)), G2, by simp [rngD, z], Stp.refl e3, Same.refl, .int _⟩
def enumD : Nat → List D → List D
  | _, [] => []
  | i, d :: ds => .tup [.int (i : Int), d] :: enumD (i + 1) ds
theorem enumD_get : ∀ (ds : List D) (k i : Nat) (d : D), ds[i]? = some d → (enumD k ds)[i]? = some (.tup [.int ((k + i : Nat) : Int), d])
  | [], _, _, _, e => by simp at e
  | d :: ds, k, 0, _, e => by simp at e; subst e; simp [enumD]
  | _ :: ds, k, i + 1, d, e => by
    have h := enumD_get ds (k + 1) i d (by simpa using e)
    have e2 : k + 1 + i = k + (i + 1) := by omega
    rw [e2] at h
    simpa [enumD] using h
theorem enumD_len : ∀ (ds : List D) (k : Nat), (enumD k ds).length = ds.length
  | [], _ => rfl
  | d :: ds, k => by simp [enumD, enumD_len ds]
theorem walks_enum {G : Wd} {a : Addr} {vs : List V} {ds : List D} (h : G a = some (.lst vs)) (al : AtL c.P G vs ds) : Walks c (Ite c.K a) (enumD 0 ds) G := by
  refine ⟨fun i H e z => ⟨vs, .inl (.inl (e _ _ h)), ?_⟩, fun i H e z => ?_, fun i H x H' e z y G2 e2 e3 hP => ?_⟩
  · rw [AtL.length al]; rw [enumD_len] at z; exact Nat.le_of_eq z.symm
  · have z' : i < vs.length := by rw [AtL.length al]; rw [enumD_len] at z; exact z
    exact ⟨vs, vs[i], .inl (.inl (e _ _ h)), List.getElem?_eq_getElem z'⟩
  · obtain ⟨T, v, rfl, hT, rfl, y⟩ := y
    obtain ⟨d, ed, ad⟩ := AtL.getV al (y vs (.inl (.inl (e _ _ h))))
    have g := enumD_get ds 0 i d ed
    rw [Nat.zero_add] at g
    exact ⟨_, _, g, Stp.lay e3 hT, Same.lay hP hT, at_new_t e3 hT (.cons (.int _) (.cons (At.mono e2 ad) .nil))⟩
/-- an iterable's reading -/
def SI (c : Cfg) (E : St → XK) (wi : TI) (a : M (List D)) : Prop := Sn c E (fun G J ds => Walks c J ds G) wi a
theorem si_list {t : TE} {a : M D} (ha : SE c E t a) : SI c E (iList c.K t) (mbind a fun x => mlift (lstOf x)) := by
  intro G0 H0 G H σ l pot r Q post
  refine Sn.go ha r post fun x dx p G1 H1 s1 r1 hx post1 => ?_
  cases dx with
  | lst ds =>
    obtain ⟨q, vs, rfl, h, al⟩ := at_lst hx
    exact ⟨q, rfl, ⟨vs, .inl (.inl (r1.stp.gh _ _ h))⟩, Post.ok post1 r1 (walks_list h al)⟩
  | _ => exact post1.elim
def tupOf : D → Option (List D)
  | .tup ds => some ds
  | _ => none
theorem si_tup {t : TE} {a : M D} (ha : SE c E t a) : SI c E (iTup c.K t) (mbind a fun x => mlift (tupOf x)) := by
  intro G0 H0 G H σ l pot r Q post
  refine Sn.go ha r post fun x dx p G1 H1 s1 r1 hx post1 => ?_
  cases dx with
  | tup ds =>
    obtain ⟨q, vs, rfl, h, al⟩ := at_tup hx
    exact ⟨q, rfl, ⟨vs, .inl (.inl (r1.stp.gh _ _ h))⟩, Post.ok post1 r1 (walks_tup h al)⟩
  | _ => exact post1.elim
theorem post_lift0 {α β : Type} {rel : Wd → α → β → Prop} {G0 : Wd} {H0 : Hp} {G : Wd} {H : Hp} {σ : St} {l : Loc} {pot : S} {o : Option β} {Q : α → Hp → Prop} (post : Post c E rel G0 H0 G H σ l (mlift o l pot) Q) :
    ∃ g, o = some g ∧ Post c E rel G0 H0 G H σ l (.ok g pot) Q := by
  cases o with
  | none => exact post.elim
  | some g => exact ⟨g, rfl, post⟩
def rng1 : List D → Option (List D)
  | [.int j] => if j.natAbs < 4611686018427387904 then some (rngD 0 j.toNat) else none
  | _ => none
theorem si_rng1 {t : TA} {a : M (List D)} (ha : SA c E t a) : SI c E (iRng1 t) (mbind a fun x => mlift (rng1 x)) := by
  intro G0 H0 G H σ l pot r Q post
  refine Sn.go ha r post fun x dx p G1 H1 s1 r1 hx post1 => ?_
  obtain ⟨ds, e, post2⟩ := post_lift0 post1
  unfold rng1 at e
  split at e
  · split at e
    · rename_i z
      cases e
      obtain ⟨y, rfl, hy⟩ := atl1 hx
      rw [at_int hy]
      exact ⟨_, rfl, by omega, by omega, Post.ok post2 r1 walks_rng⟩
    · cases e
  · cases e
def rng2 : List D → Option (List D)
  | [.int i, .int j] => if i.natAbs < 4611686018427387904 ∧ j.natAbs < 4611686018427387904 then some (rngD i (j - i).toNat) else none
  | _ => none
theorem si_rng2 {t : TA} {a : M (List D)} (ha : SA c E t a) : SI c E (iRng2 t) (mbind a fun x => mlift (rng2 x)) := by
  intro G0 H0 G H σ l pot r Q post
  refine Sn.go ha r post fun x dx p G1 H1 s1 r1 hx post1 => ?_
  obtain ⟨ds, e, post2⟩ := post_lift0 post1
  unfold rng2 at e
  split at e
  · split at e
    · rename_i z
      cases e
      obtain ⟨y, y2, rfl, hy, hy2⟩ := atl2 hx
      rw [at_int hy, at_int hy2]
      exact ⟨_, _, rfl, by omega, Post.ok post2 r1 walks_rng⟩
    · cases e
  · cases e
/-- for x in ..: body -/
def loop (tg : D → Loc → Option Loc) (body : MS) : List D → MS
  | [] => sskip
  | d :: ds => fun l p => match tg d l with
    | none => .bad
    | some l1 => match body l1 p with
      | .nx l' p' => loop tg body ds l' p'
      | .ct l' p' => loop tg body ds l' p'
      | .bk l' p' => .nx l' p'
      | o => o
def sfor (a : M (List D)) (tg : D → Loc → Option Loc) (body : MS) : MS := sbind a fun ds => loop tg body ds
theorem ss_for {wi : TI} {g : TG} {tb : TS} {a : M (List D)} {tg : D → Loc → Option Loc} {body : MS} (ha : SI c E wi a) (hg : SG c g tg) (hb : SS c E tb body) : SS c E (tFor wi g tb) (sfor a tg body) := by
  intro G0 H0 G H σ l pot r De post
  refine Sn.goS ha r post fun J ds p G1 H1 s1 r1 w post1 => ?_
  refine ⟨fun i m σ H => m = ds.length - i ∧ i ≤ ds.length ∧ ∃ G l p, Ew G1 G ∧ Rel c G0 H0 G H σ l p ∧ PostS c E G0 H0 G De (loop tg body (ds.drop i) l p), ⟨_, rfl, Nat.zero_le _, G1, l, p, Ew.refl _, r1, post1⟩, ?_⟩
  rintro i m σ H ⟨rfl, hi, G, l, p, eg, r, post⟩
  by_cases hlt : i < ds.length
  · refine .inr ⟨w.go i H (eg.gh r.stp.gh) hlt, fun σ' H' => ∃ G l p, Ew G1 G ∧ Rel c G0 H0 G H' σ' l p ∧ PostS c E G0 H0 G De (loop tg body (ds.drop (i + 1)) l p), fun σ' H' ⟨G, l, p, a, b, q⟩ => ⟨_, by omega, rfl, hlt, G, l, p, a, b, q⟩, fun x H' y => ?_⟩
    obtain ⟨d, G3, ed, s3, hP, ad⟩ := w.yld i H x H' (eg.gh r.stp.gh) hlt y G eg r.stp.gh r.hp
    have r3 := r.same s3 hP
    have edr : ds.drop i = d :: ds.drop (i + 1) := by
      obtain ⟨h1, h2⟩ := List.getElem?_eq_some_iff.mp ed
      rw [List.drop_eq_getElem_cons h1, h2]
    rw [edr] at post
    unfold loop at post
    cases e1 : tg d l with
    | none => simp only [e1] at post; exact post.elim
    | some l1 =>
      simp only [e1] at post
      refine hg G0 H0 G3 H' σ l l1 p x d r3 ad e1 _ fun σ' r4 => ?_
      refine hb _ _ _ _ _ _ _ r4 _ ?_
      have post := PostS.mono post s3.gg
      cases e2 : body l1 p with
      | nx l' p' =>
        simp only [e2] at post
        exact fun G' H' σ' e' r' => ⟨G', l', p', (eg.trans s3.gg).trans e', r', PostS.mono post e'⟩
      | ct l' p' =>
        simp only [e2] at post
        exact fun G' H' σ' e' r' => ⟨G', l', p', (eg.trans s3.gg).trans e', r', PostS.mono post e'⟩
      | bk l' p' => simp only [e2] at post; exact post
      | rt d p' => simp only [e2] at post; exact post
      | err n l' p' => simp only [e2] at post; exact post
      | bad => simp only [e2] at post; exact post
  · have e : i = ds.length := by omega
    refine .inl ⟨w.stop i H (eg.gh r.stp.gh) e, ?_⟩
    rw [e, List.drop_length] at post
    exact PostS.of post r
end
end Den
namespace Den
open PySem L2
section
variable {X : Cx} {CX : CXT} {k : Nat} {f : Addr} {sp : Sp} {E : St → XK} {x : Str} {p pos sp_ : Pos} {e : Expr} {es : List Expr} {t : TA} {te : TE}
theorem run_fnRS {pins : List (Addr × Obj)} {σ : St} {H : Hp} {s : Shared} {Q : VK} {us : List Value} {vs : List V} (F : FnR X.prog X.w X.K X.mg X.base CX k f sp) (hr : Room k X.A) (hx : PassesAt CX X σ (E σ))
    (I : Inv X pins σ H s) (r : Vals vs us) (h : sp vs H Q (E σ)) : wpAny (model X.prog X.w) X.A (call (.ref f) us) (EP X pins σ Q) X.xe s := by
  refine wpAny_call (codeAny_mono (F X.A X.stack s H us vs Q (E σ) hr I.env0 r h) fun r s' hq => ?_)
  cases r with
  | error e => exact hx pins H s e s' I hq
  | ok fl =>
    cases fl with
    | ret u => exact I.after hq
    | next => exact False.elim hq
    | brk => exact False.elim hq
    | cont => exact False.elim hq
theorem pe_callRS (F : FnR X.prog X.w X.K X.mg X.base CX k f sp) (hr : Room k X.A) (hg : Gl X x) (hm : X.mg x = some (.ref f)) (hk : PySem.W.keepIn X.K (.ref f) = true) (hx : ∀ σ, PassesAt CX X σ (E σ))
    (ha : PA X (e :: es) t) (hdb : (x == ("__debug__" : Str)) = false := by decide) (he : starEach (e :: es) X.env = (false, eval e X.env) :: starEach es X.env := by rfl) (hpl : (backTo pos (starEach es X.env)).any (·.1) = false := by rfl) :
    PE X (.Call (.Name x p) (e :: es) [] pos) (tCallS sp E t) := by
  refine ⟨fun pins s σ H Q I h => ?_⟩
  refine wpAny_Call_Name_kw (ld_glob I hg hm ?_ hdb)
  refine PySem.W.callWith_K (h₀ := X.base) I.ok.mod.kin hk (thn (ha.run pos pins s σ H _ I h) fun us s1 ⟨vs, H1, I1, r, q⟩ => ⟨I1.kIn, ?_⟩) he hpl
  exact run_fnRS F hr (hx σ) I1 r q
/-- x(*y) -/
def tCallStar (K : PySem.W.Frag) (sp : Sp) (E : St → XK) (te : TE) : TE := fun σ H Q => te σ H fun y H1 => ∃ a xs, y = V.ref a ∧ (SqT K H1 a xs ∨ SqL K H1 a xs) ∧ sp xs H1 Q (E σ)
theorem pe_callStar (F : FnR X.prog X.w X.K X.mg X.base CX k f sp) (hr : Room k X.A) (hk : PySem.W.keepIn X.K (.ref f) = true) (hg : Gl X x) (hm : X.mg x = some (.ref f)) (hx : ∀ σ, PassesAt CX X σ (E σ)) (he : PE X e te) (hd : (x == ("__debug__" : Str)) = false := by decide)
    (hst : starEach [.Starred e sp_] X.env = [(true, eval e X.env)] := by rfl) : PE X (.Call (.Name x p) [.Starred e sp_] [] pos) (tCallStar X.K sp E te) := by
  refine ⟨fun pins s σ H Q I h => ?_⟩
  refine wpAny_Call_Name_kw (ld_glob I hg hm ?_ hd)
  refine PySem.W.callWith_S (h₀ := X.base) I.ok.mod.kin hk (thn (he.run pins s σ H _ I h) fun v s1 ⟨y, H1, I1, ry, a, xs, ey, hxs, q⟩ => ?_) hst
  subst ey
  obtain rfl : v = Value.ref a := ry
  exact StX.star_any I1 hxs fun us s2 I2 rv => ⟨I2.kIn, run_fnRS F hr (hx σ) I2 rv q⟩
theorem passE {W : XK} (tk : Takes X (fun cls d _ H => W cls d H)) : ∀ σ, PassesAt (L2.CX X.prog X.w) X σ ((fun _ => W : St → XK) σ) := fun σ => passAt tk σ
theorem passNo : ∀ σ, PassesAt (L2.CX X.prog X.w) X σ ((fun _ => E0 : St → XK) σ) := fun σ pins H s e s' I h => passL pins σ H s e s' I h
end
section
variable {c : Cfg} {E : St → XK}
def mstar (f : RF) (a : M D) : M D := mbind a fun x => mbind (mlift (seqOf x)) fun ds _ p => f ds p
theorem se_star {f : RF} {t : TE} {a : M D} (ha : SE c E t a) : SE c E (tCallStar c.K (spD c f) E t) (mstar f a) := by
  intro G0 H0 G H σ l pot r Q post
  refine Sn.go ha r post fun x dx p G1 H1 s1 r1 hx post1 => ?_
  obtain ⟨ds, e, post2⟩ := post_lift post1
  obtain ⟨q, vs, rfl, h, al⟩ := seq_at hx e
  exact ⟨q, vs, rfl, (sqLT r1.stp.gh h).symm, spD_of r1 al post2⟩

theorem Stp.poke {B : Addr → Prop} {G1 : Wd} {H1 : Hp} {G : Wd} {H : Hp} {q : Addr} {o : HO} (s : Stp B G1 H1 G H) (h1 : H1 q = none) (hG : G.No q) : Stp B G1 H1 G (upd H q o) := by
  refine ⟨s.gg, fun b u e => ?_, fun b u e n m => ?_, fun b e => ?_, s.new, s.np.poke (.inr h1)⟩
  · have e : G b = some u := e
    rw [upd_ne (fun z => by subst z; rw [hG.hp] at e; cases e)]; exact s.gh b u e
  · rw [upd_ne (ne_of_none e h1)]; exact s.keep b u e n m
  · by_cases z : b = q
    · subst z; exact h1
    · rw [upd_ne z] at e; exact s.there b e
theorem Stp.stand {B : Addr → Prop} {G1 : Wd} {H1 : Hp} {G : Wd} {H : Hp} {q : Addr} {o : HO} (s : Stp B G1 H1 G H) (h1 : H1 q = none) (hG : G.No q) : Stp B G1 H1 (wup G q o) (upd H q o) := by
  have s2 : Stp B G1 H1 G (upd H q o) := s.poke h1 hG
  refine ⟨s.gg.trans (Ew.new hG.hp), fun b u e => ?_, s2.keep, s2.there, fun b u e => ?_, s2.np⟩
  · by_cases z : b = q
    · subst z; rw [wup_same] at e; rw [upd_same]; exact e
    · rw [wup_ne z] at e; rw [upd_ne z]; exact s.gh b u e
  · by_cases z : b = q
    · subst z; exact .inr h1
    · rw [wup_ne z] at e; exact s.new b u e
theorem mbind_ok {α β : Type} {a : M α} {k : α → M β} {l : Loc} {p q : S} {x : α} (e : a l p = .ok x q) : mbind a k l p = k x l q := by
  unfold mbind
  rw [e]
  rfl
theorem mbind_err {α β : Type} {a : M α} {k : α → M β} {l : Loc} {p q : S} {n : Nat} (e : a l p = .err n q) : mbind a k l p = .err n q := by
  unfold mbind
  rw [e]
  rfl
theorem mbind_bad {α β : Type} {a : M α} {k : α → M β} {l : Loc} {p : S} (e : a l p = .bad) : mbind a k l p = .bad := by
  unfold mbind
  rw [e]
  rfl
def turn (t : M Bool) (e : M D) : M (Option D) := mbind t fun b => if b = true then mbind e fun x => mret (some x) else mret none
def comp (i : Nat) (t : M Bool) (e : M D) : List D → M (List D)
  | [] => mret []
  | d :: ds => fun l p => if i < l.length then (match turn t e (l.set i (some (.dat d))) p with
    | .ok o p' => (match comp i t e ds l p' with
      | .ok r p'' => .ok (o.toList ++ r) p''
      | x => x)
    | _ => .bad) else .bad
def mcomp (a : M (List D)) (i : Nat) (t : M Bool) (e : M D) : M (List D) := mbind a fun ds => if ds.length ≤ 1000 then comp i t e ds else fun _ _ => .bad
def pre (acc : List D) : R (List D) → R (List D)
  | .ok r p => .ok (acc ++ r) p
  | .err n p => .err n p
  | .bad => .bad
theorem pre_nil (r : R (List D)) : pre [] r = r := by cases r <;> rfl
def mtrue : M Bool := mret true
theorem st_true : ST c E tYes mtrue := fun G0 H0 G H σ l pot r Q post => Post.ok post r rfl
theorem sen_comp {wi : TI} {i : Nat} {tt : TT} {te : TE} {a : M (List D)} {t : M Bool} {e : M D} (ha : SI c E wi a) (ht : ST c (fun _ => E0) tt t) (he : SE c (fun _ => E0) te e) : SEN c E (tLc wi (gName i) tt te [i]) (mcomp a i t e) := by
  intro G0 H0 G H σ l pot r Q post
  refine Sn.goN ha r post fun J ds p G1 H1 s1 r1 w post1 => ?_
  split at post1
  · rename_i hlen
    intro Dl hD
    have hPD : ¬ c.B Dl := fun b => r1.hp Dl (.inl b) hD
    have hG1 : G1.No Dl := Wd.no_of r1.stp.gh hD fun z => r1.hp Dl (.inr z) hD
    refine ⟨fun j m H => m = ds.length - j ∧ j ≤ ds.length ∧ ∃ G p acc aD, Stp c.B G1 H1 G H ∧ Sat c G p H ∧ H Dl = some (.lst acc) ∧ AtL c.P G acc aD ∧ G.No Dl ∧ aD.length ≤ j ∧ PostN c E G0 H0 G1 H1 σ l (pre aD (comp i t e (ds.drop j) l p)) Q,
      ⟨_, rfl, Nat.zero_le _, G1, p, [], [], Stp.lay0 r1.stp.gh hD, r1.pot.poke hPD hG1, upd_same, .nil, hG1, Nat.le_refl _, by rw [pre_nil]; exact post1⟩, ?_⟩
    rintro j m H ⟨rfl, hj, G, p, acc, aD, sG, hp, hDl, al, hG, hl, post⟩
    by_cases hlt : j < ds.length
    · refine .inr ⟨w.go j H (sG.gg.gh sG.gh) hlt, fun H => ∃ G p acc aD, Stp c.B G1 H1 G H ∧ Sat c G p H ∧ H Dl = some (.lst acc) ∧ AtL c.P G acc aD ∧ G.No Dl ∧ aD.length ≤ j + 1 ∧ PostN c E G0 H0 G1 H1 σ l (pre aD (comp i t e (ds.drop (j + 1)) l p)) Q,
        fun H' ⟨G, p, acc, aD, h⟩ => ⟨_, by omega, rfl, hlt, G, p, acc, aD, h⟩, fun x H' y => ?_⟩
      obtain ⟨d, G3, ed, s3, hP3, ad⟩ := w.yld j H x H' (sG.gg.gh sG.gh) hlt y G sG.gg sG.gh hp.full
      have edr : ds.drop j = d :: ds.drop (j + 1) := by
        obtain ⟨h1, h2⟩ := List.getElem?_eq_some_iff.mp ed
        rw [List.drop_eq_getElem_cons h1, h2]
      rw [edr] at post
      unfold comp at post
      by_cases hi : i < l.length
      · rw [if_pos hi] at post
        have s13 := sG.trans s3
        have r3 : Rel c G0 H0 G3 H' σ l p := r1.step s13 (hp.same s3 hP3)
        have hDl3 : H' Dl = some (.lst acc) := s3.keep Dl _ hDl hPD hG.ps
        have noD : ∀ {Ga : Wd} {Ha : Hp} {Gb : Wd} {Hb : Hp}, Stp c.B Ga Ha Gb Hb → Ga.No Dl → Ha Dl ≠ none → Gb.No Dl := fun {Ga Ha Gb Hb} s h1 h2 => s.no h1 h2
        have hG3 := noD s3 hG (by rw [hDl]; exact fun z => nomatch z)
        have r4 : Rel c G0 H0 G3 H' (σ.set i (some x)) (l.set i (some (.dat d))) p := r3.set ad hi
        show (gName i) x (wipe σ [i]) H' _
        have ew : (wipe σ [i]).set i (some x) = σ.set i (some x) := by
          show (σ.set i none).set i (some x) = σ.set i (some x)
          rw [List.set_set]
        show wipe ((wipe σ [i]).set i (some x)) [i] = wipe σ [i] ∧ tt ((wipe σ [i]).set i (some x)) H' _
        rw [ew]
        refine ⟨by show (σ.set i (some x)).set i none = σ.set i none; rw [List.set_set], ?_⟩
        refine ht _ _ _ _ _ _ _ r4 _ ?_
        unfold turn at post
        cases e1 : t (l.set i (some (.dat d))) p with
        | err n p1 => rw [mbind_err e1] at post; exact post.elim
        | bad => rw [mbind_bad e1] at post; exact post.elim
        | ok b p1 =>
          rw [mbind_ok e1] at post
          intro b' G5 H5 s5 r5 eb
          subst eb
          have s15 := s13.trans s5
          have hDl5 : H5 Dl = some (.lst acc) := s5.keep Dl _ hDl3 hPD hG3.ps
          have hG5 := noD s5 hG3 (by rw [hDl3]; exact fun z => nomatch z)
          cases b' with
          | false =>
            rw [if_neg Bool.false_ne_true]
            rw [if_neg Bool.false_ne_true] at post
            refine ⟨G5, p1, acc, aD, s15, r5.pot, hDl5, AtL.mono (s3.gg.trans s5.gg) al, hG5, Nat.le_succ_of_le hl, ?_⟩
            dsimp only [mret] at post
            cases e2 : comp i t e (ds.drop (j + 1)) l p1 with
            | ok r' p2 => rw [e2] at post; exact post
            | err n p2 => rw [e2] at post; exact post
            | bad => rw [e2] at post; exact post
          | true =>
            rw [if_pos rfl]
            rw [if_pos rfl] at post
            refine he _ _ _ _ _ _ _ r5 _ ?_
            cases e2 : e (l.set i (some (.dat d))) p1 with
            | err n p2 => rw [mbind_err e2] at post; exact post.elim
            | bad => rw [mbind_bad e2] at post; exact post.elim
            | ok y p2 =>
              rw [mbind_ok e2] at post
              dsimp only [mret] at post
              intro v G6 H6 s6 r6 av
              have s16 := s15.trans s6
              have hDl6 : H6 Dl = some (.lst acc) := s6.keep Dl _ hDl5 hPD hG5.ps
              have hG6 := noD s6 hG5 (by rw [hDl5]; exact fun z => nomatch z)
              have al6 : AtL c.P G6 acc aD := AtL.mono ((s3.gg.trans s5.gg).trans s6.gg) al
              refine ⟨acc, hDl6, ?_, G6, p2, acc ++ [v], aD ++ [y], s16.poke hD hG6, r6.pot.poke hPD hG6, upd_same, AtL.append al6 (.cons av .nil), hG6, by rw [List.length_append]; exact Nat.succ_le_succ hl, ?_⟩
              · rw [AtL.length al6]
                have z : aD.length ≤ 1000 := by omega
                exact Nat.lt_of_le_of_lt z (by decide)
              · cases e3 : comp i t e (ds.drop (j + 1)) l p2 with
                | ok r' p3 =>
                  rw [e3] at post
                  have ea : aD ++ ([y] ++ r') = aD ++ [y] ++ r' := by rw [List.append_assoc]
                  show PostN c E G0 H0 G1 H1 σ l (.ok (aD ++ [y] ++ r') p3) Q
                  rw [← ea]
                  exact post
                | err n p3 => rw [e3] at post; exact post
                | bad => rw [e3] at post; exact post
      · rw [if_neg hi] at post
        exact post.elim
    · have ej : j = ds.length := by omega
      refine .inl ⟨w.stop j H (sG.gg.gh sG.gh) ej, ?_⟩
      rw [ej, List.drop_length] at post
      have post' : PostN c E G0 H0 G1 H1 σ l (.ok (aD ++ []) p) Q := post
      rw [List.append_nil] at post'
      exact post' Dl acc G H sG (r1.step sG hp) hDl al hG hD
  · exact post1.elim
def sraise (n : Nat) : MS := fun l p => .err n l p
theorem ss_raise {n : Nat} : SS c E (fun _ σ H => E σ (.ref (c.ec n)) none H) (sraise n) := fun G0 H0 G H σ l pot r De post => post G H σ (Ew.refl G) r
def noE : O → O
  | .err _ _ _ => .bad
  | o => o
def handle (n : Nat) : List (Nat × MS) → MS
  | [] => fun l p => .err n l p
  | (m, s) :: hs => if n = m then fun l p => noE (s l p) else handle n hs
inductive Suites (c : Cfg) : List (Value × (Addr → Value → Option Addr → TS)) → List (Nat × MS) → Prop
  | nil : Suites c [] []
  | cons {m : Nat} {ts : Addr → Value → Option Addr → TS} {s : MS} {l : List (Value × (Addr → Value → Option Addr → TS))} {hs : List (Nat × MS)} (hm : m < 4) (h : ∀ a cls d, SS c (fun _ => E0) (ts a cls d) s) (t : Suites c l hs) : Suites c ((.ref (c.ec m), ts) :: l) ((m, s) :: hs)
/-- the classes that are caught and thrown stand beside one another -/
def Apart (c : Cfg) : Prop := ∀ n m : Nat, n < 4 → m < 4 → PySem.W.exmOne c.K (.ref (c.ec n)) (.ref (c.ec m)) = some (decide (n = m))
theorem PostS.noE {E' : St → XK} {G0 : Wd} {H0 : Hp} {G : Wd} {De : Ends} {o : O} (post : PostS c E G0 H0 G De (noE o)) : PostS c E' G0 H0 G De o := by
  cases o with
  | err n l p => exact post.elim
  | _ => exact post
end
def locOf (n : Nat) (ds : List D) : Loc := ds.map (fun d => some (.dat d)) ++ List.replicate (n - ds.length) none
/-- what a def of n parameters and m slots does -/
def outR : O → R D
  | .rt d p => .ok d p
  | .nx _ p => .ok .non p
  | .err k _ p => .err k p
  | _ => .bad
def denF (n m : Nat) (s : MS) : RF := fun ds pot => if ds.length = n then outR (s (locOf m ds) pot) else .bad
section
variable {c : Cfg}
theorem start_rel {G : Wd} {H : Hp} {N : List Str} {vs : List V} {ds : List D} {pot : S} (a : AtL c.P G vs ds) (gh : Ex G H) (gP : (∀ a, c.B a → G a = none)) (hp : Sat c G pot H) : Rel c G H G H (start N vs) (locOf N.length ds) pot := by
  have hl := AtL.length a
  refine ⟨Stp.refl gh, hp, gP, hp.full, by simp [L2.start, locOf, hl], fun i x e => ?_, fun i j x y e1 e2 o1 o2 ne => ?_⟩
  · unfold locOf at e
    by_cases hi : i < ds.length
    · rw [List.getElem?_append_left (by simpa using hi), List.getElem?_map] at e
      have ed := List.getElem?_eq_getElem hi
      rw [ed] at e
      cases e
      obtain ⟨v, ev, av⟩ := AtL.get a ed
      have hs : (start N vs)[i]? = some (some v) := by
        unfold L2.start
        rw [List.getElem?_append_left (by simp [hl, hi]), List.getElem?_map, ev]
        rfl
      rw [hs]
      exact av
    · rw [List.getElem?_append_right (by simpa using hi), List.getElem?_replicate] at e
      split at e <;> cases e
  · exfalso
    unfold locOf at e1
    by_cases hi : i < ds.length
    · rw [List.getElem?_append_left (by simpa using hi), List.getElem?_map, List.getElem?_eq_getElem hi] at e1
      cases e1
      cases o1
    · rw [List.getElem?_append_right (by simpa using hi), List.getElem?_replicate] at e1
      split at e1 <;> cases e1
/-- the ends of a def -/
theorem post_fn {f : RF} {G0 : Wd} {H0 : Hp} {s : MS} {N : List Str} {n : Nat} {ds : List D} {pot : S} {Q : VK} {E' : XK} (hn : ds.length = n)
    (h : match denF n N.length s ds pot with
      | .ok d p => ∀ v G' H', Stp c.B G0 H0 G' H' → Sat c G' p H' → At c.P G' v d → Q v H'
      | .err m p => ∀ (G' : Wd) (H' : Hp), Stp c.B G0 H0 G' H' → Sat c G' p H' → E' (.ref (c.ec m)) none H'
      | .bad => False) :
    PostS c (fun _ => E') G0 H0 G0 { nx := fun _ H' => Q .non H', rt := Q } (s (locOf N.length ds) pot) := by
  unfold denF at h
  rw [if_pos hn] at h
  cases e : s (locOf N.length ds) pot with
  | nx l p => rw [e] at h; exact fun G' H' σ' _ r => h .non G' H' r.stp r.pot .non
  | rt d p => rw [e] at h; exact fun v G' H' σ' l' _ r a => h v G' H' r.stp r.pot a
  | err k l p => rw [e] at h; exact fun G' H' σ' _ r => h G' H' r.stp r.pot
  | bk l p => rw [e] at h; exact h.elim
  | ct l p => rw [e] at h; exact h.elim
  | bad => rw [e] at h; exact h.elim
variable {P : Program} {w : World} {mg : Str → Option Value} {base : Heap}
theorem fn_ss {x qual : Str} {st : Stmt} {f : Addr} {fd : FuncData} {N ps : List Str} {k : Nat} {s : MS} (F : Fun c.K x qual st f fd) (S : FnScope N ps (defScope st)) (hb : Binds c.K fd ps [])
    (hbody : ∀ (cdv : Value) (A : Around) (outer : List Env) (sh : Shared) (H : Hp) (E' : XK), Room k (A.deeper (PyProof.Rows.envOfC qual (defScope st) sh.heap.objs.size f cdv)) →
      ∃ t, PSs (cxOf (L2.CX P w) P w c.K mg base N qual (defScope st) f cdv A outer sh H E') (defBody st) t ∧ SS c (fun _ => E') t s) :
    FnR P w c.K mg base (L2.CX P w) (k + 1) f (spD c (denF ps.length N.length s)) := by
  have lenOf : ∀ vs H Q E, spD c (denF ps.length N.length s) vs H Q E → vs.length = ps.length := fun vs H Q E h => by
    obtain ⟨G, ds, pot, a, gh, gP, hp, h⟩ := h
    rw [AtL.length a]
    by_cases z : ds.length = ps.length
    · exact z
    · unfold denF at h
      rw [if_neg z] at h
      exact h.elim
  have ok : FnOk P w c.K mg base (L2.CX P w) (k + 1) f fd ps (spD c (denF ps.length N.length s)) := by
    refine F.okX S lenOf (fun cdv A outer sh H vs Q E hr h => ?_)
    have hl := lenOf vs H Q E h
    obtain ⟨G, ds, pot, a, gh, gP, hp, h⟩ := h
    obtain ⟨t, ht, hs⟩ := hbody cdv A outer sh H E hr
    refine ⟨t, ht, hs G H G H _ _ _ (start_rel a gh gP hp) _ ?_⟩
    exact post_fn (f := fun _ _ => .bad) ((AtL.length a).symm.trans hl) h
  have raw := ok.raw hb .nil
  exact raw.imp fun vs H Q E h => by rw [List.append_nil]; exact h
/-- def f(*xs) -/
def denStar (m : Nat) (s : MS) : RF := fun ds pot => denF 1 m s [.tup ds] pot
theorem fn_star_ss {x qual pv : Str} {st : Stmt} {f : Addr} {fd : FuncData} {N : List Str} {k : Nat} {s : MS} (F : Fun c.K x qual st f fd) (S : FnScope N [pv] (defScope st))
    (hbd : ∀ (kV doc pm : Value) (an : Option Addr) (cdv ct : Value) (rest : List Value), bindArgs (PySem.W.fnOf x qual (defArgs st) (defBody st) (defScope st) .none kV doc pm an cdv ct) ⟨rest, []⟩ = (newTuple rest >>= fun t => pure [(pv, t)]))
    (hbody : ∀ (cdv : Value) (A : Around) (outer : List Env) (sh : Shared) (H : Hp) (E' : XK), Room k (A.deeper (PyProof.Rows.envOfC qual (defScope st) sh.heap.objs.size f cdv)) →
      ∃ t, PSs (cxOf (L2.CX P w) P w c.K mg base N qual (defScope st) f cdv A outer sh H E') (defBody st) t ∧ SS c (fun _ => E') t s) :
    FnR P w c.K mg base (L2.CX P w) (k + 1) f (spD c (fun ds pot => if ds.length ≤ 1000 then denStar N.length s ds pot else .bad)) := by
  obtain ⟨oc, od, kV, doc, pm, an, cdv, ct, osl, rfl, lk, hcd⟩ := F.ex
  have z := StX.fn_star (CX := L2.CX P w) (P := P) (w := w) (mg := mg) (base := base) (k := k) (ps := []) (sp := spD c (denF 1 N.length s)) lk hcd S StX.cxUp (fun us rest hu => by
    cases us with
    | nil => exact hbd _ _ _ _ _ _ rest
    | cons _ _ => cases hu) (fun A outer sh H vs Q E hr h => by
    obtain ⟨G, ds, pot, a, gh, gP, hp, h⟩ := h
    obtain ⟨t, ht, hs⟩ := hbody cdv A outer sh H E hr
    refine ⟨t, ht, hs G H G H _ _ _ (start_rel a gh gP hp) _ ?_⟩
    have hl : ds.length = 1 := by
      by_cases z : ds.length = 1
      · exact z
      · unfold denF at h
        rw [if_neg z] at h
        exact h.elim
    exact post_fn (f := fun _ _ => .bad) hl h)
  refine z.imp fun vs H Q E h => ?_
  obtain ⟨G, ds, pot, a, gh, gP, hp, h⟩ := h
  by_cases hz : ds.length ≤ 1000
  · dsimp only at h
    rw [if_pos hz] at h
    refine ⟨[], vs, rfl, rfl, by rw [AtL.length a]; exact sz1000 hz, fun p hpn => ?_⟩
    have np : G.No p := Wd.no_of gh hpn fun z => hp.full p (.inr z) hpn
    have s1 : Stp c.B G H (wup G p (.tup vs)) (upd H p (.tup vs)) := Stp.lay gh hpn
    refine ⟨wup G p (.tup vs), [.tup ds], pot, .cons (at_new_t gh hpn a) .nil, s1.gh, fun a b => (wup_ne fun z => hp.full a (.inl b) (by rw [z]; exact hpn)).trans (gP a b), hp.same s1 (Same.lay hp.full hpn), ?_⟩
    unfold denStar at h
    cases e : denF 1 N.length s [.tup ds] pot with
    | ok d q => rw [e] at h; exact fun v G' H' s2 hq av => h v G' H' (s1.trans s2) hq av
    | err m q => rw [e] at h; exact fun G' H' s2 hq => h G' H' (s1.trans s2) hq
    | bad => rw [e] at h; exact h.elim
  · dsimp only at h
    rw [if_neg hz] at h
    exact h.elim
end
end Den
namespace Den
open PySem L2
mutual
def pd : D → Option PyData
  | .non => some .none
  | .bl b => some (.bool b)
  | .int i => some (.int i)
  | .lst ds => (pdL ds).map .list
  | .tup ds => (pdL ds).map .tuple
  | .str _ => none
  | .ins _ _ _ => none
  | .pot => none
  | .ty _ => none
  | .cls _ => none
  | .dct _ => none
  | .mr _ => none
def pdL : List D → Option (List PyData)
  | [] => some []
  | d :: ds => match pd d, pdL ds with
    | some a, some as => some (a :: as)
    | _, _ => none
end
mutual
theorem pd_at {K : PySem.W.Frag} {P : Addr} {G : Wd} {H : Hp} (gh : Ex G H) : ∀ (d : D) (x : V) (q : PyData), At P G x d → pd d = some q → Dp K H x q ∧ q.canLay0 = true
  | .non, _, _, h, e => by cases h; cases e; exact ⟨.non, rfl⟩
  | .bl b, _, _, h, e => by cases h; cases e; exact ⟨.bl b, rfl⟩
  | .int i, _, _, h, e => by cases h; cases e; exact ⟨.int i, rfl⟩
  | .lst ds, _, q, h, e => by
    obtain ⟨p, vs, rfl, hg, al⟩ := at_lst h
    unfold pd at e
    cases e1 : pdL ds with
    | none => rw [e1] at e; cases e
    | some as =>
      rw [e1] at e
      cases e
      obtain ⟨h1, h2⟩ := pdL_at gh ds vs as al e1
      exact ⟨.lst (.inl (.inl (gh _ _ hg))) h1, by simp only [PyData.canLay0]; exact h2⟩
  | .tup ds, _, q, h, e => by
    obtain ⟨p, vs, rfl, hg, al⟩ := at_tup h
    unfold pd at e
    cases e1 : pdL ds with
    | none => rw [e1] at e; cases e
    | some as =>
      rw [e1] at e
      cases e
      obtain ⟨h1, h2⟩ := pdL_at gh ds vs as al e1
      exact ⟨.tup (.inl (.inl (gh _ _ hg))) h1, by simp only [PyData.canLay0]; exact h2⟩
  | .str _, _, _, _, e => by cases e
  | .ins _ _ _, _, _, _, e => by cases e
  | .pot, _, _, _, e => by cases e
  | .ty _, _, _, _, e => by cases e
  | .cls _, _, _, _, e => by cases e
  | .dct _, _, _, _, e => by cases e
  | .mr _, _, _, _, e => by cases e
theorem pdL_at {K : PySem.W.Frag} {P : Addr} {G : Wd} {H : Hp} (gh : Ex G H) : ∀ (ds : List D) (vs : List V) (qs : List PyData), AtL P G vs ds → pdL ds = some qs → DpAll K H vs qs ∧ PyData.canLayAll0 qs = true
  | [], _, _, h, e => by cases h; cases e; exact ⟨.nil, rfl⟩
  | d :: ds, _, qs, h, e => by
    cases h with
    | cons h1 h2 =>
      unfold pdL at e
      split at e
      · rename_i a as e1 e2
        cases e
        obtain ⟨a1, a2⟩ := pd_at gh d _ a h1 e1
        obtain ⟨b1, b2⟩ := pdL_at gh ds _ as h2 e2
        exact ⟨.cons a1 b1, by simp only [PyData.canLayAll0, a2, b2]; rfl⟩
      · cases e
end
def fEqD (neg : Bool) (x y : D) : Option D := match pd x, pd y with
  | some a, some b => if a.depth ≤ 64 ∧ b.depth ≤ 64 then some (.bl (if neg then !PyData.eqv a b else PyData.eqv a b)) else none
  | _, _ => none
section
variable {c : Cfg} {E : St → XK}
theorem shp {q : PyData} (h1 : q.canLay0 = true) (h2 : q.depth ≤ 64) : SeqAt.shaped q = true := by
  unfold SeqAt.shaped
  rw [h1, decide_eq_true h2]
  rfl
theorem s2_eqD : S2 c (rEqD c.K) (fEqD false) := ⟨fun G H x y dx dy d gh _ hx hy e => by
  unfold fEqD at e
  split at e
  · rename_i a b e1 e2
    split at e
    · rename_i z
      cases e
      obtain ⟨a1, a2⟩ := pd_at (K := c.K) gh dx x a hx e1
      obtain ⟨b1, b2⟩ := pd_at (K := c.K) gh dy y b hy e2
      exact ops_pure gh (.bl _) fun Q q => ⟨a, b, a1, b1, shp a2 z.1, shp b2 z.2, q⟩
    · cases e
  · cases e⟩
theorem s2_neD : S2 c (rNeD c.K) (fEqD true) := ⟨fun G H x y dx dy d gh _ hx hy e => by
  unfold fEqD at e
  split at e
  · rename_i a b e1 e2
    split at e
    · rename_i z
      cases e
      obtain ⟨a1, a2⟩ := pd_at (K := c.K) gh dx x a hx e1
      obtain ⟨b1, b2⟩ := pd_at (K := c.K) gh dy y b hy e2
      exact ops_pure gh (.bl _) fun Q q => ⟨a, b, a1, b1, shp a2 z.1, shp b2 z.2, q⟩
    · cases e
  · cases e⟩
theorem lookup_zip {P : Addr} {G : Wd} {f : Str} : ∀ {ns : List Str} {vs : List V} {ds : List D} {d : D}, AtL P G vs ds → (ns.zip ds).lookup f = some d → ∃ v, (ns.zip vs).lookup f = some v ∧ At P G v d
  | [], _, _, _, _, e => by simp at e
  | _ :: _, _, [], _, .nil, e => by simp at e
  | n :: ns, _, d' :: ds, d, .cons (v := v) (vs := vs) h t, e => by
    rw [List.zip_cons_cons, List.lookup_cons] at e ⊢
    cases q : f == n with
    | true => rw [q] at e; cases e; exact ⟨v, rfl, h⟩
    | false => rw [q] at e; exact lookup_zip t e
def fFld (C : Addr) (f : Str) : D → Option D
  | .ins C' ns ds => if C' = C then (ns.zip ds).lookup f else none
  | _ => none
def mfld (C : Addr) (f : Str) (a : M D) : M D := op1 (fFld C f) a
theorem fld_at {G : Wd} {C : Addr} {f : Str} {x : V} {d dd : D} (hx : At c.P G x d) (e : fFld C f d = some dd) : ∃ p dx fs v, x = .ref p ∧ G p = some (.ins C dx fs) ∧ fs.lookup f = some v ∧ At c.P G v dd := by
  cases d with
  | ins C' ns ds =>
    unfold fFld at e
    dsimp only at e
    split at e
    · rename_i z
      subst z
      cases hx with
      | ins h al =>
        obtain ⟨v, e1, av⟩ := lookup_zip al e
        exact ⟨_, _, _, v, rfl, h, e1, av⟩
    · cases e
  | _ => cases e
/-- a property that hands a field out -/
theorem se_prop {C : Addr} {f : Str} {t : TE} {a : M D} (ha : SE c E t a) : SE c E (tProp C (getSp C f) [] E0 t) (mfld C f a) := by
  intro G0 H0 G H σ l pot r Q post
  refine Sn.go ha r post fun x dx p G1 H1 s1 r1 hx post1 => ?_
  obtain ⟨dd, e, post2⟩ := post_lift0 post1
  obtain ⟨q, ddx, fs, v, rfl, h, e1, av⟩ := fld_at hx e
  exact ⟨q, ddx, fs, rfl, r1.stp.gh _ _ h, q, ddx, fs, v, rfl, r1.stp.gh _ _ h, e1, Post.ok post2 r1 av⟩
/-- self._f in the making: slot i holds the instance -/
def mfldO (C : Addr) (i : Nat) (f : Str) : M D := fun l p => match l[i]? with
  | some (some (.obj _ C' ns ds)) => if C' = C then (match (ns.zip ds).lookup f with
    | some d => .ok d p
    | none => .bad) else .bad
  | _ => .bad
theorem obj_at {G0 : Wd} {H0 : Hp} {G : Wd} {H : Hp} {σ : St} {l : Loc} {pot : S} {i : Nat} {ea C : Addr} {ns : List Str} {ds : List D} (r : Rel c G0 H0 G H σ l pot) (hc : l[i]? = some (some (.obj ea C ns ds))) :
    ∃ p vs dx, p = ea ∧  σ[i]? = some (some (.ref p)) ∧ H p = some (.ins C dx (ns.zip vs)) ∧ AtL c.P G vs ds ∧ G.No p ∧ H0 p = none ∧ ¬ c.B p := by
  have q := r.slot i _ hc
  cases ho : σ[i]? with
  | none => rw [ho] at q; exact q.elim
  | some o =>
    cases o with
    | none => rw [ho] at q; exact q.elim
    | some v =>
      cases v with
      | ref p =>
        rw [ho] at q
        obtain ⟨hea, vs, dx, h1, h2, h3, h4, h5, _⟩ := q
        exact ⟨p, vs, dx, hea, rfl, h1, h2, h3, h4, h5⟩
      | _ => rw [ho] at q; exact q.elim
theorem se_fldO {C : Addr} {i : Nat} {f : Str} (hC : Cls c.K C) (hN : NoAttr c.K C f) : SE c E (tFld c.K (tVar i) f) (mfldO C i f) := by
  intro G0 H0 G H σ l pot r Q post
  unfold mfldO at post
  split at post
  · rename_i ea C' ns ds hc
    split at post
    · rename_i z
      subst z
      obtain ⟨p, vs, dx, _, hσ, h1, h2, _⟩ := obj_at r hc
      split at post
      · rename_i d e
        obtain ⟨v, e1, av⟩ := lookup_zip h2 e
        exact ⟨.ref p, hσ, p, C', dx, _, v, rfl, h1, hC, hN, e1, Post.ok post r av⟩
      · exact post.elim
    · exact post.elim
  · exact post.elim
/-- self._f = e, a new attribute -/
def sfldO (C : Addr) (i : Nat) (f : Str) (a : M D) : MS := sbind a fun x l p => match l[i]? with
  | some (some (.obj ea C' ns ds)) => if C' = C ∧ ns.length = ds.length ∧ ns.length < 1000 ∧ f ∉ ns then .nx (l.set i (some (.obj ea C (ns ++ [f]) (ds ++ [x])))) p else .bad
  | _ => .bad
theorem putF_zip {f : Str} {v : V} : ∀ {ns : List Str} {vs : List V}, ns.length = vs.length → f ∉ ns → putF f v (ns.zip vs) = (ns ++ [f]).zip (vs ++ [v])
  | [], [], _, _ => rfl
  | [], _ :: _, h, _ => by cases h
  | _ :: _, [], h, _ => by cases h
  | n :: ns, w :: vs, h, hf => by
    have hn : n ≠ f := fun z => hf (by rw [z]; exact List.mem_cons_self)
    rw [List.zip_cons_cons, List.cons_append, List.cons_append, List.zip_cons_cons]
    show (if n = f then _ else _) = _
    rw [if_neg hn]
    exact congrArg _ (putF_zip (by simpa using h) fun z => hf (List.mem_cons_of_mem _ z))
theorem Rel.writeO {G0 : Wd} {H0 : Hp} {G : Wd} {H : Hp} {σ : St} {l : Loc} {pot : S} {i : Nat} {p ea C dx : Addr} {ns ns' : List Str} {vs : List V} {ds es : List D} (r : Rel c G0 H0 G H σ l pot) (hc : l[i]? = some (some (.obj ea C ns es))) (hσ : σ[i]? = some (some (.ref p))) (a : AtL c.P G vs ds) (hn' : ns' ≠ []) :
    Rel c G0 H0 G (upd H p (.ins C dx (ns'.zip vs))) σ (l.set i (some (.obj ea C ns' ds))) pot := by
  have q := r.slot i _ hc
  rw [hσ] at q
  obtain ⟨hea, ws, dx0, h1, h2, h3, h4, h5, _⟩ := q
  have hi : i < l.length := (List.getElem?_eq_some_iff.mp hc).1
  refine ⟨⟨r.stp.gg, fun b o e => ?_, fun b o e n n2 => ?_, fun b e => ?_, r.stp.new, r.stp.np.poke (.inr h4)⟩, r.pot.poke h5 h3, r.gP, r.hP, by rw [List.length_set, r.len], fun j x e => ?_, fun j k x y e1 e2 o1 o2 ne => ?_⟩
  · rw [upd_ne (fun z => by subst z; have e : G _ = some o := e; rw [h3.hp] at e; cases e)]; exact r.stp.gh b o e
  · rw [upd_ne (fun z => by subst z; rw [h4] at e; cases e)]; exact r.stp.keep b o e n n2
  · by_cases z : b = p
    · subst z; exact h4
    · rw [upd_ne z] at e; exact r.stp.there b e
  · by_cases z : j = i
    · subst z
      rw [List.getElem?_set_self hi] at e
      cases e
      rw [hσ]
      exact ⟨hea, vs, dx, upd_same, a, h3, h4, h5, fun z => absurd z hn'⟩
    · rw [List.getElem?_set_ne (Ne.symm z)] at e
      have a2 := r.slot j x e
      match ho : σ[j]?, x, a2 with
      | some (some v), .dat d, a2 => exact a2
      | some (some (.ref q)), .cell ds', ⟨ws', g1, g2, g3, g4⟩ =>
        have nq : q ≠ p := fun w => r.dist j i _ _ e hc rfl rfl z (by rw [ho, hσ, w])
        exact ⟨ws', (upd_ne nq).trans g1, g2, g3, g4⟩
      | some (some (.ref q)), .obj ea C ns ds', ⟨hea, ws', dx, g1, g2, g3, g4, g5, g6⟩ =>
        have nq : q ≠ p := fun w => r.dist j i _ _ e hc rfl rfl z (by rw [ho, hσ, w])
        exact ⟨hea, ws', dx, (upd_ne nq).trans g1, g2, g3, g4, g5, fun w => ⟨(upd_ne (fun y => by
          have y1 := (g6 w).1
          rw [y, h1] at y1
          cases y1)).trans (g6 w).1, (g6 w).2⟩⟩
  · have back : ∀ (m : Nat) (x : L), (l.set i (some (.obj ea C ns' ds)))[m]? = some (some x) → owned x = true → ∃ y, l[m]? = some (some y) ∧ owned y = true := fun m x e o => by
      by_cases z : m = i
      · subst z; exact ⟨_, hc, rfl⟩
      · rw [List.getElem?_set_ne (Ne.symm z)] at e; exact ⟨x, e, o⟩
    obtain ⟨x', e1', o1'⟩ := back j x e1 o1
    obtain ⟨y', e2', o2'⟩ := back k y e2 o2
    exact r.dist j k x' y' e1' e2' o1' o2' ne
theorem ss_fldO {C : Addr} {i : Nat} {f : Str} {t : TE} {a : M D} (hC : Cls c.K C) (hN : NoAttr c.K C f) (ha : SE c E t a) : SS c E (sFld c.K (tVar i) t f) (sfldO C i f a) := by
  intro G0 H0 G H σ l pot r De post
  refine Sn.goS ha r post fun x dx p G1 H1 s1 r1 hx post1 => ?_
  split at post1
  · rename_i ea C' ns ds hc
    split at post1
    · rename_i z
      obtain ⟨rfl, z1, z2, z3⟩ := z
      obtain ⟨q, vs, ddx, _, hσ, h1, h2, _⟩ := obj_at r1 hc
      have hlen : ns.length = vs.length := z1.trans (AtL.length h2).symm
      refine ⟨.ref q, hσ, q, C', ddx, _, rfl, h1, hC, hN, ?_, ?_⟩
      · rw [List.length_zip, ← hlen, Nat.min_self]; exact z2
      · rw [putF_zip hlen z3]
        exact PostS.of post1 (r1.writeO hc hσ (AtL.append h2 (.cons hx .nil)) (by simp))
    · exact post1.elim
  · exact post1.elim
abbrev RI := List D → S → R (List Str × List D)
def spI (c : Cfg) (C : Addr) (f : RI) : Sp := fun vs H Q E => ∃ (x dx : Addr) (vs' : List V) (H1 : Hp) (G : Wd) (ds : List D) (pot : S), vs = .ref x :: vs' ∧ H = upd (upd H1 dx (.own x)) x (.ins C dx []) ∧ H1 x = none ∧ H1 dx = none ∧ dx ≠ x ∧ AtL c.P G vs' ds ∧ Ex G H1 ∧ (∀ a, c.B a → G a = none) ∧ Sat c G pot H1 ∧ (match f ds pot with
  | .ok (ns, es) p => ∀ G' H' dx' ws, Stp c.B G H1 G' H' → H' x = some (.ins C dx' (ns.zip ws)) → AtL c.P G' ws es → G'.No x → Sat c G' p H' → Q .non H'
  | .err m p => ∀ (G' : Wd) (H' : Hp), Stp c.B G H1 G' H' → Sat c G' p H' → E (.ref (c.ec m)) none H'
  | .bad => False)
def mmake (C : Addr) (f : RI) (a : M (List D)) : M D := mbind a fun ds _ p => match f ds p with
  | .ok (ns, es) q => .ok (.ins C ns es) q
  | .err m q => .err m q
  | .bad => .bad
theorem se_make {C : Addr} {f : RI} {E' : XK} {t : TA} {a : M (List D)} (ha : SA c (fun _ => E') t a) : SE c (fun _ => E') (StX.tMakeR C (spI c C f) E' t) (mmake C f a) := by
  intro G0 H0 G H σ l pot r Q post
  refine Sn.go ha r post fun x dx p G1 H1 s1 r1 hx post1 => ?_
  intro y dy hy hdy ne
  refine ⟨y, dy, x, H1, G1, dx, p, rfl, rfl, hy, hdy, ne, hx, r1.stp.gh, r1.gP, r1.pot, ?_⟩
  cases e : f dx p with
  | bad => rw [e] at post1; exact post1.elim
  | err m q =>
    rw [e] at post1
    exact fun G' H' s hp => post1 G' H' s.gg (r1.step s hp)
  | ok z q =>
    obtain ⟨ns, es⟩ := z
    rw [e] at post1
    intro G' H' dx' ws s h1 h2 h3 h4
    have rr := r1.step s h4
    have h0 : H0 y = none := r1.stp.there y hy
    have hP : ¬ c.B y := fun z => r.h0 y z h0
    have r2 := Rel.freeze rr h1 h0 hP (fun i x e ho => r1.own_ne hy i x e ho) h3
    refine ⟨rfl, post1 (.ref y) _ H' ⟨s.gg.trans (Ew.new h3.hp), r2.stp.gh, s.keep, s.there, fun b u e => ?_, s.np⟩ r2 (.ins wup_same (AtL.mono (Ew.new h3.hp) h2))⟩
    by_cases z : b = y
    · subst z; exact .inr hy
    · rw [wup_ne z] at e; exact s.new b u e
/-- an __init__ of n parameters with self, and m slots; self stands at x -/
def outI (x C : Addr) : O → R (List Str × List D)
  | .nx l p => match l[0]? with
    | some (some (L.obj y C' ns ds)) => if y = x ∧ C' = C then .ok (ns, ds) p else .bad
    | _ => .bad
  | .err k _ p => .err k p
  | _ => .bad
def locI (x C : Addr) (n : Nat) (ds : List D) : Loc := some (.obj x C [] []) :: (ds.map (fun d => some (.dat d)) ++ List.replicate (n - (ds.length + 1)) none)
def denI (x C : Addr) (n m : Nat) (s : MS) : RI := fun ds pot => if ds.length + 1 = n then outI x C (s (locI x C m ds) pot) else .bad
end
section
variable {c : Cfg} {P : Program} {w : World} {mg : Str → Option Value} {base : Heap}
theorem startI_rel {G : Wd} {H1 : Hp} {N : List Str} {vs : List V} {ds : List D} {pot : S} {x dx C : Addr} (a : AtL c.P G vs ds) (gh : Ex G H1) (gP : (∀ a, c.B a → G a = none)) (hp : Sat c G pot H1) (hx : H1 x = none) (hdx : H1 dx = none) (ne : dx ≠ x) :
    Rel c G H1 G (upd (upd H1 dx (.own x)) x (.ins C dx [])) (L2.start N (.ref x :: vs)) (locI x C N.length ds) pot := by
  have hl := AtL.length a
  have hP1 : ∀ a, c.R G a → a ≠ dx := fun a b z => hp.full a b (by rw [z]; exact hdx)
  have hP2 : ∀ a, c.R G a → a ≠ x := fun a b z => hp.full a b (by rw [z]; exact hx)
  have s1 : Stp c.B G H1 G (upd H1 dx (.own x)) := Stp.lay0 gh hdx
  have s2 : Stp c.B G (upd H1 dx (.own x)) G (upd (upd H1 dx (.own x)) x (.ins C dx [])) := Stp.lay0 s1.gh (by rw [upd_ne (Ne.symm ne)]; exact hx)
  have hG : G.No x := Wd.no_of gh hx fun z => hP2 x (.inr z) rfl
  have hGd : G.No dx := Wd.no_of gh hdx fun z => hP1 dx (.inr z) rfl
  have tl : ∀ (i : Nat) (y : L), (ds.map (fun d => some (L.dat d)) ++ List.replicate (N.length - (ds.length + 1)) none)[i]? = some (some y) → ∃ d v, y = .dat d ∧ (vs.map some ++ List.replicate (N.length - (vs.length + 1)) none)[i]? = some (some v) ∧ At c.P G v d := fun i y e => by
    by_cases hi : i < ds.length
    · rw [List.getElem?_append_left (by simpa using hi), List.getElem?_map] at e
      have ed := List.getElem?_eq_getElem hi
      rw [ed] at e
      cases e
      obtain ⟨v, ev, av⟩ := AtL.get a ed
      refine ⟨_, v, rfl, ?_, av⟩
      rw [List.getElem?_append_left (by simp [hl, hi]), List.getElem?_map, ev]
      rfl
    · rw [List.getElem?_append_right (by simpa using hi), List.getElem?_replicate] at e
      split at e <;> cases e
  have est : L2.start N (.ref x :: vs) = some (.ref x) :: (vs.map some ++ List.replicate (N.length - (vs.length + 1)) none) := by
    unfold L2.start
    rw [List.map_cons, List.cons_append, List.length_cons]
  refine ⟨s1.trans s2, hp.ext (fun a b => by rw [upd_ne (hP2 a b), upd_ne (hP1 a b)]), gP, hp.full, by rw [est]; simp [locI, hl], fun i y e => ?_, fun i j y z e1 e2 o1 o2 n => ?_⟩
  · rw [est]
    cases i with
    | zero =>
      cases e
      exact ⟨rfl, [], dx, upd_same, .nil, hG, hx, fun b => hP2 x (.inl b) rfl, fun _ => ⟨(upd_ne ne).trans upd_same, hdx, hGd, ne⟩⟩
    | succ i =>
      obtain ⟨d, v, rfl, ev, av⟩ := tl i y (by simpa [locI] using e)
      rw [List.getElem?_cons_succ, ev]
      exact av
  · exfalso
    cases i with
    | zero =>
      cases j with
      | zero => exact n rfl
      | succ j =>
        obtain ⟨d, v, rfl, _⟩ := tl j z (by simpa [locI] using e2)
        cases o2
    | succ i =>
      obtain ⟨d, v, rfl, _⟩ := tl i y (by simpa [locI] using e1)
      cases o1
theorem init_ss {nm qual : Str} {st : Stmt} {f C : Addr} {fd : FuncData} {N ps : List Str} {k : Nat} {s : MS} {g : RI} (F : Fun c.K nm qual st f fd) (S : FnScope N ps (defScope st)) (hb : Binds c.K fd ps [])
    (hg : ∀ x ds pot, ds.length + 1 = ps.length → g ds pot ≠ .bad → denI x C ps.length N.length s ds pot = g ds pot) (hlen : ∀ ds pot, g ds pot ≠ .bad → ds.length + 1 = ps.length)
    (hbody : ∀ (cdv : Value) (A : Around) (outer : List Env) (sh : Shared) (H : Hp) (E' : XK), Room k (A.deeper (PyProof.Rows.envOfC qual (defScope st) sh.heap.objs.size f cdv)) →
      ∃ t, PSs (cxOf (L2.CX P w) P w c.K mg base N qual (defScope st) f cdv A outer sh H E') (defBody st) t ∧ SS c (fun _ => E') t s) :
    FnR P w c.K mg base (L2.CX P w) (k + 1) f (spI c C g) := by
  have nb : ∀ {ds pot} {R' : R (List Str × List D) → Prop}, R' (g ds pot) → (R' .bad → False) → g ds pot ≠ .bad := fun {ds pot R'} h hb z => by rw [z] at h; exact hb h
  have lenOf : ∀ vs H Q E, spI c C g vs H Q E → vs.length = ps.length := fun vs H Q E h => by
    obtain ⟨x, dx, vs', H1, G, ds, pot, rfl, rfl, hx, hdx, ne, a, gh, gP, hp, h⟩ := h
    have hd := hlen ds pot (fun z => by rw [z] at h; exact h)
    rw [List.length_cons, AtL.length a]
    exact hd
  have ok : FnOk P w c.K mg base (L2.CX P w) (k + 1) f fd ps (spI c C g) := by
    refine F.okX S lenOf (fun cdv A outer sh H vs Q E hr h => ?_)
    obtain ⟨x, dx, vs', H1, G, ds, pot, rfl, rfl, hx, hdx, ne, a, gh, gP, hp, h⟩ := h
    have nbad : g ds pot ≠ .bad := fun z => by rw [z] at h; exact h
    have hd := hlen ds pot nbad
    obtain ⟨t, ht, hs⟩ := hbody cdv A outer sh _ E hr
    refine ⟨t, ht, hs G H1 G _ _ _ _ (startI_rel a gh gP hp hx hdx ne) _ ?_⟩
    have e := hg x ds pot hd nbad
    unfold denI at e
    rw [if_pos hd] at e
    rw [← e] at h
    cases e2 : s (locI x C N.length ds) pot with
    | nx l p =>
      rw [e2] at h
      unfold outI at h
      dsimp only at h
      split at h
      · rename_i z
        split at z
        · rename_i y C' ns es hl
          split at z
          · rename_i w
            obtain ⟨rfl, rfl⟩ := w
            cases z
            intro G' H' σ' eg r
            obtain ⟨q, ws, dx', eq, hσ, g1, g2, g3, _, _⟩ := obj_at r hl
            subst eq
            exact h G' H' dx' ws r.stp g1 g2 g3 r.pot
          · cases z
        · cases z
      · rename_i z
        split at z
        · split at z
          · cases z
          · cases z
        · cases z
      · exact h.elim
    | rt d p => rw [e2] at h; exact h.elim
    | err m l p =>
      rw [e2] at h
      exact fun G' H' σ' eg r => h G' H' r.stp r.pot
    | bk l p => rw [e2] at h; exact h.elim
    | ct l p => rw [e2] at h; exact h.elim
    | bad => rw [e2] at h; exact h.elim
  have raw := ok.raw hb .nil
  exact raw.imp fun vs H Q E h => by rw [List.append_nil]; exact h
end
end Den
namespace Den
open PySem L2
def rListF (K : PySem.W.Frag) : List V → Hp → VK → Prop := fun xs H Q => ∃ p ys, xs = [.ref p] ∧ (SqL K H p ys ∨ SqT K H p ys) ∧ ∀ l, H l = none → Q (.ref l) (upd H l (.lst ys))
def rTupleF (K : PySem.W.Frag) : List V → Hp → VK → Prop := fun xs H Q => ∃ p ys, xs = [.ref p] ∧ ((SqL K H p ys ∧ ∀ l, H l = none → Q (.ref l) (upd H l (.tup ys))) ∨ (SqT K H p ys ∧ Q (.ref p) H))
def rMax2F : List V → Hp → VK → Prop := fun xs H Q => ∃ i j, xs = [.int i, .int j] ∧ Q (.int (if j > i then j else i)) H
def rMin2F : List V → Hp → VK → Prop := fun xs H Q => ∃ i j, xs = [.int i, .int j] ∧ Q (.int (if j < i then j else i)) H
def rIntF : List V → Hp → VK → Prop := fun xs H Q => (∃ i, xs = [.int i] ∧ Q (.int i) H) ∨ ∃ k, xs = [.bl k] ∧ Q (.int (if k then 1 else 0)) H
def rIsNF : R2 := fun x y H Q => y = .non ∧ Q (.bl (decide (x = .non))) H
def rNotNF : R2 := fun x y H Q => y = .non ∧ Q (.bl (!decide (x = .non))) H
section
variable {c : Cfg} {E : St → XK}
end
theorem pe_gint {X : Cx} {x : Str} {i : Int} {pos : Pos} (hg : Gl X x) (h : ∃ t, X.mg x = some (.int i t)) (hd : (x == ("__debug__" : Str)) = false := by decide) : PE X (.Name x pos) (tC (.int i)) := by
  refine ⟨fun pins s σ H Q I hq => ?_⟩
  obtain ⟨t, h⟩ := h
  exact (pe_glob hg h (v := .int i) ⟨t, rfl⟩ hd).run pins s σ H Q I hq
theorem getter_of {CX : CXT} {P : Program} {w : World} {K : PySem.W.Frag} {mg : Str → Option Value} {base : Heap} {x qual f : Str} {st : Stmt} {g C : Addr} {fd : FuncData} {p1 p2 p3 : Pos} (F : Fun K x qual st g fd) (S : FnScope ["self"] ["self"] (defScope st))
    (hb : defBody st = [.Return (some (.Attribute (.Name "self" p1) f p2)) p3]) (hN : (["self"] : List Str)[0]? = some ("self" : Str)) (cl : Cls K C) (n : NoAttr K C f) : FnOk P w K mg base CX 1 g fd ["self"] (getSp C f) := by
  obtain ⟨oc, od, kV, doc, pm, an, cdv, ct, osl, rfl, lk, hcd⟩ := F.ex
  exact fn_getter (k := 0) lk hcd S hN hb cl n
end Den
namespace Den
open PySem L2
@[simp] theorem mret_ev {α : Type} (a : α) (l : Loc) (p : S) : mret a l p = .ok a p := rfl
@[simp] theorem mbind_ev {α β : Type} (a : M α) (k : α → M β) (l : Loc) (p : S) : mbind a k l p = (a l p).bind fun x p' => k x l p' := rfl
@[simp] theorem bind_ok {α β : Type} (a : α) (p : S) (k : α → S → R β) : (R.ok a p).bind k = k a p := rfl
@[simp] theorem bind_err {α β : Type} (n : Nat) (p : S) (k : α → S → R β) : (R.err n p : R α).bind k = .err n p := rfl
@[simp] theorem bind_bad {α β : Type} (k : α → S → R β) : (R.bad : R α).bind k = .bad := rfl
@[simp] theorem mlift_some {α : Type} (a : α) (l : Loc) (p : S) : mlift (some a) l p = .ok a p := rfl
@[simp] theorem mlift_none {α : Type} (l : Loc) (p : S) : (mlift none : M α) l p = .bad := rfl
theorem mvar_ev {i : Nat} {l : Loc} {p : S} {d : D} (h : l[i]? = some (some (.dat d))) : mvar i l p = .ok d p := by
  unfold mvar
  rw [h]
@[simp] theorem op2_ev (f : D → D → Option D) (a b : M D) (l : Loc) (p : S) : op2 f a b l p = (a l p).bind fun x p' => (b l p').bind fun y p'' => mlift (f x y) l p'' := rfl
@[simp] theorem op1_ev (f : D → Option D) (a : M D) (l : Loc) (p : S) : op1 f a l p = (a l p).bind fun x p' => mlift (f x) l p' := rfl
@[simp] theorem opn_ev (f : List D → Option D) (a : M (List D)) (l : Loc) (p : S) : opn f a l p = (a l p).bind fun x p' => mlift (f x) l p' := rfl
@[simp] theorem anil_ev (l : Loc) (p : S) : anil l p = .ok [] p := rfl
@[simp] theorem acons_ev (a : M D) (b : M (List D)) (l : Loc) (p : S) : acons a b l p = (a l p).bind fun x p' => (b l p').bind fun ys p'' => .ok (x :: ys) p'' := rfl
@[simp] theorem mtest_ev (a : M D) (l : Loc) (p : S) : mtest a l p = (a l p).bind fun x p' => mlift (boolOf x) l p' := rfl
@[simp] theorem boolOf_bl (b : Bool) : boolOf (.bl b) = some b := rfl
@[simp] theorem mcall_ev (f : RF) (a : M (List D)) (l : Loc) (p : S) : mcall f a l p = (a l p).bind fun x p' => f x p' := rfl
@[simp] theorem mand_ev (a b : M Bool) (l : Loc) (p : S) : mand a b l p = (a l p).bind fun x p' => if x = true then b l p' else .ok false p' := by
  unfold mand mbind
  congr 1; funext x p'; cases x <;> rfl
@[simp] theorem mor_ev (a b : M Bool) (l : Loc) (p : S) : mor a b l p = (a l p).bind fun x p' => if x = true then .ok true p' else b l p' := by
  unfold mor mbind
  congr 1; funext x p'; cases x <;> rfl
@[simp] theorem mnot_ev (a : M Bool) (l : Loc) (p : S) : mnot a l p = (a l p).bind fun x p' => .ok (!x) p' := rfl
@[simp] theorem mif_ev {α : Type} (t : M Bool) (a b : M α) (l : Loc) (p : S) : mif t a b l p = (t l p).bind fun x p' => if x = true then a l p' else b l p' := by
  unfold mif mbind
  congr 1; funext x p'; cases x <;> rfl
@[simp] theorem vand_ev (a b : M D) (l : Loc) (p : S) : vand a b l p = (mtest a l p).bind fun x p' => if x = true then b l p' else .ok (.bl false) p' := by
  unfold vand mbind
  congr 1; funext x p'; cases x <;> rfl
@[simp] theorem vor_ev (a b : M D) (l : Loc) (p : S) : vor a b l p = (mtest a l p).bind fun x p' => if x = true then .ok (.bl true) p' else b l p' := by
  unfold vor mbind
  congr 1; funext x p'; cases x <;> rfl
@[simp] theorem vnot_ev (a : M D) (l : Loc) (p : S) : vnot a l p = (mtest a l p).bind fun x p' => .ok (.bl (!x)) p' := rfl
@[simp] theorem mtru_ev (a : M D) (l : Loc) (p : S) : mtru a l p = (a l p).bind fun x p' => mlift (truOf x) l p' := rfl
@[simp] theorem mtrue_ev (l : Loc) (p : S) : mtrue l p = .ok true p := rfl
@[simp] theorem mfreeze_ev (a : M (List D)) (l : Loc) (p : S) : mfreeze a l p = (a l p).bind fun x p' => .ok (.lst x) p' := rfl
@[simp] theorem mshort_ev (a : M (List D)) (l : Loc) (p : S) : mshort a l p = (a l p).bind fun x p' => if x.length ≤ 1000 then .ok x p' else .bad := by
  unfold mshort mbind
  congr 1; funext x p'
  by_cases h : x.length ≤ 1000
  · simp only [if_pos h]; rfl
  · simp only [if_neg h]
@[simp] theorem mtupd_ev (a : M (List D)) (l : Loc) (p : S) : mtupd a l p = (mshort a l p).bind fun x p' => .ok (.tup x) p' := rfl
@[simp] theorem mlistN_ev (a : M (List D)) (l : Loc) (p : S) : mlistN a l p = (a l p).bind fun x p' => mlift (fSeq1 x) l p' := rfl
@[simp] theorem mpop_nil (l : Loc) (p : S) (st : List MO) (v : Nat) (a : M D) (h : a l p = .ok .pot ⟨[], st, v⟩) : mpop a l p = .bad := by
  unfold mpop mbind; rw [h]; rfl
@[simp] theorem mfld_ev (C : Addr) (f : Str) (a : M D) (l : Loc) (p : S) : mfld C f a l p = (a l p).bind fun x p' => mlift (fFld C f x) l p' := rfl
@[simp] theorem sseq_nx (a b : MS) (l l' : Loc) (p p' : S) (h : a l p = .nx l' p') : sseq a b l p = b l' p' := by
  unfold sseq; rw [h]
def O.bind (o : O) (k : Loc → S → O) : O := match o with
  | .nx l p => k l p
  | o => o
@[simp] theorem O.bind_nx (l : Loc) (p : S) (k : Loc → S → O) : (O.nx l p).bind k = k l p := rfl
@[simp] theorem O.bind_rt (d : D) (p : S) (k : Loc → S → O) : (O.rt d p).bind k = .rt d p := rfl
@[simp] theorem O.bind_err (n : Nat) (l : Loc) (p : S) (k : Loc → S → O) : (O.err n l p).bind k = .err n l p := rfl
@[simp] theorem O.bind_bad (k : Loc → S → O) : O.bad.bind k = .bad := rfl
@[simp] theorem sseq_ev (a b : MS) (l : Loc) (p : S) : sseq a b l p = (a l p).bind b := by
  unfold sseq O.bind; cases a l p <;> rfl
@[simp] theorem sskip_ev (l : Loc) (p : S) : sskip l p = .nx l p := rfl
def R.toO {α : Type} (r : R α) (l : Loc) (k : α → S → O) : O := match r with
  | .ok x p => k x p
  | .err n p => .err n l p
  | .bad => .bad
@[simp] theorem toO_ok {α : Type} (a : α) (p : S) (l : Loc) (k : α → S → O) : (R.ok a p).toO l k = k a p := rfl
@[simp] theorem toO_err {α : Type} (n : Nat) (p : S) (l : Loc) (k : α → S → O) : (R.err n p : R α).toO l k = .err n l p := rfl
@[simp] theorem toO_bad {α : Type} (l : Loc) (k : α → S → O) : (R.bad : R α).toO l k = .bad := rfl
theorem sbind_ev {α : Type} (a : M α) (k : α → MS) (l : Loc) (p : S) : sbind a k l p = (a l p).toO l fun x p' => k x l p' := by
  unfold sbind R.toO; cases a l p <;> rfl
@[simp] theorem sif_ev (t : M Bool) (a b : MS) (l : Loc) (p : S) : sif t a b l p = (t l p).toO l fun x p' => if x = true then a l p' else b l p' := by
  unfold sif; rw [sbind_ev]; congr 1; funext x p'; cases x <;> rfl
@[simp] theorem sret_ev (a : M D) (l : Loc) (p : S) : sret a l p = (a l p).toO l fun x p' => .rt x p' := by unfold sret; rw [sbind_ev]
@[simp] theorem sdrop_ev (a : M D) (l : Loc) (p : S) : sdrop a l p = (a l p).toO l fun x p' => .nx l p' := by unfold sdrop; rw [sbind_ev]
@[simp] theorem sasg_ev (a : M D) (tg : D → Loc → Option Loc) (l : Loc) (p : S) : sasg a tg l p = (a l p).toO l fun x p' => match tg x l with
  | some l' => .nx l' p'
  | none => .bad := by unfold sasg; rw [sbind_ev] <;> rfl
@[simp] theorem sown_ev (a : M (List D)) (i : Nat) (l : Loc) (p : S) : sown a i l p = (a l p).toO l fun x p' => if i < l.length then .nx (l.set i (some (.cell x))) p' else .bad := by unfold sown; rw [sbind_ev]
@[simp] theorem sraise_ev (n : Nat) (l : Loc) (p : S) : sraise n l p = .err n l p := rfl
@[simp] theorem sfor_ev (a : M (List D)) (tg : D → Loc → Option Loc) (body : MS) (l : Loc) (p : S) : sfor a tg body l p = (a l p).toO l fun x p' => loop tg body x l p' := by unfold sfor; rw [sbind_ev]
@[simp] theorem outR_rt (d : D) (p : S) : outR (.rt d p) = .ok d p := rfl
@[simp] theorem outR_nx (l : Loc) (p : S) : outR (.nx l p) = .ok .non p := rfl
@[simp] theorem outR_err (n : Nat) (l : Loc) (p : S) : outR (.err n l p) = .err n p := rfl

@[simp] theorem fEq_int (i j : Int) : fEq (.int i) (.int j) = some (.bl (decide (i = j))) := by
  show (if scal (V.int i) (V.int j) = true then some (D.bl (decide (V.int i = V.int j))) else none) = _
  simp [scal]
@[simp] theorem fNe_int (i j : Int) : fNe (.int i) (.int j) = some (.bl (!decide (i = j))) := by
  show (if scal (V.int i) (V.int j) = true then some (D.bl (!decide (V.int i = V.int j))) else none) = _
  simp [scal]
theorem fEq_str (i j : Str) : fEq (.str i) (.str j) = some (.bl (decide (i = j))) := by
  show (if scal (V.str i) (V.str j) = true then some (D.bl (decide (V.str i = V.str j))) else none) = _
  simp [scal]
@[simp] theorem fAdd_int (i j : Int) : fAdd (.int i) (.int j) = some (.int (i + j)) := rfl
@[simp] theorem fSub_int (i j : Int) : fSub (.int i) (.int j) = some (.int (i - j)) := rfl
@[simp] theorem fLt_int (i j : Int) : fLt (.int i) (.int j) = some (.bl (decide (i < j))) := rfl
@[simp] theorem fLe_int (i j : Int) : fLe (.int i) (.int j) = some (.bl (decide (i ≤ j))) := rfl
@[simp] theorem fGt_int (i j : Int) : fGt (.int i) (.int j) = some (.bl (decide (j < i))) := rfl
@[simp] theorem fGe_int (i j : Int) : fGe (.int i) (.int j) = some (.bl (decide (j ≤ i))) := rfl
@[simp] theorem fNeg_int (i : Int) : fNeg (.int i) = some (.int (-i)) := rfl
theorem fMod_int {i j : Int} (h : 0 < j) : fMod (.int i) (.int j) = some (.int (i % j)) := by
  show (if 0 < j then _ else _) = _
  rw [if_pos h]
theorem fDiv_int {i j : Int} (h : 0 < j ∧ j.natAbs < 1073741824) : fDiv (.int i) (.int j) = some (.int (i / j)) := by
  show (if 0 < j ∧ j.natAbs < 1073741824 then _ else _) = _
  rw [if_pos h]
theorem fMul_int {i j : Int} (h : i.natAbs < 18446744073709551616 ∨ j.natAbs < 18446744073709551616) : fMul (.int i) (.int j) = some (.int (i * j)) := by
  show (if i.natAbs < 18446744073709551616 ∨ j.natAbs < 18446744073709551616 then _ else _) = _
  rw [if_pos h]
@[simp] theorem fIsN_ev (d : D) : fIsN d .non = some (.bl (isNon d)) := rfl
@[simp] theorem fNotN_ev (d : D) : fNotN d .non = some (.bl (!isNon d)) := rfl
@[simp] theorem fLen_lst (ds : List D) : fLen [.lst ds] = some (.int ds.length) := rfl
@[simp] theorem fLen_tup (ds : List D) : fLen [.tup ds] = some (.int ds.length) := rfl
@[simp] theorem fInt_int (i : Int) : fInt [.int i] = some (.int i) := rfl
@[simp] theorem fAbs_int (i : Int) : fAbs [.int i] = some (.int (if i < 0 then -i else i)) := rfl
@[simp] theorem fMax2_int (i j : Int) : fMax2 [.int i, .int j] = some (.int (if j > i then j else i)) := rfl
@[simp] theorem fMin2_int (i j : Int) : fMin2 [.int i, .int j] = some (.int (if j < i then j else i)) := rfl
@[simp] theorem seqOf_lst (ds : List D) : seqOf (.lst ds) = some ds := rfl
@[simp] theorem seqOf_tup (ds : List D) : seqOf (.tup ds) = some ds := rfl
@[simp] theorem lstOf_lst (ds : List D) : lstOf (.lst ds) = some ds := rfl
@[simp] theorem tupOf_tup (ds : List D) : tupOf (.tup ds) = some ds := rfl
@[simp] theorem fSeq1_lst (ds : List D) : fSeq1 [.lst ds] = some ds := rfl
@[simp] theorem fSeq1_tup (ds : List D) : fSeq1 [.tup ds] = some ds := rfl
@[simp] theorem fTuple_lst (ds : List D) : fTuple [.lst ds] = some (.tup ds) := rfl
@[simp] theorem fTuple_tup (ds : List D) : fTuple [.tup ds] = some (.tup ds) := rfl
@[simp] theorem truOf_lst (ds : List D) : truOf (.lst ds) = some (!ds.isEmpty) := rfl
@[simp] theorem truOf_tup (ds : List D) : truOf (.tup ds) = some (!ds.isEmpty) := rfl
@[simp] theorem truOf_bl (b : Bool) : truOf (.bl b) = some b := rfl
@[simp] theorem truOf_int (i : Int) : truOf (.int i) = some (i != 0) := rfl
theorem atI_nat' {ds : List D} {i : Int} {d : D} (h0 : 0 ≤ i) (h : ds[i.toNat]? = some d) : atI ds i = some d := by
  obtain ⟨n, rfl⟩ := Int.eq_ofNat_of_zero_le h0
  exact atI_nat (by simpa using h)
@[simp] theorem fIx_lst (ds : List D) (i : Int) : fIx (.lst ds) (.int i) = atI ds i := rfl
@[simp] theorem fIx_tup (ds : List D) (i : Int) : fIx (.tup ds) (.int i) = atI ds i := rfl
@[simp] theorem atI_0 (d : D) (ds : List D) : atI (d :: ds) 0 = some d := atI_nat (j := 0) rfl
@[simp] theorem atI_1 (d e : D) (ds : List D) : atI (d :: e :: ds) 1 = some e := atI_nat (j := 1) rfl
@[simp] theorem atI_2 (d e f : D) (ds : List D) : atI (d :: e :: f :: ds) 2 = some f := atI_nat (j := 2) rfl
@[simp] theorem atI_3 (d e f g : D) (ds : List D) : atI (d :: e :: f :: g :: ds) 3 = some g := atI_nat (j := 3) rfl
@[simp] theorem isNon_non : isNon .non = true := rfl
@[simp] theorem isNon_int (i : Int) : isNon (.int i) = false := rfl
@[simp] theorem isNon_tup (ds : List D) : isNon (.tup ds) = false := rfl
@[simp] theorem isNon_lst (ds : List D) : isNon (.lst ds) = false := rfl
@[simp] theorem lset_lt (i : Nat) (d : D) (l : Loc) (h : i < l.length) : gset i d l = some (l.set i (some (.dat d))) := if_pos h
end Den
namespace Den
open PySem L2
theorem loop_run {tg : D → Loc → Option Loc} {body : MS} (I : Nat → Loc → S → Prop) : ∀ {ds : List D} {k : Nat} {l : Loc} {p : S}, I k l p →
    (∀ (i : Nat) d l p, ds[i]? = some d → I (k + i) l p → ∃ l1, tg d l = some l1 ∧ ∃ l2 p2, (body l1 p = .nx l2 p2 ∨ body l1 p = .ct l2 p2) ∧ I (k + i + 1) l2 p2) →
    ∃ l' p', loop tg body ds l p = .nx l' p' ∧ I (k + ds.length) l' p'
  | [], k, l, p, h0, _ => ⟨l, p, rfl, h0⟩
  | d :: ds, k, l, p, h0, hs => by
    obtain ⟨l1, e1, l2, p2, e2, h2⟩ := hs 0 d l p rfl h0
    obtain ⟨l', p', e3, h3⟩ := loop_run I (ds := ds) (k := k + 1) (l := l2) (p := p2) h2 fun i d' l p hd hI => by
      have e : k + (i + 1) = k + 1 + i := by omega
      have := hs (i + 1) d' l p (by simpa using hd) (by rw [e]; exact hI)
      rw [e] at this
      exact this
    refine ⟨l', p', ?_, by rw [List.length_cons, show k + (ds.length + 1) = k + 1 + ds.length by omega]; exact h3⟩
    unfold loop
    rw [e1]
    rcases e2 with e2 | e2
    · simp only [e2]; exact e3
    · simp only [e2]; exact e3
theorem comp_run {i : Nat} {t : M Bool} {e : M D} {l : Loc} (hi : i < l.length) (f : D → Option D) {p : S} : ∀ {ds : List D}, (∀ d ∈ ds, turn t e (l.set i (some (.dat d))) p = .ok (f d) p) → comp i t e ds l p = .ok (ds.filterMap f) p
  | [], _ => rfl
  | d :: ds, h => by
    unfold comp
    rw [if_pos hi, h d List.mem_cons_self]
    have ih := comp_run hi f (p := p) (ds := ds) fun d' hd => h d' (List.mem_cons_of_mem _ hd)
    simp only [ih]
    rw [List.filterMap_cons]
    cases f d <;> rfl
theorem comp_filter {i : Nat} {t : M Bool} {e : M D} {l : Loc} (hi : i < l.length) (b : D → Bool) {p : S} {ds : List D} (h : ∀ d ∈ ds, t (l.set i (some (.dat d))) p = .ok (b d) p) (he : ∀ d ∈ ds, e (l.set i (some (.dat d))) p = .ok d p) : comp i t e ds l p = .ok (ds.filter b) p := by
  rw [comp_run hi (fun d => if b d = true then some d else none) fun d hd => ?_]
  · congr 1
    clear h he
    induction ds with
    | nil => rfl
    | cons d ds ih =>
      rw [List.filterMap_cons, List.filter_cons, ih]
      cases b d <;> simp
  · unfold turn
    rw [mbind_ok (h d hd)]
    cases hb : b d with
    | true => rw [if_pos rfl, if_pos rfl, mbind_ok (he d hd)]; rfl
    | false => rw [if_neg Bool.false_ne_true, if_neg Bool.false_ne_true]; rfl
theorem mcomp_ev {a : M (List D)} {i : Nat} {t : M Bool} {e : M D} {l : Loc} {p p' : S} {ds : List D} (ha : a l p = .ok ds p') (hl : ds.length ≤ 1000) : mcomp a i t e l p = comp i t e ds l p' := by
  unfold mcomp
  rw [mbind_ok ha, if_pos hl]
theorem rng1_int {n : Int} (h1 : n.natAbs < 4611686018427387904) : rng1 [.int n] = some (rngD 0 n.toNat) := by
  show (if n.natAbs < 4611686018427387904 then _ else _) = _
  rw [if_pos h1]
theorem rng2_int {i n : Int} (hi : i.natAbs < 4611686018427387904) (h1 : n.natAbs < 4611686018427387904) : rng2 [.int i, .int n] = some (rngD i (n - i).toNat) := by
  show (if i.natAbs < 4611686018427387904 ∧ n.natAbs < 4611686018427387904 then _ else _) = _
  rw [if_pos ⟨hi, h1⟩]
theorem rngD_len (lo : Int) (n : Nat) : (rngD lo n).length = n := by simp [rngD]
theorem rngD_get {lo : Int} {n i : Nat} {d : D} (h : (rngD lo n)[i]? = some d) : i < n ∧ d = .int (lo + i) := by
  have hi : i < n := by
    have := (List.getElem?_eq_some_iff.mp h).1
    rwa [rngD_len] at this
  refine ⟨hi, ?_⟩
  simp [rngD, hi] at h
  exact h.symm
theorem rngD_mem {lo : Int} {n : Nat} {d : D} (h : d ∈ rngD lo n) : ∃ i, i < n ∧ d = .int (lo + (i : Int)) := by
  obtain ⟨i, hi⟩ := List.getElem?_of_mem h
  exact ⟨i, rngD_get hi⟩

/-- a loop that only looks: its target's slot alone changes -/
theorem loop_env {i : Nat} {body : MS} (F : Option L → Loc) {p : S} (hF : ∀ o d, gset i d (F o) = some (F (some (.dat d)))) : ∀ {ds : List D}, (∀ d ∈ ds, body (F (some (.dat d))) p = .nx (F (some (.dat d))) p) → ∀ o, ∃ o', loop (gset i) body ds (F o) p = .nx (F o') p
  | [], _, o => ⟨o, rfl⟩
  | d :: ds, h, o => by
    obtain ⟨o', e⟩ := loop_env F (p := p) (body := body) hF (ds := ds) (fun d' hd => h d' (List.mem_cons_of_mem _ hd)) (some (.dat d))
    refine ⟨o', ?_⟩
    unfold loop
    rw [hF]
    simp only [h d List.mem_cons_self]
    exact e

theorem comp_mapL {α : Type} {i : Nat} {e : M D} {l : Loc} (hi : i < l.length) (g f : α → D) {p : S} : ∀ {xs : List α}, (∀ x ∈ xs, e (l.set i (some (.dat (g x)))) p = .ok (f x) p) → comp i mtrue e (xs.map g) l p = .ok (xs.map f) p
  | [], _ => rfl
  | x :: xs, h => by
    have ih := comp_mapL hi g f (p := p) (xs := xs) fun y hy => h y (List.mem_cons_of_mem _ hy)
    show comp i mtrue e (g x :: xs.map g) l p = _
    unfold comp
    rw [if_pos hi]
    unfold turn
    rw [mbind_ok (show mtrue (l.set i (some (.dat (g x)))) p = .ok true p from rfl), if_pos rfl, mbind_ok (h x List.mem_cons_self)]
    simp only [mret_ev, ih]
    rfl
theorem comp_filterL {α : Type} {i : Nat} {t : M Bool} {e : M D} {l : Loc} (hi : i < l.length) (g : α → D) (b : α → Bool) {p : S} : ∀ {xs : List α}, (∀ x ∈ xs, t (l.set i (some (.dat (g x)))) p = .ok (b x) p) → (∀ x ∈ xs, e (l.set i (some (.dat (g x)))) p = .ok (g x) p) → comp i t e (xs.map g) l p = .ok ((xs.filter b).map g) p
  | [], _, _ => rfl
  | x :: xs, h, he => by
    have ih := comp_filterL hi g b (p := p) (xs := xs) (fun y hy => h y (List.mem_cons_of_mem _ hy)) fun y hy => he y (List.mem_cons_of_mem _ hy)
    show comp i t e (g x :: xs.map g) l p = _
    unfold comp
    rw [if_pos hi]
    unfold turn
    rw [mbind_ok (h x List.mem_cons_self)]
    rw [List.filter_cons]
    cases hb : b x with
    | true =>
      rw [if_pos rfl, mbind_ok (he x List.mem_cons_self)]
      simp only [mret_ev, ih]
      rfl
    | false =>
      rw [if_neg Bool.false_ne_true]
      simp only [mret_ev, ih]
      rfl
theorem sfldO_ev {C : Addr} {i : Nat} {f : Str} {a : M D} {l : Loc} {p p' : S} {x : D} {ea : Addr} {ns : List Str} {ds : List D} (ha : a l p = .ok x p') (hl : l[i]? = some (some (.obj ea C ns ds))) (h : ns.length = ds.length ∧ ns.length < 1000 ∧ f ∉ ns) :
    sfldO C i f a l p = .nx (l.set i (some (.obj ea C (ns ++ [f]) (ds ++ [x])))) p' := by
  unfold sfldO
  rw [sbind_ev, ha]
  show (match l[i]? with
    | some (some (.obj ea C' ns ds)) => if C' = C ∧ ns.length = ds.length ∧ ns.length < 1000 ∧ f ∉ ns then O.nx (l.set i (some (.obj ea C (ns ++ [f]) (ds ++ [x])))) p' else .bad
    | _ => .bad) = _
  rw [hl]
  exact if_pos ⟨rfl, h⟩
end Den
namespace Den
open PySem L2 PyProof.Rows
section
variable {X : Cx} {tg : Expr}
def iSeq (K : PySem.W.Frag) (tl : TE) : TI := fun σ H R => tl σ H fun x H1 => ∃ a, x = .ref a ∧ (((∃ xs, SqL K H1 a xs) ∧ R (Itl K a) H1) ∨ ((∃ xs, SqT K H1 a xs) ∧ R (Itt K a) H1))
theorem pi_seq {l : Expr} {tl : TE} (hl : PE X l tl) : PI X tg l (iSeq X.K tl) := by
  refine ⟨fun pins s σ H R I h => ?_⟩
  refine thn (hl.run pins s σ H _ I h) fun v s1 ⟨x, H1, I1, r1, q1⟩ => ?_
  obtain ⟨a, e, q1⟩ := q1
  subst e
  cases r1
  rcases q1 with ⟨⟨xs, hq⟩, q⟩ | ⟨⟨xs, hq⟩, q⟩
  · obtain ⟨its, rv, p, hz⟩ := I1.list hq
    refine wpAny_pyIter_list p.isList ?_
    refine ⟨s1.heap.objs.size, [s1.heap.objs.size], _, _, H1, rfl, I1.kept (t' := s1.toks) fun b o e => Heap.get?_push_of_some _ e, turn_list a _, ⟨_, Heap.get?_push_size _ rfl, rfl, rfl⟩, fun b hb => ?_, q⟩
    have e : b = s1.heap.objs.size := by simpa using hb
    subst e
    exact I1.fpOk (Nat.le_refl _) (I1.hok.fresh (Nat.le_refl _))
  · obtain ⟨its, rv, p, hz⟩ := I1.tuple hq
    refine wpAny_pyIter_tuple (show s1.heap.IsTuple a its.toArray from p) ?_
    refine ⟨s1.heap.objs.size, [s1.heap.objs.size], _, _, H1, rfl, I1.kept (t' := s1.toks) fun b o e => Heap.get?_push_of_some _ e, turn_tuple a _, ⟨_, Heap.get?_push_size _ rfl, rfl, rfl⟩, fun b hb => ?_, q⟩
    have e : b = s1.heap.objs.size := by simpa using hb
    subst e
    exact I1.fpOk (Nat.le_refl _) (I1.hok.fresh (Nat.le_refl _))
end
section
variable {c : Cfg} {E : L2.St → XK}
theorem si_seq {t : TE} {a : M D} (ha : SE c E t a) : SI c E (iSeq c.K t) (mbind a fun x => mlift (seqOf x)) := by
  intro G0 H0 G H σ l pot r Q post
  refine Sn.go ha r post fun x dx p G1 H1 s1 r1 hx post1 => ?_
  cases dx with
  | lst ds =>
    obtain ⟨q, vs, rfl, h, al⟩ := at_lst hx
    exact ⟨q, rfl, .inl ⟨⟨vs, .inl (.inl (r1.stp.gh _ _ h))⟩, Post.ok post1 r1 (walks_list h al)⟩⟩
  | tup ds =>
    obtain ⟨q, vs, rfl, h, al⟩ := at_tup hx
    exact ⟨q, rfl, .inr ⟨⟨vs, .inl (.inl (r1.stp.gh _ _ h))⟩, Post.ok post1 r1 (walks_tup h al)⟩⟩
  | _ => exact post1.elim
end
end Den
namespace Den
open PySem L2
section
variable {c : Cfg} {E : L2.St → XK}
def fRg : D → D → Option (List D)
  | .int i, .int j => if i.natAbs < 4611686018427387904 ∧ j.natAbs < 4611686018427387904 ∧ (j - i).toNat ≤ 1000 then some (rngD i (j - i).toNat) else none
  | _, _ => none
def mrg (a b : M D) : M (List D) := mbind a fun x => mbind b fun y => mlift (fRg x y)
def mrgT (a b : M D) : M D := mbind a fun x => mbind b fun y => mlift ((fRg x y).map D.tup)
/-- a op b op' d -/
def mchain (f g : D → D → Option D) (a b d : M D) : M D := mbind a fun x => mbind b fun y => mbind (mlift ((f x y).bind boolOf)) fun k => if k = true then mbind d fun w => mlift (g y w) else mret (.bl false)
/-- xs.index(y) of flat things -/
def idxV (y : V) : List V → Option Nat
  | [] => none
  | z :: zs => if eqV z y = true then some 0 else (idxV y zs).map (· + 1)
def fIdx (ds : List D) (y : D) : Option D := match scL ds, sc y with
  | some vs, some v => (idxV v vs).map fun j => .int (j : Int)
  | _, _ => none
def mindex (a b : M D) : M D := mbind a fun x => mbind (mlift (lstOf x)) fun ds => mbind b fun y => mlift (fIdx ds y)
end
@[simp] theorem mrg_ev (a b : M D) (l : Loc) (p : S) : mrg a b l p = (a l p).bind fun x p' => (b l p').bind fun y p'' => mlift (fRg x y) l p'' := rfl
@[simp] theorem mrgT_ev (a b : M D) (l : Loc) (p : S) : mrgT a b l p = (a l p).bind fun x p' => (b l p').bind fun y p'' => mlift ((fRg x y).map D.tup) l p'' := rfl
@[simp] theorem mchain_ev (f g : D → D → Option D) (a b d : M D) (l : Loc) (p : S) : mchain f g a b d l p = (a l p).bind fun x p' => (b l p').bind fun y p'' => (mlift ((f x y).bind boolOf) l p'').bind fun k p3 => if k = true then (d l p3).bind fun w p4 => mlift (g y w) l p4 else .ok (.bl false) p3 := by
  unfold mchain mbind
  congr 1; funext x p'
  dsimp only
  congr 1; funext y p''
  congr 1; funext k p3
  cases k <;> rfl
@[simp] theorem mindex_ev (a b : M D) (l : Loc) (p : S) : mindex a b l p = (a l p).bind fun x p' => (mlift (lstOf x) l p').bind fun ds p'' => (b l p'').bind fun y p3 => mlift (fIdx ds y) l p3 := rfl
end Den
namespace PL
open PySem L2 Den
/-- where the text's own classes stand -/
structure CA where
  Web : Addr
  Heights : Addr
  Verdict : Addr
  Paper : Addr
  Plan : Addr
  FirstPlan : Addr
  SecondPlan : Addr
  Play : Addr
  Share : Addr
  Table : Addr
  TokenPlan : Addr
end PL
namespace PL
open PySem L2 Den
noncomputable section
def dn_is_integer : MS := (sret (vand (opn fIs1 (acons (mvar 0) (acons (mret (D.ty Ty.int)) anil))) (vnot (opn fIs1 (acons (mvar 0) (acons (mret (D.ty Ty.bl)) anil))))))
def D_is_integer : RF := denF 1 1 (dn_is_integer)
def dn_check_whole : MS := (sfor (mbind (mvar 0) fun x => mlift (tupOf x)) (gset 1) (sif (mnot (mtru (mcall D_is_integer (acons (mvar 1) anil)))) (sraise 0) sskip))
def D_check_whole : RF := fun ds pot => if ds.length ≤ 1000 then denStar 2 (dn_check_whole) ds pot else .bad
def dn_whole_list : MS := (sseq (sif (mnot (mtru (opn fIs2 (acons (mvar 0) (acons (mtupd (acons (mret (D.ty Ty.lst)) (acons (mret (D.ty Ty.tup)) anil))) anil))))) (sraise 0) sskip)
    (sseq (sdrop (mstar D_check_whole (mvar 0)))
    (sret (opn fTuple (acons (mvar 0) anil)))))
def D_whole_list : RF := denF 1 1 (dn_whole_list)
def dn_check_range : MS := (sif (mor (mtest (op2 fLt (mvar 0) (mvar 1))) (mtest (op2 fGt (mvar 0) (mvar 2)))) (sraise 1) sskip)
def D_check_range : RF := denF 3 3 (dn_check_range)
def dn_check_least : MS := (sif (mtest (op2 fLt (mvar 0) (mvar 1))) (sraise 1) sskip)
def D_check_least : RF := denF 2 2 (dn_check_least)
def dn_check_most : MS := (sif (mtest (op2 fGt (mvar 0) (mvar 1))) (sraise 3) sskip)
def D_check_most : RF := denF 2 2 (dn_check_most)
def dn_as_stands : MS := (sseq (sasg (mcall D_whole_list (acons (mvar 0) anil)) (gset 2))
    (sseq (sfor (mbind (mvar 2) fun x => mlift (tupOf x)) (gset 3) (sdrop (mcall D_check_range (acons (mvar 3) (acons (mret (D.int 0)) (acons (op2 fSub (mvar 1) (mret (D.int 1))) anil))))))
    (sret (opn fTuple (acons (op1 fSortSet (mvar 2)) anil)))))
def D_as_stands : RF := denF 2 4 (dn_as_stands)
def dn_is_due : MS := (sseq (sif (mtest (op2 fIsN (mvar 0) (mret D.non))) (sret (mret (D.bl true))) sskip)
    (sseq (sif (mor (mnot (mtru (opn fIs2 (acons (mvar 0) (acons (mtupd (acons (mret (D.ty Ty.lst)) (acons (mret (D.ty Ty.tup)) anil))) anil))))) (mtest (op2 fNe (opn fLen (acons (mvar 0) anil)) (mret (D.int 2))))) (sret (mret (D.bl false))) sskip)
    (sret (vand (opn fIs1 (acons (op2 fIx (mvar 0) (mret (D.int 0))) (acons (mret (D.ty Ty.str)) anil))) (mcall D_is_integer (acons (op2 fIx (mvar 0) (mret (D.int 1))) anil))))))
def D_is_due : RF := denF 1 1 (dn_is_due)
def dn_due_in_range : MS := (sret (vor (op2 fIsN (mvar 0) (mret D.non)) (vand (op2 (fInB false) (op2 fIx (mvar 0) (mret (D.int 0))) (mtupd (acons (mret (D.str "chips")) (acons (mret (D.str "less")) anil)))) (op2 fGe (op2 fIx (mvar 0) (mret (D.int 1))) (mret (D.int 0))))))
def D_due_in_range : RF := denF 1 1 (dn_due_in_range)
def dn_due_too_great : MS := (sret (vand (op2 fNotN (mvar 0) (mret D.non)) (op2 fGt (op2 fIx (mvar 0) (mret (D.int 1))) (mret (D.int 10000000000000000000000000000000000000000)))))
def D_due_too_great : RF := denF 1 1 (dn_due_too_great)
def dn_check_due : MS := (sif (mnot (mtru (mcall D_is_due (acons (mvar 0) anil)))) (sraise 0) sskip)
def D_check_due : RF := denF 1 1 (dn_check_due)
abbrev Due := Option (Bool × Int)
structure Wb where
  first : List (List Int)
  second : List (List Int)
  marks : List Int
  dues : List Due
def dI (ns : List Int) : D := .lst (ns.map .int)
def dDue : Due → D
  | none => .non
  | some (true, x) => .tup [.str "chips", .int x]
  | some (false, x) => .tup [.str "less", .int x]
def encW (wb : Wb) : List D := [.lst (wb.first.map dI), .lst (wb.second.map dI), dI wb.marks, .lst (wb.dues.map dDue)]
structure Valid (wb : Wb) : Prop where
  n1 : 1 ≤ wb.marks.length
  n2 : wb.marks.length ≤ 60
  l1 : wb.first.length = wb.marks.length
  l2 : wb.second.length = wb.marks.length
  l3 : wb.dues.length = wb.marks.length
  s1 : ∀ ss ∈ wb.first, ss.length < 60 ∧ ∀ x ∈ ss, 0 ≤ x ∧ x < (wb.marks.length : Int)
  s2 : ∀ ss ∈ wb.second, ss.length < 60 ∧ ∀ x ∈ ss, 0 ≤ x ∧ x < (wb.marks.length : Int)
  both : ∀ (i : Nat) (a b : List Int), wb.first[i]? = some a → wb.second[i]? = some b → a.isEmpty = b.isEmpty
  mks : ∀ m ∈ wb.marks, m = 1 ∨ m = 2
  du : ∀ d ∈ wb.dues, ∀ b x, d = some (b, x) → 0 ≤ x ∧ x ≤ 1000
def dS (ss : List Int) : D := .tup ((sortSet ss).map .int)
def moves (wb : Wb) (d : D) : Bool := match (fIx (.lst (wb.first.map dI)) d).bind truOf with
  | some b => b
  | none => false
def gdI : Due → Int
  | none => 0
  | some (_, x) => x
def gdD (wb : Wb) : D := match wb.dues.map gdI with
  | [] => .non
  | n :: ns => .int (maxL n ns)
def evB (wb : Wb) : Bool := match pd (.tup (wb.first.map dS)), pd (.tup (wb.second.map dS)) with
  | some a, some b => PyData.eqv a b
  | _, _ => false
def wnames : List Str := ["_size", "_first", "_second", "_marks", "_dues", "_ends", "_moving", "_greatest_due", "_even"]
def wfields (wb : Wb) : List D := [.int wb.marks.length, .tup (wb.first.map dS), .tup (wb.second.map dS), .tup (wb.marks.map .int), .tup (wb.dues.map dDue), .tup ((rngD 0 wb.marks.length).filter fun d => !moves wb d), .tup ((rngD 0 wb.marks.length).filter fun d => moves wb d), gdD wb, .bl (evB wb)]
def dn_check_web (A : CA) : MS := (sif (mnot (mtru (opn (fIsC A.Web) (acons (mvar 0) (acons (mret (D.cls A.Web)) anil))))) (sraise 0) sskip)
def D_check_web (A : CA) : RF := denF 1 1 (dn_check_web A)
def dn_half_of : MS := (sseq (sif (mtest (op2 fEq (mvar 0) (mret (D.int 1)))) (sret (op2 fDiv (op2 fAdd (mvar 1) (opn fMax2 (acons (mvar 1) (acons (mvar 2) anil)))) (mret (D.int 2)))) sskip)
    (sret (op2 fDiv (op2 fAdd (op2 fAdd (opn fMin2 (acons (mvar 1) (acons (mvar 2) anil))) (mvar 2)) (mret (D.int 1))) (mret (D.int 2)))))
def D_half_of : RF := denF 3 3 (dn_half_of)
def dn_law_draw : MS := (sseq (sif (mtest (op2 fEq (mlenp (mvar 0)) (mret (D.int 0)))) (sret (mret (D.int 0))) sskip)
    (sret (op2 fMod (opn fInt (acons (mpop (mvar 0)) anil)) (mvar 1))))
def D_law_draw : RF := denF 2 2 (dn_law_draw)
end
end PL
namespace PL
open PySem L2 Den
noncomputable section
def c_law_low_1 : M (List D) := (mcomp (mbind (op2 fIx (op2 fIx (mvar 0) (mret (D.int 0))) (mvar 2)) fun x => mlift (lstOf x)) 3 mtrue (op2 fIx (mvar 1) (mvar 3)))
def dn_law_low : MS := (sret (opn fMinL (acons (mfreeze c_law_low_1) anil)))
def D_law_low : RF := denF 3 4 (dn_law_low)
def c_law_high_1 : M (List D) := (mcomp (mbind (op2 fIx (op2 fIx (mvar 0) (mret (D.int 1))) (mvar 2)) fun x => mlift (lstOf x)) 3 mtrue (op2 fIx (mvar 1) (mvar 3)))
def dn_law_high : MS := (sret (opn fMaxL (acons (mfreeze c_law_high_1) anil)))
def D_law_high : RF := denF 3 4 (dn_law_high)
def b_law_price_1 : MS := (sif (mtest (op2 fEq (opn fLen (acons (op2 fIx (op2 fIx (mvar 0) (mret (D.int 0))) (mvar 3)) anil)) (mret (D.int 0)))) (sret (op2 fAdd (mvar 1) (mret (D.int 1)))) sskip)
def b_law_price_2 : MS := (sret (mcall D_half_of (acons (op2 fIx (op2 fIx (mvar 0) (mret (D.int 2))) (mvar 3)) (acons (mcall D_law_low (acons (mvar 0) (acons (mvar 2) (acons (mvar 3) anil)))) (acons (mcall D_law_high (acons (mvar 0) (acons (mvar 2) (acons (mvar 3) anil)))) anil)))))
def dn_law_price : MS := (sseq b_law_price_1
    b_law_price_2)
def D_law_price : RF := denF 4 4 (dn_law_price)
end
end PL
namespace PL
open PySem L2 Den
noncomputable section
end
end PL
namespace PL
open PySem L2 Den
noncomputable section
def b_law_is_row_1 : MS := (sif (mor (mnot (mtru (opn fIs1 (acons (mvar 0) (acons (mret (D.ty Ty.tup)) anil))))) (mtest (op2 fNe (opn fLen (acons (mvar 0) anil)) (mvar 1)))) (sret (mret (D.bl false))) sskip)
def L_law_is_row_2 : MS := (sif (mnot (mtru (mcall D_is_integer (acons (mvar 2) anil)))) (sret (mret (D.bl false))) sskip)
def b_law_is_row_2 : MS := (sfor (mbind (mvar 0) fun x => mlift (tupOf x)) (gset 2) L_law_is_row_2)
def dn_law_is_row : MS := (sseq b_law_is_row_1
    (sseq b_law_is_row_2
    (sret (mret (D.bl true)))))
def D_law_is_row : RF := denF 2 3 (dn_law_is_row)
end
end PL
namespace PySem
open AutoSeq1 (wpAny_loadPart')
/-- enumerate(v), v told by how its iterator begins -/
theorem enum1_meets {v : Value} {ob : Obj} {HH : Heap → Prop} (B : Begins v ob HH) :
    Meets (Builtin.«enumerate.__new__» ⟨[.type "enumerate", v], []⟩) (fun _ R s => HH s.heap ∧
      R (.ok (.ret (.ref (s.heap.push ob).objs.size))) { s with heap := (s.heap.push ob).push { cls := .type "enumerate", data := .fields #[.none, .bool false, .ref s.heap.objs.size, rawInt 0, .none, .none] } }) :=
  .of_wp fun prg wd Ar Rs sh hh => by
    obtain ⟨hp, gs, dr, tk, os⟩ := sh
    obtain ⟨hB, hh⟩ := hh
    have hsub := sub_enumerate
    have begin' : ∀ {A' : Around} {E' : Value → Shared → Prop} {Q' : Value → Shared → Prop}, Q' (.ref hp.objs.size) ⟨hp.push ob, gs, dr, tk, os⟩ → wpAny (model prg wd) A' (pyIter v) Q' E' ⟨hp, gs, dr, tk, os⟩ :=
      fun q => B.iter prg wd _ _ ⟨hp, gs, dr, tk, os⟩ _ hB q
    wp_walk using begin'
    refine wpAny_stack_any fun st => wpAny_pure ?_
    split
    · rename_i cl _ _ _ _ _
      cases (cl == Value.type "enumerate")
      · wp_walk using begin'
        exact ⟨_, rfl, hh⟩
      · wp_walk using begin'
        exact ⟨_, rfl, hh⟩
    · wp_walk using begin'
      exact ⟨_, rfl, hh⟩
theorem enum1_begins {prog : Program} {w : World} {A : Around} {E : Value → Shared → Prop} {s : Shared} {v : Value} {ob : Obj} {HH : Heap → Prop} {Q : Value → Shared → Prop} (B : Begins v ob HH) (hB : HH s.heap)
    (k : ∀ h1, IsEnum h1 (s.heap.objs.size + 1) s.heap.objs.size 0 .none → h1.get? s.heap.objs.size = some ob → (∀ b u, s.heap.get? b = some u → h1.get? b = some u) → Q (.ref (s.heap.objs.size + 1)) { s with heap := h1 }) :
    wpAny (model prog w) A (call (.type "enumerate") [v]) Q E s := by
  refine callType_new F.called_enumerate (by decide) (F.typeCall_enumerate_1 _) (F.newCall_enumerate_1 _) (fun obj => F.args_object_init_2 obj _) F.entry_enumerate_new (enum1_meets B) ⟨hB, ?_⟩
  have sz : (s.heap.push ob).objs.size = s.heap.objs.size + 1 := Heap.size_push ..
  show _ ∧ _
  rw [sz]
  have isE : IsEnum ((s.heap.push ob).push { cls := .type "enumerate", data := .fields #[.none, .bool false, .ref s.heap.objs.size, rawInt 0, .none, .none] }) (s.heap.objs.size + 1) s.heap.objs.size 0 .none := by
    have g := Heap.get?_push_size (s.heap.push ob) (o := { cls := .type "enumerate", data := .fields #[.none, .bool false, .ref s.heap.objs.size, rawInt 0, .none, .none] }) rfl
    rw [sz] at g
    exact g
  exact ⟨⟨_, isE, rfl⟩, k _ isE (Heap.get?_push_of_some _ (Heap.get?_push_size _ B.free)) fun b u y => Heap.get?_push_of_some _ (Heap.get?_push_of_some _ y)⟩
end PySem
namespace Den
open PySem L2 PyProof.Rows
/-- the tuple at a, each item in a new pair -/
def Itet (K : PySem.W.Frag) (a : Addr) : It :=
  ⟨fun j H => ∃ (ys : List V) (y : V), SqT K H a ys ∧ ys[j]? = some y, fun j H u H2 => ∃ T y, u = .ref T ∧ H T = none ∧ H2 = upd H T (.tup [.int (j : Nat), y]) ∧ ∀ ys, SqT K H a ys → ys[j]? = some y, fun j H => ∃ ys : List V, SqT K H a ys ∧ ys.length ≤ j⟩
theorem turn_enumT {P : Program} {w : World} {K : PySem.W.Frag} {elts : List Expr} {kk : Nat} {tpos : Pos} (a e it : Addr) :
    Turn P w K (.Tuple elts kk tpos) (Itet K a) [e, it] e (fun j h => (∃ old, IsEnum h e it ((j : Nat) : Int) old) ∧ h.IsTupleIter it a j ∧ e ≠ it ∧ a ≠ it) where
  mem := by simp
  obj := fun j h st b hb => by
    obtain ⟨⟨old, he⟩, ⟨ob, ho, hc, hd⟩, _⟩ := st
    have two : b = e ∨ b = it := by simpa using hb
    rcases two with z | z
    · rw [z]; exact ⟨_, he, fun v q => nomatch q⟩
    · rw [z]; exact ⟨ob, ho, fun v q => by rw [hd] at q; cases q⟩
  keep := fun j h h' st k => let ⟨⟨old, he⟩, hi, hne⟩ := st; ⟨⟨old, k e (by simp) _ he⟩, hi.at fun ob q => k it (by simp) ob q, hne⟩
  item := by
    intro X hP hw hK hc j pins s σ H E I hf st hg
    subst hP hw hK
    obtain ⟨⟨old, he⟩, hit, hne, hna⟩ := st
    obtain ⟨ys, y, hq, hy⟩ := hg
    obtain ⟨its, rv, tp, hz⟩ := I.tuple hq
    have tp' : s.heap.IsTuple a its.toArray := tp
    obtain ⟨u, hu, ru⟩ := rv.get hy
    have hel : e < s.heap.objs.size := Heap.lt_size he
    have hil : it < s.heap.objs.size := by obtain ⟨_, q, _⟩ := hit; exact Heap.lt_size q
    have hal : a < s.heap.objs.size := by obtain ⟨_, q, _⟩ := tp'; exact Heap.lt_size q
    have hea : e ≠ a := fun z => by
      obtain ⟨ob, ho, hcl, _⟩ := tp'
      rw [← z] at ho
      rw [show s.heap.get? e = _ from he] at ho
      cases ho
      injection hcl with q
      exact absurd q (by decide)
    have D := Draws.tuple (prog := X.prog) (w := X.w) (A := X.A.in1) (I.ok.hd hc) it a hna its.toArray
    have hlt : j < its.toArray.size := by
      have := (List.getElem?_eq_some_iff.mp hu).1
      simpa using this
    refine wpAny_pyNext_enum_itemD D he ⟨hit, tp'⟩ hlt hne (by simp [hne, hea]) fun x1 h1 tk hx1 ho st1 hT hsz hk => ?_
    have ex : x1 = u := by
      have q1 : its.toArray[j]? = some u := by simpa using hu
      rw [q1] at hx1
      exact (Option.some.inj hx1).symm
    subst ex
    refine ⟨_, rfl, wpAny_letOwnedTupleGo_enum (s := { s with heap := h1, toks := tk + 1 }) ho fun h2 he2 sb => ?_⟩
    have hT2 : h2.get? s.heap.objs.size = some { cls := .type "tuple", data := .seq #[.int j tk, x1] } := (sb.2 _ (Nat.ne_of_gt hel)).trans hT
    have new : ObjOk X.prog X.w (upd H s.heap.objs.size (.tup [.int (j : Nat), y])) h2 s.heap.objs.size (.tup [.int (j : Nat), y]) :=
      ⟨by show 2 ≤ sizeLine; decide, [.int j tk, x1], .cons ⟨_, rfl⟩ (.cons ru .nil), ⟨_, hT2, rfl, _, rfl⟩⟩
    have I1 : Inv X pins σ (upd H s.heap.objs.size (.tup [.int (j : Nat), y])) { s with heap := h2, toks := tk + 1 } :=
      I.turnedNew (ch := [e, it]) (fun b ob hb q => (sb.2 b (fun z => hb (by simp [z]))).trans (hk b ob (fun z => hb (by simp [z])) (fun z => hb (by simp [z])) q)) hf (Nat.le_refl _) new
    refine ⟨.ref s.heap.objs.size, _, I1, rfl, ⟨_, y, rfl, I.hok.fresh (Nat.le_refl _), rfl, fun zs hzs => by rw [I.tuple_inj hzs hq]; exact hy⟩, ⟨⟨x1, ?_⟩, st1.1.at fun ob q => (sb.2 it (Ne.symm hne)).trans q, hne, hna⟩, fun b hb => ?_⟩
    · have e1 : ((j + 1 : Nat) : Int) = (j : Int) + 1 := by omega
      rw [e1]; exact he2
    · have hbl : b < s.heap.objs.size := by
        have two : b = e ∨ b = it := by simpa using hb
        rcases two with z | z
        · rw [z]; exact hel
        · rw [z]; exact hil
      rw [upd_ne (Nat.ne_of_lt hbl)]
      exact (hf b hb).1
  done := by
    intro X hP hw hK hc j pins s σ H E I hf st hg
    subst hP hw hK
    obtain ⟨⟨old, he⟩, hit, hne, hna⟩ := st
    obtain ⟨ys, hq, hy⟩ := hg
    obtain ⟨its, rv, tp, hz⟩ := I.tuple hq
    have tp' : s.heap.IsTuple a its.toArray := tp
    obtain ⟨f0, f1, f2, f3, f4, f5⟩ := hf it (by simp)
    have hl := rv.length
    have out : its.toArray[j]? = none := by simp; omega
    have hTe : s.TypeIs (.ref e) "enumerate" := ⟨_, he, rfl⟩
    unfold pyNext
    refine wpAny_bind (wpAny_attempt (wpAny_callSpecial?_slot (name := Str.ofString "__next__") hTe F.slot_enumerate_next (wpAny_call_entry F.slot_enumerate_next hTe F.entry_enumerate_next ?last (F.args_enumerate_next_1 _))))
    show wpAny _ _ (field (.ref e) 2 >>= _) _ _ _
    refine wpAny_bind (wpAny_field he rfl (x := .ref it) rfl (wpAny_bind (wpAny_nextOf_tuple_end (by exact I.ok.hd hc) hit tp' out fun h1 x1 ext1 ⟨ob, hob, hcl⟩ => ?_)))
    refine wpAny_bind (wpAny_isInstance (T := "StopIteration") (b := true) ⟨ob, hob, hcl⟩ isSubtype_stop ?_)
    exact wpAny_pure ⟨rfl, I.turned (t' := s.toks) (fun b o hb q => ext1 b o hb q) f0 f1 f3 f4 f5⟩
  self := fun A j s Q E st h => let ⟨⟨_, he⟩, _⟩ := st; wpAny_pyIter_enum he h
end Den
namespace Den
open PySem L2 PyProof.Rows
section
variable {X : Cx}
def iEnumS (K : PySem.W.Frag) (ta : TA) : TI := fun σ H R => ta σ H fun vs H1 => ∃ a, vs = [.ref a] ∧ ((∃ xs, SqL K H1 a xs ∧ R (Ite K a) H1) ∨ (∃ xs, SqT K H1 a xs ∧ R (Itet K a) H1))
theorem pi_enumS {e : Expr} {ta : TA} {p pos tpos : Pos} {elts : List Expr} {kk : Nat} (hg : Gl X "enumerate") (hm : X.mg "enumerate" = none) (ha : PA X [e] ta) (hs : starEach [e] X.env = [(false, eval e X.env)] := by rfl) :
    PI X (.Tuple elts kk tpos) (.Call (.Name "enumerate" p) [e] [] pos) (iEnumS X.K ta) := by
  refine ⟨fun pins sh σ H R I h => Call_ (ld_blt I hg hm boot_enumerate (PyProof.Rows.callWith_type1 (thn (ha.run pos pins sh σ H _ I h) fun us s1 got => ?_) hs rfl))⟩
  obtain ⟨vs, H1, I1, r1, a, rfl, q⟩ := got
  cases r1 with
  | cons r rr =>
    cases rr
    cases r
    have low : ∀ b, b ∈ [s1.heap.objs.size + 1, s1.heap.objs.size] → s1.heap.objs.size ≤ b := fun b hb => by
      have two : b = s1.heap.objs.size + 1 ∨ b = s1.heap.objs.size := by simpa using hb
      omega
    rcases q with ⟨xs, hq, q⟩ | ⟨xs, hq, q⟩
    · obtain ⟨its, rv, lp, hz⟩ := I1.list hq
      refine call_enumerate_list lp.isList fun h1 he hit hsz hk => wpAny_pyIter_enum he ?_
      exact ⟨s1.heap.objs.size + 1, [s1.heap.objs.size + 1, s1.heap.objs.size], _, _, H1, rfl, I1.kept (t' := s1.toks) hk, turn_enum a (s1.heap.objs.size + 1) s1.heap.objs.size, ⟨⟨.none, he⟩, hit, Nat.succ_ne_self _⟩, fun b hb => I1.fpOk (low b hb) (I1.hok.fresh (low b hb)), q⟩
    · obtain ⟨its, rv, tp, hz⟩ := I1.tuple hq
      have tp' : s1.heap.IsTuple a its.toArray := tp
      have hal : a < s1.heap.objs.size := by obtain ⟨_, g, _⟩ := tp'; exact Heap.lt_size g
      refine enum1_begins (begins_tuple a its.toArray) tp' fun h1 he hit hk => wpAny_pyIter_enum he ?_
      exact ⟨s1.heap.objs.size + 1, [s1.heap.objs.size + 1, s1.heap.objs.size], _, _, H1, rfl, I1.kept (t' := s1.toks) hk, turn_enumT a (s1.heap.objs.size + 1) s1.heap.objs.size, ⟨⟨.none, he⟩, ⟨_, hit, rfl, rfl⟩, Nat.succ_ne_self _, Nat.ne_of_lt hal⟩, fun b hb => I1.fpOk (low b hb) (I1.hok.fresh (low b hb)), q⟩
end
section
variable {c : Cfg} {E : L2.St → XK}
theorem walks_enumT {G : Wd} {a : Addr} {vs : List V} {ds : List D} (h : G a = some (.tup vs)) (al : AtL c.P G vs ds) : Walks c (Itet c.K a) (enumD 0 ds) G := by
  refine ⟨fun i H e z => ⟨vs, .inl (.inl (e _ _ h)), ?_⟩, fun i H e z => ?_, fun i H x H' e z y G2 e2 e3 hP => ?_⟩
  · rw [AtL.length al]; rw [enumD_len] at z; exact Nat.le_of_eq z.symm
  · have z' : i < vs.length := by rw [AtL.length al]; rw [enumD_len] at z; exact z
    exact ⟨vs, vs[i], .inl (.inl (e _ _ h)), List.getElem?_eq_getElem z'⟩
  · obtain ⟨T, v, rfl, hT, rfl, y⟩ := y
    obtain ⟨d, ed, ad⟩ := AtL.getV al (y vs (.inl (.inl (e _ _ h))))
    have g := enumD_get ds 0 i d ed
    rw [Nat.zero_add] at g
    exact ⟨_, _, g, Stp.lay e3 hT, Same.lay hP hT, at_new_t e3 hT (.cons (.int _) (.cons (At.mono e2 ad) .nil))⟩
def enumS : List D → Option (List D)
  | [d] => (seqOf d).map (enumD 0)
  | _ => none
theorem si_enumS {t : TA} {a : M (List D)} (ha : SA c E t a) : SI c E (iEnumS c.K t) (mbind a fun x => mlift (enumS x)) := by
  intro G0 H0 G H σ l pot r Q post
  refine Sn.go ha r post fun x dx p G1 H1 s1 r1 hx post1 => ?_
  obtain ⟨ds, e, post2⟩ := post_lift0 post1
  unfold enumS at e
  split at e
  · obtain ⟨y, rfl, hy⟩ := atl1 hx
    rename_i d
    cases d with
    | lst es =>
      cases e
      obtain ⟨q, vs, rfl, h, al⟩ := at_lst hy
      exact ⟨q, rfl, .inl ⟨vs, .inl (.inl (r1.stp.gh _ _ h)), Post.ok post2 r1 (walks_enum h al)⟩⟩
    | tup es =>
      cases e
      obtain ⟨q, vs, rfl, h, al⟩ := at_tup hy
      exact ⟨q, rfl, .inr ⟨vs, .inl (.inl (r1.stp.gh _ _ h)), Post.ok post2 r1 (walks_enumT h al)⟩⟩
    | _ => cases e
  · cases e
def comp2 (i j : Nat) (t : M Bool) (e : M D) : List D → M (List D)
  | [] => mret []
  | d :: ds => fun l p => match gset2 i j d l with
    | none => .bad
    | some l1 => (match turn t e l1 p with
      | .ok o p' => (match comp2 i j t e ds l p' with
        | .ok r p'' => .ok (o.toList ++ r) p''
        | x => x)
      | _ => .bad)
theorem set2_wipe {α : Type} (σ : List (Option α)) (i j : Nat) (u v : α) : (((σ.set j none).set i none).set i (some u)).set j (some v) = (σ.set i (some u)).set j (some v) := by
  refine List.ext_getElem? fun k => ?_
  simp only [List.getElem?_set, List.length_set]
  by_cases hk : j = k
  · simp [hk]
  · by_cases hi : i = k
    · simp [hk, hi]
    · simp [hk, hi]
theorem wipe_set2 {α : Type} (σ : List (Option α)) (i j : Nat) (u v : α) : ((((σ.set i (some u)).set j (some v)).set j none).set i none) = (σ.set j none).set i none := by
  refine List.ext_getElem? fun k => ?_
  simp only [List.getElem?_set, List.length_set]
  by_cases hi : i = k
  · simp [hi]
  · by_cases hk : j = k
    · simp [hk, hi]
    · simp [hk, hi]
end
/-- over what enumerate yields: a part, or none, for each -/
theorem comp2_enum {α : Type} {i j : Nat} {t : M Bool} {e : M D} {l : Loc} (hi : i < l.length) (hj : j < l.length) (g : α → D) (f : Nat → α → Option D) {p : S} : ∀ {xs : List α} {n : Nat}, (∀ (m : Nat) (x : α), xs[m]? = some x → turn t e ((l.set i (some (.dat (.int ((n + m : Nat) : Int))))).set j (some (.dat (g x)))) p = .ok (f (n + m) x) p) →
    comp2 i j t e (enumD n (xs.map g)) l p = .ok ((xs.zipIdx n).filterMap fun z => f z.2 z.1) p
  | [], n, _ => rfl
  | x :: xs, n, h => by
    have h0 := h 0 x rfl
    have ih := comp2_enum hi hj g f (p := p) (xs := xs) (n := n + 1) fun m y hy => by
      have := h (m + 1) y (by simpa using hy)
      rw [show n + (m + 1) = n + 1 + m by omega] at this
      exact this
    have eT : gset2 i j (.tup [.int (n : Int), g x]) l = some ((l.set i (some (.dat (.int (n : Int))))).set j (some (.dat (g x)))) := by
      show (gset i _ l).bind (gset j _) = _
      rw [lset_lt i _ l hi, Option.bind_some, lset_lt j _ _ (by simpa using hj)]
    show comp2 i j t e (.tup [.int (n : Int), g x] :: enumD (n + 1) (xs.map g)) l p = _
    unfold comp2
    rw [eT]
    simp only [Nat.add_zero] at h0
    simp only [h0, ih]
    rw [List.zipIdx_cons, List.filterMap_cons]
    cases f n x <;> rfl
end Den
namespace Den
open PySem L2
section
variable {c : Cfg} {E : St → XK}
def cellOf (i : Nat) (l : Loc) : Option (List D) := match l[i]? with
  | some (some (.cell ds)) => some ds
  | _ => none
theorem cellOf_at {i : Nat} {l : Loc} {ds : List D} (h : cellOf i l = some ds) : l[i]? = some (some (.cell ds)) := by
  unfold cellOf at h
  split at h
  · rename_i e
    cases h
    exact e
  · cases h
def putk (i : Nat) (x k : D) (l : Loc) : Option Loc := match cellOf i l, k with
  | some ds, .int n => (ixN ds.length n).map fun j => l.set i (some (.cell (ds.set j x)))
  | _, _ => none
/-- xs[k] = a, xs one's own -/
def sput (i : Nat) (k a : M D) : MS := sbind a fun x l p => match cellOf i l with
  | some _ => sbind k (fun n l p => match putk i x n l with
    | some l' => .nx l' p
    | none => .bad) l p
  | none => .bad
theorem ss_put {i : Nat} {t tk : TE} {a k : M D} (ha : SE c E t a) (hk : SE c E tk k) : SS c E (tAsg t (gSub (tVar i) tk rSetL)) (sput i k a) := by
  intro G0 H0 G H σ l pot r De post
  refine Sn.goS ha r post fun x dx p G1 H1 s1 r1 hx post1 => ?_
  cases e0 : cellOf i l with
  | none => simp only [e0] at post1; exact post1.elim
  | some ds0 =>
    simp only [e0] at post1
    obtain ⟨q, vs, hσ, h1, h2⟩ := cell_at r1 (cellOf_at e0)
    refine ⟨.ref q, hσ, ?_⟩
    refine Sn.goS hk r1 post1 fun y dy p2 G2 H2 s2 r2 hy post2 => ?_
    unfold putk at post2
    rw [e0] at post2
    cases dy with
    | int n =>
      rw [at_int hy]
      cases e : ixN ds0.length n with
      | none => simp only [e, Option.map_none] at post2; exact post2.elim
      | some j =>
        simp only [e, Option.map_some] at post2
        obtain ⟨q2, vs2, hσ2, g1, g2⟩ := cell_at r2 (cellOf_at e0)
        rw [hσ] at hσ2
        cases hσ2
        refine ⟨q, vs2, n, j, rfl, rfl, g1, by rw [AtL.length g2]; exact e, ?_⟩
        exact PostS.of post2 (r2.write (cellOf_at e0) hσ (AtL.set (At.mono s2.gg hx) j g2))
    | _ => exact post2.elim
def intAt (i : Nat) (l : Loc) : Option Int := match l[i]? with
  | some (some (.dat (.int n))) => some n
  | _ => none
theorem intAt_at {i : Nat} {l : Loc} {n : Int} (h : intAt i l = some n) : l[i]? = some (some (.dat (.int n))) := by
  unfold intAt at h
  split at h
  · rename_i e
    cases h
    exact e
  · cases h
def saug (i : Nat) (f : Int → Int → Int) (a : M D) : MS := fun l p => match intAt i l with
  | some m => sbind a (fun y l p => match y with
    | .int n => .nx (l.set i (some (.dat (.int (f m n))))) p
    | _ => .bad) l p
  | none => .bad
theorem ss_aug {i : Nat} {t : TE} {f : Int → Int → Int} {a : M D} (ha : SE c E t a) : SS c E (tAug i t (ipI f)) (saug i f a) := by
  intro G0 H0 G H σ l pot r De post
  unfold saug at post
  cases e : intAt i l with
  | none => rw [e] at post; exact post.elim
  | some m =>
    rw [e] at post
    have hl := intAt_at e
    have q := r.slot i _ hl
    have hi : i < l.length := (List.getElem?_eq_some_iff.mp hl).1
    cases eσ : σ[i]? with
    | none => rw [eσ] at q; exact q.elim
    | some o =>
      cases o with
      | none => rw [eσ] at q; exact q.elim
      | some v =>
        rw [eσ] at q
        obtain rfl : v = .int m := at_int q
        refine ⟨.int m, eσ, ?_⟩
        refine Sn.goS ha r post fun x dx p G1 H1 s1 r1 hx post1 => ?_
        cases dx with
        | int n =>
          rw [at_int hx]
          exact ⟨m, n, rfl, rfl, PostS.of post1 (r1.set (.int _) hi)⟩
        | _ => exact post1.elim
/-- at most n turns -/
def whileN (t : M Bool) (b : MS) : Nat → MS
  | 0 => fun _ _ => .bad
  | n + 1 => sbind t fun x => if x = true then (fun l p => match b l p with
      | .nx l' p' => whileN t b n l' p'
      | .ct l' p' => whileN t b n l' p'
      | .bk l' p' => .nx l' p'
      | o => o) else sskip
open Classical in
noncomputable def swhile (t : M Bool) (b : MS) : MS := fun l p => if h : ∃ n, whileN t b n l p ≠ .bad then whileN t b (choose h) l p else .bad
theorem ss_while {tt : TT} {tb : TS} {t : M Bool} {b : MS} (ht : ST c E tt t) (hb : SS c E tb b) : SS c E (tWhile tt tb) (swhile t b) := by
  intro G0 H0 G H σ l pot r De post
  have hn : ∃ n, PostS c E G0 H0 G De (whileN t b n l pot) := by
    unfold swhile at post
    split at post
    · exact ⟨_, post⟩
    · exact post.elim
  obtain ⟨n, post⟩ := hn
  refine ⟨fun m σ H => ∃ G1 l p, Ew G G1 ∧ Rel c G0 H0 G1 H σ l p ∧ PostS c E G0 H0 G1 De (whileN t b m l p), ⟨n, G, l, pot, Ew.refl _, r, post⟩, ?_⟩
  rintro m σ H ⟨G1, l, p, eg, r, post⟩
  cases m with
  | zero => exact post.elim
  | succ m =>
    unfold whileN at post
    refine Sn.goS ht r post fun x dx p G2 H2 s2 r2 hx post2 => ?_
    subst hx
    cases x with
    | false =>
      rw [if_neg Bool.false_ne_true] at post2 ⊢
      exact PostS.of post2 r2
    | true =>
      rw [if_pos rfl] at post2 ⊢
      refine ⟨fun σ' H' => ∃ G1 l p, Ew G G1 ∧ Rel c G0 H0 G1 H' σ' l p ∧ PostS c E G0 H0 G1 De (whileN t b m l p), fun σ' H' h => ⟨m, Nat.lt_succ_self m, h⟩, ?_⟩
      refine hb _ _ _ _ _ _ _ r2 _ ?_
      cases e : b l p with
      | nx l' p' => simp only [e] at post2; exact fun G' H' σ' e' r' => ⟨G', l', p', (eg.trans s2.gg).trans e', r', PostS.mono post2 e'⟩
      | ct l' p' => simp only [e] at post2; exact fun G' H' σ' e' r' => ⟨G', l', p', (eg.trans s2.gg).trans e', r', PostS.mono post2 e'⟩
      | bk l' p' => simp only [e] at post2; exact post2
      | rt d p' => simp only [e] at post2; exact post2
      | err n l' p' => simp only [e] at post2; exact post2
      | bad => simp only [e] at post2; exact post2
theorem whileN_more {t : M Bool} {b : MS} : ∀ {n m : Nat} {l : Loc} {p : S}, whileN t b n l p ≠ .bad → n ≤ m → whileN t b m l p = whileN t b n l p
  | 0, _, _, _, h, _ => absurd rfl h
  | n + 1, 0, _, _, _, h => absurd h (Nat.not_succ_le_zero n)
  | n + 1, m + 1, l, p, h, hm => by
    have hm' : n ≤ m := Nat.le_of_succ_le_succ hm
    unfold whileN at h ⊢
    unfold sbind at h ⊢
    cases e : t l p with
    | bad => rfl
    | err k q => rfl
    | ok x q =>
      simp only [e] at h ⊢
      cases x with
      | false => rfl
      | true =>
        simp only [if_true] at h ⊢
        cases e2 : b l q with
        | nx l' p' => simp only [e2] at h ⊢; exact whileN_more h hm'
        | ct l' p' => simp only [e2] at h ⊢; exact whileN_more h hm'
        | bk l' p' => rfl
        | rt d p' => rfl
        | err k l' p' => rfl
        | bad => rfl
theorem swhile_ev {t : M Bool} {b : MS} {n : Nat} {l : Loc} {p : S} {o : O} (h : whileN t b n l p = o) (ho : o ≠ .bad) : swhile t b l p = o := by
  have hz : ∃ n, whileN t b n l p ≠ .bad := ⟨n, by rw [h]; exact ho⟩
  unfold swhile
  rw [dif_pos hz]
  have h1 := Classical.choose_spec hz
  rw [← h]
  rcases Nat.le_total n (Classical.choose hz) with z | z
  · exact whileN_more (by rw [h]; exact ho) z
  · exact (whileN_more h1 z).symm
def rUnO (C : Addr) (sp : Sp) (E : XK) : V → Hp → VK → Prop := fun x H Q => ∃ a dx fs, x = .ref a ∧ H a = some (.ins C dx fs) ∧ sp [.ref a] H Q E
end
section
variable {X : Cx} {CX : CXT} {C g : Addr} {n : Nat} {sp : Sp} {E : XK}
theorem un_inv (hs : PySem.W.findIn X.K (.ref C) "__invert__" = some (some (.ref g))) (hf : PySem.W.isFn X.K (.ref g) = true) (F : FnR X.prog X.w X.K X.mg X.base CX n g sp) (hr : Room n X.A) (hx : Passes CX X E) : UnR X (unaryOp .Invert) (rUnO C sp E) := by
  intro pins s σ H x v Q I rx h
  obtain ⟨a, dx, fs, rfl, ha, q⟩ := h
  cases (show v = Value.ref a from rx)
  obtain ⟨mA, J, _⟩ := ins_get I.hok ha
  obtain ⟨od, J, _⟩ := J.look
  obtain ⟨m, hF⟩ := I.fr
  refine PySem.W.ksp_inv hF I.ok.mod.kin J hs hf ?_
  refine wpAny_mono (wpAny_call (run_fnR (us := [.ref a]) (vs := [.ref a]) F hr hx I (.cons rfl .nil) q)) (fun w s' z => ?_) fun _ _ x => x
  exact z
end
section
variable {c : Cfg} {E : St → XK}
end
end Den
namespace DenB
open PySem
open PySem.Sem (wp)
theorem truthy_tupN {prog : Program} {w : World} {A : Around} {E : Value → Shared → Prop} {s : Shared} {l : Addr} {items : Array Value} {Q : Bool → Shared → Prop} (hl : s.heap.IsTuple l items) (hfit : (items.size : Int) < 2 ^ 63)
    (h : Q (!items.isEmpty) { s with toks := s.toks + 1 + 1 }) : wpAny (model prog w) A (truthy (.ref l)) Q E s := PyProof.Rows.truthy_tuple hl hfit h
theorem meets_bool_tup (l : Addr) (items : Array Value) (hfit : (items.size : Int) < 2 ^ 63) :
    Meets (Builtin.«bool.__new__» ⟨[.type "bool", .ref l], []⟩) (fun _ R s => s.heap.IsTuple l items ∧ ∀ t, R (.ok (.ret (.bool (!items.isEmpty)))) { s with toks := t }) :=
  Meets.of_wp fun prog w A R s hs => by
    obtain ⟨hl, hs⟩ := hs
    obtain ⟨hp, g, d, tk, os⟩ := s
    have f1 := F.conv_sub_bool
    repeat (any_goals (first | assumption | (with_reducible refine truthy_tupN hl hfit ?_) | wp_step))
    all_goals first | exact ⟨_, rfl, hs _⟩ | exact hs _ | skip
theorem call_bool_tup {prog : Program} {w : World} {A : Around} {E : Value → Shared → Prop} {s : Shared} {l : Addr} {items : Array Value} {Q : Value → Shared → Prop} (hfit : (items.size : Int) < 2 ^ 63) (hl : s.heap.IsTuple l items)
    (h : ∀ t, Q (.bool (!items.isEmpty)) { s with toks := t }) : wpAny (model prog w) A (call (.type "bool") [.ref l]) Q E s :=
  call_bool_1 (meets_bool_tup l items hfit) ⟨hl, fun t => ⟨rfl, h t⟩⟩
end DenB
namespace Den
open PySem L2
section
variable {X : Cx}
def rBoolS (K : PySem.W.Frag) : List V → Hp → VK → Prop := fun xs H Q => ∃ (a : Addr) (zs : List V), xs = [.ref a] ∧ (SqL K H a zs ∨ SqT K H a zs) ∧ Q (.bl (!zs.isEmpty)) H
theorem call_boolS : CallR X (.type "bool") (rBoolS X.K) := by
  intro pins s σ H xs us Q I r h
  obtain ⟨a, zs, rfl, hq | hq, q⟩ := h
  · exact call_boolL pins s σ H _ us Q I r ⟨a, zs, rfl, hq, q⟩
  · obtain rfl := Vals.ref1 r
    obtain ⟨its, rv, pl, hz⟩ := I.tuple hq
    have hl := line63
    have hlen := rv.length
    refine DenB.call_bool_tup (by simp only [List.size_toArray]; omega) pl fun t => ?_
    exact ⟨.bl (!zs.isEmpty), H, I.tok _, by rw [isEmpty_of rv]; rfl, q⟩
end
section
variable {c : Cfg}
def fBoolS : List D → Option D
  | [d] => (seqOf d).map fun ds => .bl (!ds.isEmpty)
  | _ => none
theorem sn_boolS : SN c (rBoolS c.K) fBoolS := ⟨fun G H xs ds d gh _ hx e => by
  unfold fBoolS at e
  split at e
  · obtain ⟨x, rfl, hx1⟩ := atl1 hx
    rename_i dx
    cases dx with
    | lst es =>
      obtain ⟨p, vs, rfl, h, a⟩ := at_lst hx1
      cases e
      exact ops_pure gh (.bl _) fun Q q => ⟨p, vs, rfl, .inl (.inl (.inl (gh _ _ h))), by rw [isEmpty_at a]; exact q⟩
    | tup es =>
      obtain ⟨p, vs, rfl, h, a⟩ := at_tup hx1
      cases e
      exact ops_pure gh (.bl _) fun Q q => ⟨p, vs, rfl, .inr (.inl (.inl (gh _ _ h))), by rw [isEmpty_at a]; exact q⟩
    | _ => cases e
  · cases e⟩
end
end Den
namespace PL
open PySem L2 Den
noncomputable section
def dn_check_one_or_two : MS := (sif (mtest (op2 (fInB true) (mvar 0) (mtupd (acons (mret (D.int 1)) (acons (mret (D.int 2)) anil))))) (sraise 1) sskip)
def D_check_one_or_two : RF := denF 1 1 (dn_check_one_or_two)
def b_due_at_1 : MS := (sif (mtest (op2 fIsN (mvar 0) (mret D.non))) (sret (op2 fAdd (mvar 1) (mret (D.int 1)))) sskip)
def b_due_at_2 : MS := (sif (mtest (op2 fEq (op2 fIx (mvar 0) (mret (D.int 0))) (mret (D.str "chips")))) (sret (opn fMin2 (acons (op2 fIx (mvar 0) (mret (D.int 1))) (acons (op2 fAdd (mvar 1) (mret (D.int 1))) anil)))) sskip)
def b_due_at_3 : MS := (sret (opn fMax2 (acons (mret (D.int 0)) (acons (op2 fSub (op2 fAdd (mvar 1) (mret (D.int 1))) (op2 fIx (mvar 0) (mret (D.int 1)))) anil))))
def dn_due_at : MS := (sseq b_due_at_1
    (sseq b_due_at_2
    b_due_at_3))
def D_due_at : RF := denF 2 2 (dn_due_at)
def L_check_kinds_k09_1 : MS := (sif (mnot (mtru (opn fIs2 (acons (mvar 4) (acons (mtupd (acons (mret (D.ty Ty.lst)) (acons (mret (D.ty Ty.tup)) anil))) anil))))) (sraise 0) sskip)
def b_check_kinds_k09_1 : MS := (sfor (mbind (mtupd (acons (mvar 0) (acons (mvar 1) (acons (mvar 3) anil)))) fun x => mlift (tupOf x)) (gset 4) L_check_kinds_k09_1)
def L_check_kinds_k09_2 : MS := (sdrop (mcall D_whole_list (acons (mvar 4) anil)))
def b_check_kinds_k09_2 : MS := (sfor (mbind (mtupd (astar (mvar 0) (astar (mvar 1) (acons (mvar 2) anil)))) fun x => mlift (tupOf x)) (gset 4) L_check_kinds_k09_2)
def L_check_kinds_k09_3 : MS := (sdrop (mcall D_check_due (acons (mvar 5) anil)))
def b_check_kinds_k09_3 : MS := (sfor (mbind (mvar 3) fun x => mlift (seqOf x)) (gset 5) L_check_kinds_k09_3)
def dn_check_kinds_k09 : MS := (sseq b_check_kinds_k09_1
    (sseq b_check_kinds_k09_2
    b_check_kinds_k09_3))
def D_check_kinds_k09 : RF := denF 4 6 (dn_check_kinds_k09)
def L_check_steps_k09_1l1 : MS := (sif (mor (mtest (op2 fLt (mvar 4) (mret (D.int 0)))) (mtest (op2 fGe (mvar 4) (opn fLen (acons (mvar 0) anil))))) (sraise 2) sskip)
def b_check_steps_k09_1l1 : MS := (sfor (mbind (mtupd (astar (mvar 3) (astar (op2 fIx (mvar 1) (mvar 2)) anil))) fun x => mlift (tupOf x)) (gset 4) L_check_steps_k09_1l1)
def b_check_steps_k09_1l2 : MS := (sif (mtest (op2 fNe (opn fBoolS (acons (mvar 3) anil)) (opn fBoolS (acons (op2 fIx (mvar 1) (mvar 2)) anil)))) (sraise 2) sskip)
def L_check_steps_k09_1 : MS := (sseq b_check_steps_k09_1l1
    b_check_steps_k09_1l2)
def dn_check_steps_k09 : MS := (sfor (mbind (acons (mvar 0) anil) fun x => mlift (enumS x)) (gset2 2 3) L_check_steps_k09_1)
def D_check_steps_k09 : RF := denF 2 5 (dn_check_steps_k09)
def b_check_parts_k09_1 : MS := (sdrop (mcall D_check_kinds_k09 (acons (mvar 0) (acons (mvar 1) (acons (mvar 2) (acons (mvar 3) anil))))))
def b_check_parts_k09_2 : MS := (sasg (opn fLen (acons (mvar 2) anil)) (gset 4))
def b_check_parts_k09_3 : MS := (sif (mor (mtest (op2 fEq (mvar 4) (mret (D.int 0)))) (mtest (op2 (fEqD true) (mfreeze (mshort (acons (opn fLen (acons (mvar 0) anil)) (acons (opn fLen (acons (mvar 1) anil)) (acons (opn fLen (acons (mvar 3) anil)) anil))))) (op2 fRep (mfreeze (mshort (acons (mvar 4) anil))) (mret (D.int 3)))))) (sraise 2) sskip)
def b_check_parts_k09_4 : MS := (sdrop (mcall D_check_steps_k09 (acons (mvar 0) (acons (mvar 1) anil))))
def L_check_parts_k09_5 : MS := (sif (mtest (op2 (fInB true) (mvar 5) (mtupd (acons (mret (D.int 1)) (acons (mret (D.int 2)) anil))))) (sraise 2) sskip)
def b_check_parts_k09_5 : MS := (sfor (mbind (mvar 2) fun x => mlift (seqOf x)) (gset 5) L_check_parts_k09_5)
def L_check_parts_k09_6 : MS := (sif (mnot (mtru (mcall D_due_in_range (acons (mvar 6) anil)))) (sraise 2) sskip)
def b_check_parts_k09_6 : MS := (sfor (mbind (mvar 3) fun x => mlift (seqOf x)) (gset 6) L_check_parts_k09_6)
def b_check_parts_k09_7 : MS := (sdrop (mcall D_check_most (acons (mvar 4) (acons (mret (D.int 60)) anil))))
def L_check_parts_k09_8 : MS := (sif (mtru (mcall D_due_too_great (acons (mvar 6) anil))) (sraise 3) sskip)
def b_check_parts_k09_8 : MS := (sfor (mbind (mvar 3) fun x => mlift (seqOf x)) (gset 6) L_check_parts_k09_8)
def dn_check_parts_k09 : MS := (sseq b_check_parts_k09_1
    (sseq b_check_parts_k09_2
    (sseq b_check_parts_k09_3
    (sseq b_check_parts_k09_4
    (sseq b_check_parts_k09_5
    (sseq b_check_parts_k09_6
    (sseq b_check_parts_k09_7
    b_check_parts_k09_8)))))))
def D_check_parts_k09 : RF := denF 4 7 (dn_check_parts_k09)
def b_Web_init_k09_01 : MS := (sdrop (mcall D_check_parts_k09 (acons (mvar 1) (acons (mvar 2) (acons (mvar 3) (acons (mvar 4) anil))))))
def b_Web_init_k09_02 : MS := (sasg (opn fLen (acons (mvar 3) anil)) (gset 5))
def c_Web_init_k09_1 : M (List D) := (mcomp (mbind (mvar 1) fun x => mlift (seqOf x)) 6 mtrue (mcall D_as_stands (acons (mvar 6) (acons (mvar 5) anil))))
def b_Web_init_k09_04 (A : CA) : MS := (sfldO A.Web 0 "_first" (opn fTuple (acons (mfreeze c_Web_init_k09_1) anil)))
def c_Web_init_k09_2 : M (List D) := (mcomp (mbind (mvar 2) fun x => mlift (seqOf x)) 6 mtrue (mcall D_as_stands (acons (mvar 6) (acons (mvar 5) anil))))
def b_Web_init_k09_05 (A : CA) : MS := (sfldO A.Web 0 "_second" (opn fTuple (acons (mfreeze c_Web_init_k09_2) anil)))
def b_Web_init_k09_06 (A : CA) : MS := (sfldO A.Web 0 "_marks" (opn fTuple (acons (mvar 3) anil)))
def c_Web_init_k09_3 : M (List D) := (mcomp (mbind (mvar 4) fun x => mlift (seqOf x)) 7 mtrue (mif (mtest (op2 fIsN (mvar 7) (mret D.non))) (mret D.non) (opn fTuple (acons (mvar 7) anil))))
def b_Web_init_k09_07 (A : CA) : MS := (sfldO A.Web 0 "_dues" (opn fTuple (acons (mfreeze c_Web_init_k09_3) anil)))
def c_Web_init_k09_4 : M (List D) := (mcomp (mbind (acons (mvar 5) anil) fun x => mlift (rng1 x)) 8 (mnot (mtru (op2 fIx (mvar 1) (mvar 8)))) (mvar 8))
def b_Web_init_k09_08 (A : CA) : MS := (sfldO A.Web 0 "_ends" (opn fTuple (acons (mfreeze c_Web_init_k09_4) anil)))
def c_Web_init_k09_5 : M (List D) := (mcomp (mbind (acons (mvar 5) anil) fun x => mlift (rng1 x)) 8 (mtru (op2 fIx (mvar 1) (mvar 8))) (mvar 8))
def b_Web_init_k09_09 (A : CA) : MS := (sfldO A.Web 0 "_moving" (opn fTuple (acons (mfreeze c_Web_init_k09_5) anil)))
def c_Web_init_k09_6 : M (List D) := (mcomp (mbind (mvar 4) fun x => mlift (seqOf x)) 7 mtrue (mif (mtest (op2 fIsN (mvar 7) (mret D.non))) (mret (D.int 0)) (op2 fIx (mvar 7) (mret (D.int 1)))))
def b_Web_init_k09_10 (A : CA) : MS := (sfldO A.Web 0 "_greatest_due" (opn fMaxL (acons (mfreeze c_Web_init_k09_6) anil)))
def b_Web_init_k09_11 (A : CA) : MS := (sfldO A.Web 0 "_even" (op2 (fEqD false) (mfldO A.Web 0 "_first") (mfldO A.Web 0 "_second")))
def dn_Web_init_k09 (A : CA) : MS := (sseq b_Web_init_k09_01
    (sseq b_Web_init_k09_02
    (sseq (sfldO A.Web 0 "_size" (mvar 5))
    (sseq (b_Web_init_k09_04 A)
    (sseq (b_Web_init_k09_05 A)
    (sseq (b_Web_init_k09_06 A)
    (sseq (b_Web_init_k09_07 A)
    (sseq (b_Web_init_k09_08 A)
    (sseq (b_Web_init_k09_09 A)
    (sseq (b_Web_init_k09_10 A)
    (b_Web_init_k09_11 A)))))))))))
def sqD (b : Bool) (ds : List D) : D := if b then .tup ds else .lst ds
def sqI (s : Bool × List Int) : D := sqD s.1 (s.2.map .int)
def sqDue (s : Bool × Due) : D := match s.2 with
  | none => .non
  | some (w, x) => sqD s.1 [.str (if w then "chips" else "less"), .int x]
structure Wg where
  first : Bool × List (Bool × List Int)
  second : Bool × List (Bool × List Int)
  marks : Bool × List Int
  dues : Bool × List (Bool × Due)
def Wg.wb (g : Wg) : Wb := ⟨g.first.2.map Prod.snd, g.second.2.map Prod.snd, g.marks.2, g.dues.2.map Prod.snd⟩
def encG (g : Wg) : List D := [sqD g.first.1 (g.first.2.map sqI), sqD g.second.1 (g.second.2.map sqI), sqI g.marks, sqD g.dues.1 (g.dues.2.map sqDue)]
structure ValidG (wb : Wb) : Prop where
  n1 : 1 ≤ wb.marks.length
  n2 : wb.marks.length ≤ 60
  l1 : wb.first.length = wb.marks.length
  l2 : wb.second.length = wb.marks.length
  l3 : wb.dues.length = wb.marks.length
  s1 : ∀ ss ∈ wb.first, ss.length < 64 ∧ ∀ x ∈ ss, 0 ≤ x ∧ x < (wb.marks.length : Int)
  s2 : ∀ ss ∈ wb.second, ss.length < 64 ∧ ∀ x ∈ ss, 0 ≤ x ∧ x < (wb.marks.length : Int)
  both : ∀ (i : Nat) (a b : List Int), wb.first[i]? = some a → wb.second[i]? = some b → a.isEmpty = b.isEmpty
  mks : ∀ m ∈ wb.marks, m = 1 ∨ m = 2
  du : ∀ d ∈ wb.dues, ∀ b x, d = some (b, x) → 0 ≤ x ∧ x ≤ 10000000000000000000000000000000000000000
open Classical in
def D_Web_init_k09 (_ : CA) : RI := fun ds pot => if h : ∃ g, ValidG (Wg.wb g) ∧ ds = encG g then .ok (wnames, wfields (choose h).wb) pot else .bad

def c_dues_at_1 (A : CA) : M (List D) := (mcomp (mbind (mfld A.Web "_dues" (mvar 0)) fun x => mlift (tupOf x)) 2 mtrue (mcall D_due_at (acons (mvar 2) (acons (mvar 1) anil))))
def dn_dues_at (A : CA) : MS := (sret (opn fTuple (acons (mfreeze (c_dues_at_1 A)) anil)))
def D_dues_at (A : CA) : RF := denF 2 3 (dn_dues_at A)
end
end PL
namespace DenB
open PySem PySem.Calls
section
variable {prog : Program} {w : World} {A : Around} {E : Value → Shared → Prop} {s : Shared} {K : PySem.W.Frag} {x C L f : Addr} {ox : Obj} {od : Option Obj} {h₀ : Heap} {m : Str → Option Value} {b tb : Value}
end
end DenB
namespace DenB
open PySem PySem.Calls
section
variable {prog : Program} {w : World} {A : Around} {E : Value → Shared → Prop} {s : Shared} {K : PySem.W.Frag} {x C L f : Addr} {ox : Obj} {od : Option Obj}
end
end DenB
namespace Den
open PySem L2 ItX
end Den
namespace Den
open PySem L2
section
variable {X : Cx} {CX : CXT} {C g : Addr} {n : Nat} {sp : Sp} {E : XK} {pins : List (Addr × Obj)} {σ : St} {H : Hp} {s : Shared}
end
section
variable {c : Cfg} {E : St → XK}
/-- the walk -/
def itOwn (C : Addr) (f : Str) : D → Option (List D)
  | .ins C' ns ds => if C' = C then ((ns.zip ds).lookup f).bind tupOf else none
  | _ => none
end
end Den
namespace Den
open PySem L2
section
variable {c : Cfg} {E : St → XK}
inductive SuitesB (c : Cfg) (B : Nat) : List (Value × (Addr → Value → Option Addr → TS)) → List (Nat × MS) → Prop
  | nil : SuitesB c B [] []
  | cons {m : Nat} {ts : Addr → Value → Option Addr → TS} {s : MS} {l : List (Value × (Addr → Value → Option Addr → TS))} {hs : List (Nat × MS)} (hm : m < B) (h : ∀ a cls d, SS c (fun _ => E0) (ts a cls d) s) (t : SuitesB c B l hs) : SuitesB c B ((.ref (c.ec m), ts) :: l) ((m, s) :: hs)
def ApartB (c : Cfg) (B : Nat) : Prop := ∀ n m : Nat, n < B → m < B → PySem.W.exmOne c.K (.ref (c.ec n)) (.ref (c.ec m)) = some (decide (n = m))
end
end Den
namespace Den
open PySem L2
section
variable {c : Cfg} {E : St → XK}
end
end Den
namespace Den
open PySem L2 StX
section
variable {X : Cx} {CX : CXT} {k : Nat} {f C : Addr} {sp : Sp} {E : St → XK} {x : Str} {e : Expr} {es : List Expr} {t : TA} {p pos : Pos}
end
section
variable {c : Cfg} {E : St → XK}
end
end Den
namespace PL
open PySem L2 Den
noncomputable section
def D_Verdict_init (_ : CA) : RI := fun ds pot => match ds with
  | [d] => (D_whole_list [d] pot).bind fun t p => match t with
    | .tup es => (match intsOf es with
      | some ns => if ∃ n ∈ ns, n < 0 then .err 1 p else if ns.length < 64 then .ok (["_faults"], [.tup ((sortSet ns).map .int)]) p else .bad
      | none => .bad)
    | _ => .bad
  | _ => .bad

end
end PL
namespace Den
open PySem L2 ItX
section
variable {c : Cfg} {E : St → XK}
def mlistO (C : Addr) (f : Str) (a : M (List D)) : M (List D) := mbind a fun ds => match ds with
  | [d] => mlift (itOwn C f d)
  | _ => fun _ _ => .bad
@[simp] theorem mlistO_ev (C : Addr) (f : Str) (a : M (List D)) (l : Loc) (p : S) {d : D} {p' : S} (h : a l p = .ok [d] p') : mlistO C f a l p = mlift (itOwn C f d) l p' := by
  unfold mlistO
  rw [mbind_ok h]
end
end Den
namespace PL
open PySem L2 Den
noncomputable section
def c_law_fall_1 : M (List D) := (mcomp (mbind (acons (opn fLen (acons (mvar 2) anil)) anil) fun x => mlift (rng1 x)) 4 (mtest (op2 fLt (op2 fIx (mvar 2) (mvar 4)) (mcall D_due_at (acons (op2 fIx (op2 fIx (mvar 0) (mret (D.int 3))) (mvar 4)) (acons (mvar 1) anil))))) (mvar 4))
def c_law_fall_2 : M (List D) := (mcomp (mbind (mvar 2) fun x => mlift (lstOf x)) 4 mtrue (mret (D.int 0)))
def c_law_fall_3 : M (List D) := (mcomp (mbind (acons (opn fLen (acons (mvar 2) anil)) anil) fun x => mlift (rng1 x)) 4 mtrue (op2 fAdd (op2 fIx (mvar 2) (mvar 4)) (opn fInt (acons (op2 (fInB false) (mvar 4) (mvar 3)) anil))))
def c_law_fall_4 : M (List D) := (mcomp (mbind (mvar 3) fun x => mlift (lstOf x)) 4 (mtest (op2 fLe (mcall D_law_price (acons (mvar 0) (acons (mvar 1) (acons (mvar 7) (acons (mvar 4) anil))))) (op2 fIx (mvar 2) (mvar 4)))) (mvar 4))
def L_law_fall_3l3 : MS := (sput 5 (mvar 4) (op2 fAdd (mvar 6) (mret (D.int 1))))
def b_law_fall_3l3 : MS := (sfor (mbind (mvar 8) fun x => mlift (lstOf x)) (gset 4) L_law_fall_3l3)
def c_law_fall_5 : M (List D) := (mcomp (mbind (mvar 3) fun x => mlift (lstOf x)) 4 (mtest (op2 (fInB true) (mvar 4) (mvar 8))) (mvar 4))
def L_law_fall_3 : MS := (sseq (sasg (mfreeze c_law_fall_3) (gset 7))
    (sseq (sasg (mfreeze c_law_fall_4) (gset 8))
    (sseq b_law_fall_3l3
    (sasg (mfreeze c_law_fall_5) (gset 3)))))
def b_law_fall_3 : MS := (sfor (mbind (acons (opn fLen (acons (mvar 2) anil)) anil) fun x => mlift (rng1 x)) (gset 6) L_law_fall_3)
def b_law_fall_4 : MS := (sgive 5 (sret (mfreeze (mshort (acons (mvar 5) (acons (mvar 3) anil))))))
def dn_law_fall : MS := (sseq (sasg (mfreeze c_law_fall_1) (gset 3))
    (sseq (sown c_law_fall_2 5)
    (sseq b_law_fall_3
    b_law_fall_4)))
def D_law_fall : RF := denF 3 9 (dn_law_fall)
end
end PL
namespace Den
open PySem L2
section
variable {c : Cfg} {E : St → XK}
/-- what stands, but for p -/
def less (G : Wd) (p : Addr) : Wd := ⟨fun q => if q = p then none else G q, G.ps, G.ver⟩
theorem less_some {G : Wd} {p q : Addr} {o : HO} (h : less G p q = some o) : q ≠ p ∧ G q = some o := by
  have h : (if q = p then none else G q) = some o := h
  by_cases z : q = p
  · rw [if_pos z] at h; cases h
  · rw [if_neg z] at h; exact ⟨z, h⟩
theorem less_none {G : Wd} {p q : Addr} (h : G q = none) : less G p q = none := by
  show (if q = p then none else G q) = none
  split
  · rfl
  · exact h
theorem Stp.back {G : Wd} {H : Hp} {G2 : Wd} {H2 : Hp} {p : Addr} {o : HO} (gp : G p = none) (s : Stp c.B (wup G p o) H G2 H2) : Stp c.B G H (less G2 p) H2 := by
  refine ⟨⟨fun a u e => ?_, s.gg.ps⟩, fun a u e => s.gh a u (less_some e).2, s.keep, s.there, fun a u e => ?_, s.np⟩
  · have e : G a = some u := e
    have ne : a ≠ p := fun z => by rw [z, gp] at e; cases e
    show (if a = p then none else G2 a) = some u
    rw [if_neg ne]
    exact s.gg.hp a u (by show (wup G p o) a = some u; rw [wup_ne ne]; exact e)
  · obtain ⟨ne, e2⟩ := less_some e
    rcases s.new a u e2 with z | z
    · rw [wup_ne ne] at z; exact .inl z
    · exact .inr z
/-- where nothing has changed, the state stays true -/
theorem Sat.back {G : Wd} {H : Hp} {G2 : Wd} {H2 : Hp} {p : Addr} {p0 q : S} {o : HO} (gp : G p = none) (s : Stp c.B (wup G p o) H G2 H2) (s0 : Sat c G p0 H) (s1 : Sat c G2 q H2) (v : q.ver = p0.ver) : Sat c (less G2 p) ⟨q.pot, p0.st, q.ver⟩ H2 := by
  have ev : G2.ver = G.ver := by rw [← s1.ver, v, s0.ver]
  have es := s.np.2.2 ev
  refine ⟨s1.inv, by
    show p0.st.length = G2.ps.length
    rw [es.1]; exact s0.len, s1.ver, s1.nd, fun a m => ⟨(s1.no a m).1, less_none (s1.no a m).2⟩, fun j m a e1 e2 => ?_⟩
  have e2 : G2.ps[j]? = some a := e2
  rw [es.1] at e2
  have e2 : G.ps[j]? = some a := e2
  have h0 := s0.at_ j m a e1 e2
  refine h0.mono (s.back gp).gg ?_
  cases e : H a with
  | none => exact absurd e h0.there
  | some u => exact es.2 a u (List.mem_of_getElem? e2) e
end
end Den
namespace Den
open PySem L2
section
variable {X : Cx}
end
section
variable {c : Cfg} {E : St → XK}
theorem putK_len {κ : Type} [DecidableEq κ] (kvs : List (κ × V)) (k : κ) (v : V) : (putK kvs k v).length ≤ kvs.length + 1 := by
  unfold putK
  split
  · rw [List.length_map]; omega
  · rw [List.length_append]; simp
/-- ints, in ascending order -/
def insW (k : Int) : List Int → List Int
  | [] => [k]
  | n :: ns => if k ≤ n then k :: n :: ns else n :: insW k ns
end
end Den
namespace Den
open PySem L2
section
variable {c : Cfg} {E : St → XK}
end
end Den
namespace Den
open PySem L2
section
variable {c : Cfg} {E : St → XK}
end
end Den
namespace PL
open PySem L2 Den
noncomputable section
end
end PL
namespace PL
open PySem L2 Den
noncomputable section
def b_law_true_row_1l1 : MS := (sif (mor (mtest (op2 fLt (op2 fIx (mvar 2) (mvar 3)) (mret (D.int 0)))) (mtest (op2 fGt (op2 fIx (mvar 2) (mvar 3)) (mcall D_due_at (acons (op2 fIx (op2 fIx (mvar 0) (mret (D.int 3))) (mvar 3)) (acons (mvar 1) anil)))))) (sret (mret (D.bl false))) sskip)
def b_law_true_row_1l2 : MS := (sif (mtest (op2 fGt (op2 fIx (mvar 2) (mvar 3)) (mcall D_law_price (acons (mvar 0) (acons (mvar 1) (acons (mvar 2) (acons (mvar 3) anil))))))) (sret (mret (D.bl false))) sskip)
def L_law_true_row_1 : MS := (sseq b_law_true_row_1l1
    b_law_true_row_1l2)
def b_law_true_row_1 : MS := (sfor (mbind (acons (opn fLen (acons (mvar 2) anil)) anil) fun x => mlift (rng1 x)) (gset 3) L_law_true_row_1)
def b_law_true_row_2 : MS := (sret (op2 fEq (opn fLen (acons (op2 fIx (mcall D_law_fall (acons (mvar 0) (acons (mvar 1) (acons (mvar 2) anil)))) (mret (D.int 1))) anil)) (mret (D.int 0))))
def dn_law_true_row : MS := (sseq b_law_true_row_1
    b_law_true_row_2)
def D_law_true_row : RF := denF 3 4 (dn_law_true_row)
end
end PL
namespace Den
open PySem L2
section
variable {c : Cfg} {E : St → XK}
def fShl : D → D → Option D := fI fun i j => if 0 ≤ j ∧ j.natAbs ≤ 1000000 ∧ i.natAbs < 18446744073709551616 then some (.int (i * 2 ^ j.toNat)) else none
def fShr : D → D → Option D := fI fun i j => if 0 ≤ j then some (.int (i / 2 ^ j.toNat)) else none
def fAnd : D → D → Option D := fI fun i j => some (.int (Builtin.bitAnd i j))
def fOr : D → D → Option D := fI fun i j => some (.int (Builtin.bitOr i j))
def fInv : D → Option D
  | .int i => some (.int (Builtin.bitNot i))
  | _ => none
theorem s2_shl : S2 c (rI CPow fun i j => .int (i * 2 ^ j.toNat)) fShl := ⟨fun G H x y dx dy d gh _ hx hy e => by
  obtain ⟨i, j, rfl, rfl, e⟩ := fI_at hx hy e
  split at e
  · rename_i z
    cases e
    exact ops_pure gh (.int _) fun Q q => ⟨i, j, rfl, rfl, (by unfold CPow; omega), q⟩
  · cases e⟩
theorem s2_shr : S2 c (rI (fun _ j => 0 ≤ j) fun i j => .int (i / 2 ^ j.toNat)) fShr := ⟨fun G H x y dx dy d gh _ hx hy e => by
  obtain ⟨i, j, rfl, rfl, e⟩ := fI_at hx hy e
  split at e
  · rename_i z
    cases e
    exact ops_pure gh (.int _) fun Q q => ⟨i, j, rfl, rfl, z, q⟩
  · cases e⟩
theorem s2_and : S2 c (rI0 fun i j => .int (Builtin.bitAnd i j)) fAnd := ⟨fun G H x y dx dy d gh _ hx hy e => by
  obtain ⟨i, j, rfl, rfl, e⟩ := fI_at hx hy e
  cases e
  exact ops_pure gh (.int _) fun Q q => ⟨i, j, rfl, rfl, q⟩⟩
theorem s2_or : S2 c (rI0 fun i j => .int (Builtin.bitOr i j)) fOr := ⟨fun G H x y dx dy d gh _ hx hy e => by
  obtain ⟨i, j, rfl, rfl, e⟩ := fI_at hx hy e
  cases e
  exact ops_pure gh (.int _) fun Q q => ⟨i, j, rfl, rfl, q⟩⟩
theorem s1_inv : S1 c (rU fun i => .int (Builtin.bitNot i)) fInv := ⟨fun G H x dx d gh _ hx e => by
  cases hx with
  | int i => cases e; exact ops_pure gh (.int _) fun Q q => ⟨i, rfl, q⟩
  | _ => cases e⟩
/-- x.bit_length() -/
def fBits : D → Option D
  | .int i => some (.int (Builtin.Int.intBits i : Nat))
  | _ => none
theorem s1_bits : S1 c (fun x H Q => ∃ i, x = .int i ∧ Q (.int (Builtin.Int.intBits i : Nat)) H) fBits := ⟨fun G H x dx d gh _ hx e => by
  cases hx with
  | int i => cases e; exact ops_pure gh (.int _) fun Q q => ⟨i, rfl, q⟩
  | _ => cases e⟩
theorem se_bits {t : TE} {a : M D} (ha : SE c E t a) : SE c E (tBits t) (op1 fBits a) := se_op1 s1_bits ha
/-- sum(xs) of a list of ints -/
def fSum : List D → Option D
  | [.lst ds] => (intsOf ds).map fun ns => .int ns.sum
  | _ => none
theorem sn_sum : SN c (rSum c.K) fSum := ⟨fun G H xs ds d gh _ hx e => by
  unfold fSum at e
  split at e
  · obtain ⟨x, rfl, hx1⟩ := atl1 hx
    rename_i es
    obtain ⟨q, vs, rfl, h, al⟩ := at_lst hx1
    cases e1 : intsOf es with
    | none => rw [e1] at e; cases e
    | some ns =>
      rw [e1] at e
      cases e
      have ev := ints_at al e1
      subst ev
      exact ops_pure gh (.int _) fun Q k => ⟨q, ns, rfl, .inl (.inl (gh _ _ h)), k⟩
  · cases e⟩
end
end Den
namespace Den
open PySem L2
section
variable {c : Cfg} {E : St → XK}
theorem zip_none {m : Str} : ∀ {ns : List Str} {vs : List V}, ns.contains m = false → (ns.zip vs).lookup m = none
  | [], _, _ => rfl
  | n :: ns, [], _ => rfl
  | n :: ns, v :: vs, h => by
    simp only [List.contains_cons, Bool.or_eq_false_iff] at h
    show (((n, v) :: ns.zip vs).lookup m) = none
    unfold List.lookup
    rw [h.1]
    exact zip_none h.2
def insM (C : Addr) (m : Str) : D → Option D
  | .ins C' ns ds => if C' = C ∧ ns.contains m = false then some (.ins C' ns ds) else none
  | _ => none
def mmeth (C : Addr) (m : Str) (f : RF) (a : M D) (b : M (List D)) : M D := mbind a fun d => mbind (mlift (insM C m d)) fun x => mbind b fun ys _ p => f (x :: ys) p
end
section
variable {c : Cfg} {E : St → XK}
@[simp] theorem mmeth_ev (C : Addr) (m : Str) (f : RF) (a : M D) (b : M (List D)) (l : Loc) (p : S) : mmeth C m f a b l p = (a l p).bind fun d p' => (mlift (insM C m d) l p').bind fun x p'' => (b l p'').bind fun ys q => f (x :: ys) q := rfl
end
end Den
namespace L2
open PySem PySem.Spec PyProof.Rows
/-- the call without arguments, by a promise for its values -/
theorem pe_methN {X : Cx} {CX : CXT} {k : Nat} {C f : Addr} {m : Str} {sp : Sp} {E : XK} {o : Expr} {ta : TE} {apos pos : Pos} {pl : Sem Bool} (he : PE X o ta) (c : Cls X.K C) (hm : Meth X.K C m f)
    (F : FnR X.prog X.w X.K X.mg X.base CX k f sp) (hr : Room k X.A) (hx : Passes CX X E)
    (ht : eval (.Call (.Attribute o m apos) [] [] pos) X.env = (eval o X.env >>= fun ov => standAt apos.atName >>= fun _ => holding [ov] (getMethod ov m pl) >>= fun x => callWith pos x.1 x.2 (backTo pos (starEach [] X.env)) (backToKw pos (keywordEach [] X.env))) := by rfl) :
    PE X (.Call (.Attribute o m apos) [] [] pos) (tMethR C m sp E ta tNil) := by
  constructor
  intro pins s σ H Q I h
  refine PySem.W.methodCall_KW (pl := pl) (thn (he.run pins s σ H _ I h) ?_) ht
  rintro u s1 ⟨x, H1, I1, rx, a, dx, fs, rfl, ea, l, q⟩
  cases rx
  exact getmeth_ok I1 ea c hm l (PySem.W.callWith_K0 (first := [.ref a]) I1.kIn hm.kp (wpAny_call (run_fnR (us := [.ref a]) (vs := [.ref a]) F hr hx I1 (.cons rfl .nil) q)))
end L2
namespace Den
open PySem L2
end Den
namespace FX
open PySem L2 Den
noncomputable section
variable {K : PySem.W.Frag} {P : Program} {w : World} {mg : Str → Option Value} {base : Heap}
theorem pss_any {X : Cx} {st : List Stmt} : PSs X st (fun D σ H => ∃ t, PSs X st t ∧ t D σ H) := ⟨fun pins s σ H D I h => by
  obtain ⟨t, ht, h⟩ := h
  exact ht.run pins s σ H D I h⟩
def spLaw (K : PySem.W.Frag) : Sp := fun vs H Q _ => ∃ (a : Addr) (ns : List Int), vs = [.ref a] ∧ SqL K H a (ns.map V.int) ∧ ns.length ≤ 63 ∧ ∀ H', Q (.bl true) H'
/-- the slots of the law behind its first statement: the pot alone -/
def potLoc (m : Nat) : Den.Loc := none :: some (.dat .pot) :: List.replicate m none
/-- nothing stands yet -/
def w0 : Wd := ⟨fun _ => none, [], 0⟩
theorem pot_rel {ec : Nat → Addr} {p : Addr} {H' : Hp} {pot : List Int} {m : Nat} {a : Addr} (hp : H' p = some (.lst (pot.map V.int))) : Rel (potCfg K p ec) w0 H' w0 H' (some (.ref a) :: some (.ref p) :: List.replicate m none) (potLoc m) ⟨pot, [], 0⟩ := by
  have key : ∀ (i : Nat) (x : L), (potLoc m)[i]? = some (some x) → i = 1 ∧ x = .dat .pot := fun i x e => by
    match i, e with
    | 0, e => cases e
    | 1, e => cases e; exact ⟨rfl, rfl⟩
    | n + 2, e =>
      have e' : (List.replicate m (none : Option L))[n]? = some (some x) := e
      rw [List.getElem?_replicate] at e'
      split at e' <;> cases e'
  have hs : Sat (potCfg K p ec) w0 ⟨pot, [], 0⟩ H' := ⟨hp, rfl, rfl, .nil, (fun a h => nomatch h), fun j m a h1 h2 => by cases h1⟩
  refine ⟨Stp.refl (fun _ _ z => nomatch z), hs, fun _ _ => rfl, fun a b z => hs.full a b z, by simp [potLoc], fun i x e => ?_, fun i j x y e1 e2 o1 => ?_⟩
  · obtain ⟨rfl, rfl⟩ := key i x e
    exact At.pot
  · obtain ⟨rfl, rfl⟩ := key i x e1
    cases o1
theorem kitCls_at {t : Value} {C : Addr} {b : Bool} (i : PySem.W.isClsIn K C = true) (ty : PySem.W.typeIn K (.ref C) = some (.type "type")) (s : PySem.W.subIn K t (.ref C) = some b) : PySem.W.kitCls K t (.ref C) = some b := by
  have e : ((PySem.W.clsIn K C).isSome && PySem.W.typeIn K (.ref C) == some (.type "type")) = true := by
    rw [ty, show (PySem.W.clsIn K C).isSome = true from i]
    rfl
  unfold PySem.W.kitCls
  simp only [e, if_true]
  exact s
theorem exm_at {t : Value} {C : Addr} {b : Bool} (bp : PySem.W.subIn K (.ref C) (.type "BaseException") = some true) (i : PySem.W.isClsIn K C = true) (ty : PySem.W.typeIn K (.ref C) = some (.type "type")) (s : PySem.W.subIn K t (.ref C) = some b) : PySem.W.exmOne K t (.ref C) = some b := by
  unfold PySem.W.exmOne
  rw [if_pos (by rw [bp]; rfl)]
  exact kitCls_at i ty s
theorem sub_no {n : String} {C : Addr} (vs : List Value) (e : fastBuiltinMro n = some vs) (h : ∀ v ∈ vs, ∃ m, v = .type m) : PySem.W.subIn K (.type n) (.ref C) = some false := by
  show (fastBuiltinMro n).map (fun x => x.contains (Value.ref C)) = _
  rw [e]
  show some (vs.contains (Value.ref C)) = _
  congr 1
  cases hc : vs.contains (Value.ref C) with
  | false => rfl
  | true =>
    have := List.contains_iff_mem.mp hc
    obtain ⟨m, z⟩ := h _ this
    cases z
theorem clsF_at {C : Addr} (cl : Cls K C) (ha : PySem.W.findIn K (.ref C) "__class__" = some (some (.builtin "object.__class__"))) (i : PySem.W.isClsIn K C = true) (ty : PySem.W.typeIn K (.ref C) = some (.type "type")) (hm : PySem.W.mroIn K C (.type "object") = some true) : Den.ClsF K C := by
  have et : PySem.W.typeIn K (.builtin "object.__class__") = some (.type "getset_descriptor") := by
    show PySem.W.pureOf (fastBuiltinType "object.__class__") = _
    decide +kernel
  have kit : ∀ {n : String} (vs : List Value), fastBuiltinMro n = some vs → (∀ v ∈ vs, ∃ m, v = .type m) → PySem.W.kitOne K (.type n) (.ref C) = some false := fun vs e h => by
    unfold PySem.W.kitOne
    rw [if_neg (fun z => by cases (beq_iff_eq.mp z))]
    exact kitCls_at i ty (sub_no vs e h)
  refine ⟨cl, ha, ?_, ?_, hm, ?_, kit [.type "list", .type "object"] (by decide +kernel) ?_, kit [.type "tuple", .type "object"] (by decide +kernel) ?_, kit [.type "int", .type "object"] (by decide +kernel) ?_, kit [.type "bool", .type "int", .type "object"] (by decide +kernel) ?_, kit [.type "str", .type "object"] (by decide +kernel) ?_, kit [.type "NoneType", .type "object"] (by decide +kernel) ?_⟩
  · unfold PySem.W.specialIn
    rw [et]
    show PySem.fastLookup "getset_descriptor" "__get__" = _
    decide +kernel
  · unfold PySem.W.takesIn PySem.W.specialIn
    rw [et]
    have : PySem.W.findIn K (.type "getset_descriptor") "__set__" = some (some (.builtin "getset_descriptor.__set__")) := by
      show PySem.fastLookup "getset_descriptor" "__set__" = _
      decide +kernel
    simp only [Option.bind_some, this]
  · unfold PySem.W.kitOne
    rw [if_pos (by simp)]
  all_goals simp
theorem prop_at {C p g : Addr} {f : Str} {d : Option Addr} {vs : Array Value} {sl : Array (Option Value)} {rest : List Value} (at_ : PySem.W.findIn K (.ref C) f = some (some (.ref p))) (l : K.lookup p = some ⟨.type "property", d, .fields vs, sl⟩) (e : vs.toList = .ref g :: rest) : PropOf K C f p g := by
  have et : PySem.W.typeIn K (.ref p) = some (.type "property") := by
    show (K.lookup p).map (fun x => x.cls) = _
    rw [l]
    rfl
  refine ⟨at_, ?_, ?_, rest, ?_⟩
  · unfold PySem.W.specialIn
    rw [et]
    show PySem.fastLookup "property" "__get__" = _
    decide +kernel
  · unfold PySem.W.takesIn PySem.W.specialIn
    rw [et]
    have : PySem.W.findIn K (.type "property") "__set__" = some (some (.builtin "property.__set__")) := by
      show PySem.fastLookup "property" "__set__" = _
      decide +kernel
    simp only [Option.bind_some, this]
  · unfold PySem.W.recIn
    rw [l]
    show (if ("property" == "property") = true then some vs.toList else none) = _
    rw [if_pos (by decide), e]
def FnIn (K : PySem.W.Frag) (x qual : Str) (st : Stmt) (f : Addr) : Prop := ∃ fd, Fun K x qual st f fd
theorem fnIn_mk {x qual : Str} {st : Stmt} {f : Addr} {oc : Value} {od an : Option Addr} {osl : Array (Option Value)} {kV doc pm cdv ct : Value} (l : K.lookup f = some ⟨oc, od, .func (PySem.W.fnOf x qual (defArgs st) (defBody st) (defScope st) .none kV doc pm an cdv ct), osl⟩) (c : PySem.W.codeIn K cdv qual = true) (k : PySem.W.keepIn K (.ref f) = true) : FnIn K x qual st f := ⟨_, fun_mk (st := st) l c k⟩
end
end FX
namespace Den
open PySem L2
section
variable {X : Cx}
/-- an instance of the class that a local name holds -/
def tMakeV (i : Nat) (C : Addr) (sp : Sp) (E : XK) (t : TA) : TE := fun σ H Q => σ[i]? = some (some (.ref C)) ∧ StX.tMakeR C sp E t σ H Q
theorem pe_makeV {CX : CXT} {k i : Nat} {f C : Addr} {sp : Sp} {E : XK} {x : Str} {e : Expr} {es : List Expr} {t : TA} {p pos : Pos} (M : Mk X.K C f) (F : FnR X.prog X.w X.K X.mg X.base CX k f sp) (hr : Room (k + 1) X.A) (hx : Passes CX X E) (hN : X.N[i]? = some x) (hv : Vis X.env.scope x) (ha : PA X (e :: es) t)
    (hd : (x == ("__debug__" : Str)) = false := by decide) (hcd : (x == ("__classdict__" : Str)) = false := by decide)
    (he : starEach (e :: es) X.env = (false, eval e X.env) :: starEach es X.env := by rfl) (hpl : (backTo pos (starEach es X.env)).any (·.1) = false := by rfl) : PE X (.Call (.Name x p) (e :: es) [] pos) (tMakeV i C sp E t) := by
  refine ⟨fun pins s σ H Q I h => ?_⟩
  obtain ⟨hs, h⟩ := h
  refine wpAny_Call_Name_kw (thn ((pe_var (pos := p) (i := i) hN hv hd hcd).run pins s σ H (fun v H1 => v = .ref C ∧ H1 = H) I ⟨.ref C, hs, rfl, rfl⟩) fun u s1 ⟨v, H1, I1, r1, ev, eH⟩ => ?_)
  subst ev
  rw [eH] at I1
  cases r1
  exact PySem.W.callWith_K (h₀ := X.base) I.ok.mod.kin M.kp (thn (ha.run pos pins s1 σ H _ I1 h) fun us s2 ⟨vs, H2, I2, r, q⟩ => ⟨I2.kIn, StX.run_makeR M F hr hx I2 r q⟩) he hpl
end
section
variable {c : Cfg} {E : St → XK}
/-- C.m(..), m a method of the class -/
def mcmeth (C : Addr) (f : RF) (b : M (List D)) : M D := mbind b fun ys _ p => f (.cls C :: ys) p
theorem se_cmeth {C : Addr} {f : RF} {tb : TA} {b : M (List D)} (hb : SA c E tb b) : SE c E (fun σ H Q => ClX.tCMeth C (spD c f) (E σ) (tC (.ref C)) tb σ H Q) (mcmeth C f b) := by
  intro G0 H0 G H σ l pot r Q post
  refine ⟨rfl, ?_⟩
  refine Sn.go hb r post fun ys dys p2 G2 H2 s2 r2 hy post2 => ?_
  exact spD_of r2 (AtL.cons (At.cls C) hy) post2
def mmakeV (i : Nat) (C : Addr) (f : RI) (a : M (List D)) : M D := fun l p => match l[i]? with
  | some (some (.dat (.cls C'))) => if C' = C then mmake C f a l p else .bad
  | _ => .bad
theorem se_makeV {i : Nat} {C : Addr} {f : RI} {E' : XK} {t : TA} {a : M (List D)} (ha : SA c (fun _ => E') t a) : SE c (fun _ => E') (tMakeV i C (spI c C f) E' t) (mmakeV i C f a) := by
  intro G0 H0 G H σ l pot r Q post
  unfold mmakeV at post
  split at post
  · rename_i C' e
    split at post
    · rename_i z
      subst z
      have a1 := r.slot i _ e
      refine ⟨?_, se_make ha G0 H0 G H σ l pot r Q post⟩
      cases e2 : σ[i]? with
      | none => rw [e2] at a1; exact a1.elim
      | some o =>
        cases o with
        | none => rw [e2] at a1; exact a1.elim
        | some v =>
          rw [e2] at a1
          have a2 : At c.P G v (.cls C') := a1
          cases a2
          rfl
    · exact post.elim
  · exact post.elim
/-- a def whose last parameter has a default -/
def denD (n m : Nat) (d : D) (s : MS) : RF := fun ds p => if ds.length + 1 = n then denF n m s (ds ++ [d]) p else denF n m s ds p
variable {P : Program} {w : World} {mg : Str → Option Value} {base : Heap}
theorem fn_ssD {x qual : Str} {st : Stmt} {f : Addr} {fd : FuncData} {N ps : List Str} {k : Nat} {s : MS} {dv : V} {dd : D} (F : FunD c.K x qual (defArgs st) (defBody st) (defScope st) [dv] [] f fd) (S : FnScope N ps (defScope st)) (hd : ∀ P G, At P G dv dd)
    (hb : ∀ (T : Addr) (kV doc pm : Value) (an : Option Addr) (cdv ct : Value) (us its : List Value), us.length = ps.length → its.length = 1 →
      ∃ k, bindArgs (PySem.W.fnOf x qual (defArgs st) (defBody st) (defScope st) (.ref T) kV doc pm an cdv ct) ⟨us, []⟩ = seqItems? (.ref T) >>= k ∧ k (some its.toArray) = pure (ps.zip us))
    (hb1 : ∀ (T : Addr) (kV doc pm : Value) (an : Option Addr) (cdv ct : Value) (us its : List Value), us.length + 1 = ps.length → its.length = 1 →
      ∃ k, bindArgs (PySem.W.fnOf x qual (defArgs st) (defBody st) (defScope st) (.ref T) kV doc pm an cdv ct) ⟨us, []⟩ = seqItems? (.ref T) >>= k ∧ k (some its.toArray) = pure (ps.zip (us ++ its)))
    (hp : 0 < ps.length)
    (hbody : ∀ (cdv : Value) (A : Around) (outer : List Env) (sh : Shared) (H : Hp) (E' : XK), Room k (A.deeper (PyProof.Rows.envOfC qual (defScope st) sh.heap.objs.size f cdv)) →
      ∃ t, PSs (cxOf (L2.CX P w) P w c.K mg base N qual (defScope st) f cdv A outer sh H E') (defBody st) t ∧ SS c (fun _ => E') t s) :
    FnR P w c.K mg base (L2.CX P w) (k + 1) f (spD c (denD ps.length N.length dd s)) := by
  have lenOf : ∀ vs H Q E, spD c (denF ps.length N.length s) vs H Q E → vs.length = ps.length := fun vs H Q E h => by
    obtain ⟨G, ds, pot, a, gh, gP, hp, h⟩ := h
    rw [AtL.length a]
    by_cases z : ds.length = ps.length
    · exact z
    · unfold denF at h
      rw [if_neg z] at h
      exact h.elim
  have ok : FnOk P w c.K mg base (L2.CX P w) (k + 1) f fd ps (spD c (denF ps.length N.length s)) := by
    refine F.ok S lenOf (fun cdv A outer sh H vs Q E hr h => ?_)
    have hl := lenOf vs H Q E h
    obtain ⟨G, ds, pot, a, gh, gP, hp, h⟩ := h
    obtain ⟨t, ht, hs⟩ := hbody cdv A outer sh H E hr
    refine ⟨t, ht, hs G H G H _ _ _ (start_rel a gh gP hp) _ ?_⟩
    exact post_fn (f := fun _ _ => .bad) ((AtL.length a).symm.trans hl) h
  obtain ⟨us1, v1, B1⟩ := FunD.binds1 (ps := ps) F (ps.length - 1) 0 (by simp) (by simp; omega) (fun T kV doc pm an cdv ct us its h1 h2 => by rw [List.drop_zero]; exact hb1 T kV doc pm an cdv ct us its (by omega) h2)
  obtain ⟨us0, v0, B0⟩ := FunD.binds1 (ps := ps) F ps.length 1 (by simp) (by simp) (fun T kV doc pm an cdv ct us its h1 h2 => by
    obtain ⟨k, e1, e2⟩ := hb T kV doc pm an cdv ct us its h1 h2
    have h2' : its.length = 1 := h2
    refine ⟨k, e1, ?_⟩
    rw [e2, List.drop_eq_nil_of_le (by omega), List.append_nil])
  intro A outer sh H us vs Q E hr e0 r hs
  obtain ⟨G, ds, pot, a, gh, gP, hp, h⟩ := hs
  have hlen := AtL.length a
  by_cases z : ds.length + 1 = ps.length
  · have ez : denD ps.length N.length dd s ds pot = denF ps.length N.length s (ds ++ [dd]) pot := if_pos z
    rw [ez] at h
    refine ok.raw B1 v1 A outer sh H us vs Q E hr e0 r ?_
    exact ⟨G, ds ++ [dd], pot, AtL.append a (.cons (hd _ _) .nil), gh, gP, hp, h⟩
  · have ez : denD ps.length N.length dd s ds pot = denF ps.length N.length s ds pot := if_neg z
    rw [ez] at h
    refine ok.raw B0 v0 A outer sh H us vs Q E hr e0 r ?_
    refine ⟨G, ds, pot, ?_, gh, gP, hp, h⟩
    show AtL c.P G (vs ++ []) ds
    rw [List.append_nil]
    exact a
end
section
variable {c : Cfg} {E : St → XK}
@[simp] theorem mcmeth_ev (C : Addr) (f : RF) (b : M (List D)) (l : Loc) (p : S) : mcmeth C f b l p = (b l p).bind fun ys q => f (.cls C :: ys) q := rfl
theorem mmakeV_ev {i : Nat} {C : Addr} {f : RI} {a : M (List D)} {l : Loc} {p : S} (h : l[i]? = some (some (.dat (.cls C)))) : mmakeV i C f a l p = mmake C f a l p := by
  unfold mmakeV
  rw [h]
  exact if_pos rfl
end
end Den
namespace FX
open PySem L2 Den
variable {K : PySem.W.Frag}
def FnDIn (K : PySem.W.Frag) (x qual : Str) (st : Stmt) (dv : V) (f : Addr) : Prop := ∃ fd, FunD K x qual (defArgs st) (defBody st) (defScope st) [dv] [] f fd
theorem fnDIn_mk {x qual : Str} {st : Stmt} {dv : V} {f T : Addr} {oc : Value} {od an : Option Addr} {osl : Array (Option Value)} {kV doc pm cdv ct u : Value} {oT : Obj} {n : Nat}
    (l : K.lookup f = some ⟨oc, od, .func (PySem.W.fnOf x qual (defArgs st) (defBody st) (defScope st) (.ref T) kV doc pm an cdv ct), osl⟩) (c : PySem.W.codeIn K cdv qual = true) (k : PySem.W.keepIn K (.ref f) = true)
    (lT : K.lookup T = some oT) (dT : oT.data = .seq #[u] n) (hu : RelV dv u) : FnDIn K x qual st dv f :=
  ⟨_, ⟨oc, od, .ref T, kV, doc, pm, an, cdv, ct, osl, rfl, l, c, .inr ⟨by simp, T, oT, [u], n, rfl, lT, dT, .cons hu .nil⟩, .inl rfl⟩, k⟩
theorem cread_at {C : Addr} (h1 : PySem.W.nsIn K cStatics "thirdparty.any" = some none) (h2 : PySem.W.typeIn K (.ref C) = some (.type "type")) : ClX.CRead K C (.type "type") := by
  have f1 : PySem.W.findIn K (.type "type") "__getattribute__" = some (some (.builtin "type.__getattribute__")) := by
    show PySem.fastLookup "type" "__getattribute__" = _
    decide +kernel
  have f2 : PySem.W.subIn K (.type "type") (.type "type") = some true := by
    show (fastBuiltinMro "type").map (fun x => x.contains (Value.type "type")) = _
    decide +kernel
  refine ⟨?_, ?_⟩
  · unfold PySem.W.readsIn
    rw [h1, h2, f1, f2]
    have f3 : (if onTheHeap (Value.type "type") = true then PySem.W.findIn K (Value.type "type") (Str.ofString "__getattr__") else some none).isSome = true := by
      rw [if_neg (by decide +kernel)]
      rfl
    rw [f3]
    decide +kernel
  · unfold PySem.W.specialIn
    rw [h2]
    exact f1
theorem cmet_at {C p g : Addr} {f : Str} {d : Option Addr} {vs : Array Value} {sl : Array (Option Value)} {rest : List Value} (h0 : PySem.W.findIn K (.type "type") f = some none) (at_ : PySem.W.findIn K (.ref C) f = some (some (.ref p))) (l : K.lookup p = some ⟨.type "classmethod", d, .fields vs, sl⟩) (e : vs.toList = .ref g :: rest) (hf : PySem.W.fnIn K g = true) : ClX.CMet K C (.type "type") f p g := by
  have et : PySem.W.typeIn K (.ref p) = some (.type "classmethod") := by
    show (K.lookup p).map (fun x => x.cls) = _
    rw [l]
    rfl
  have eg : PySem.W.specialIn K (.ref p) "__get__" = some (some (.builtin "classmethod.__get__")) := by
    unfold PySem.W.specialIn
    rw [et]
    show PySem.fastLookup "classmethod" "__get__" = _
    decide +kernel
  refine ⟨?_, ⟨rest, ?_⟩, hf⟩
  · unfold PySem.W.findCls
    rw [h0]
    simp only [Option.bind_some, at_, et, eg]
    rfl
  · unfold PySem.W.recIn
    rw [l]
    show (if ("classmethod" == "classmethod") = true then some vs.toList else none) = _
    rw [if_pos (by decide), e]
end FX
namespace DenM
open PySem PySem.Spec PyProof.Rows
section
variable {prog : Program} {w : World} {A : Around} {E : Value → Shared → Prop} {s : Shared} {l : Addr} {xs : Array (Int × Tok)} {d : Value}
theorem moved_same {wr : List Addr} {s s' : Shared} (m : Moved wr (fun a b => b = a) s s') : s' = { s with heap := s'.heap, toks := s'.toks } := by
  obtain ⟨h, g, dd, o, t⟩ := m
  cases s'
  cases s
  cases g
  cases dd
  cases o
  rfl
theorem min_listD {Q : Value → Shared → Prop} (hh : A.handled = none) (hl : s.heap.IsList l (intItems xs))
    (h0 : xs.size = 0 → ∀ h' tk, (∀ b o, s.heap.get? b = some o → h'.get? b = some o) → Q d { s with heap := h', toks := tk })
    (h : 0 < xs.size → ∀ v h' tk, (intItems xs)[argBest (fun i j => decide (numAt xs i < numAt xs j)) (xs.size - 1)]? = some v → (∀ b o, s.heap.get? b = some o → h'.get? b = some o) → Q v { s with heap := h', toks := tk }) :
    wpAny (model prog w) A (call (.builtin "min") [.ref l] [(Str.ofString "default", d)]) Q E s := by
  refine call_min_walkD (iter_intList hl fun s₂ e st hfp hlI => ?_)
  subst e
  refine ⟨_, _, _, _, _, _, _, s.heap, _, rfl, (Walks.list (A := A.in1) hh _ l hlI (intItems xs)).toS, st, hfp, (fun b o e hm => ?_), (fun b o e => Heap.get?_push_of_some _ e), fun hn s' hm => ?_, fun hn => ⟨fun i j vi vj s' Q E _ hi hj hq => CmpOf.ints_lt (numAt xs) (fun _ _ => intItems_at) i j vi vj s' Q E hi hj hq, fun v s' hP hm => ?_⟩⟩
  · rw [List.mem_singleton.mp hm] at e
    exact absurd (Heap.lt_size e) (Nat.lt_irrefl _)
  · rw [moved_same hm]
    exact h0 (by simpa [intItems] using hn) s'.heap s'.toks (old_kept hm.heap)
  · rw [moved_same hm]
    exact h (by simpa [intItems] using hn) v s'.heap s'.toks (by simpa [intItems] using hP) (old_kept hm.heap)
theorem max_listD {Q : Value → Shared → Prop} (hh : A.handled = none) (hl : s.heap.IsList l (intItems xs))
    (h0 : xs.size = 0 → ∀ h' tk, (∀ b o, s.heap.get? b = some o → h'.get? b = some o) → Q d { s with heap := h', toks := tk })
    (h : 0 < xs.size → ∀ v h' tk, (intItems xs)[argBest (fun i j => decide (numAt xs i > numAt xs j)) (xs.size - 1)]? = some v → (∀ b o, s.heap.get? b = some o → h'.get? b = some o) → Q v { s with heap := h', toks := tk }) :
    wpAny (model prog w) A (call (.builtin "max") [.ref l] [(Str.ofString "default", d)]) Q E s := by
  refine call_max_walkD (iter_intList hl fun s₂ e st hfp hlI => ?_)
  subst e
  refine ⟨_, _, _, _, _, _, _, s.heap, _, rfl, (Walks.list (A := A.in1) hh _ l hlI (intItems xs)).toS, st, hfp, (fun b o e hm => ?_), (fun b o e => Heap.get?_push_of_some _ e), fun hn s' hm => ?_, fun hn => ⟨fun i j vi vj s' Q E _ hi hj hq => CmpOf.ints_gt (numAt xs) (fun _ _ => intItems_at) i j vi vj s' Q E hi hj hq, fun v s' hP hm => ?_⟩⟩
  · rw [List.mem_singleton.mp hm] at e
    exact absurd (Heap.lt_size e) (Nat.lt_irrefl _)
  · rw [moved_same hm]
    exact h0 (by simpa [intItems] using hn) s'.heap s'.toks (old_kept hm.heap)
  · rw [moved_same hm]
    exact h (by simpa [intItems] using hn) v s'.heap s'.toks (by simpa [intItems] using hP) (old_kept hm.heap)
theorem min_rawD {its : List Value} {ns : List Int} {Q : Value → Shared → Prop} (hh : A.handled = none) (hl : s.heap.IsList l its.toArray) (hi : IntsAre its ns)
    (h0 : ns = [] → ∀ h' tk, (∀ b o, s.heap.get? b = some o → h'.get? b = some o) → Q d { s with heap := h', toks := tk })
    (h : ∀ h' tk M t', (∀ b o, s.heap.get? b = some o → h'.get? b = some o) → M ∈ ns → (∀ a, a ∈ ns → M ≤ a) → Q (.int M t') { s with heap := h', toks := tk }) : wpAny (model prog w) A (call (.builtin "min") [.ref l] [(Str.ofString "default", d)]) Q E s := by
  obtain ⟨xs, e⟩ := hi.allInts.items
  have hn : numsOf (intItems xs).toList = ns := by rw [← e]; exact hi.numsOf
  rw [nums_intItems] at hn
  subst hn
  rw [e] at hl
  refine min_listD hh hl (fun hz => h0 ?_) fun hz v h' tk hv hk => ?_
  · have : xs = #[] := Array.eq_empty_of_size_eq_zero hz
    subst this
    rfl
  · obtain ⟨t, rfl⟩ := intItems_at hv
    obtain ⟨h1, h2⟩ := argBest_lt (numAt xs) (xs.size - 1)
    refine h h' tk _ t hk ?_ fun a ha => ?_
    · rw [numAt_eq]; exact PySem.getD_mem (by rw [List.length_map, Array.length_toList]; omega)
    · obtain ⟨j, hj, rfl⟩ := mem_getD ha
      rw [List.length_map, Array.length_toList] at hj
      rw [← numAt_eq]; exact h2 j (by omega)
theorem max_rawD {its : List Value} {ns : List Int} {Q : Value → Shared → Prop} (hh : A.handled = none) (hl : s.heap.IsList l its.toArray) (hi : IntsAre its ns)
    (h0 : ns = [] → ∀ h' tk, (∀ b o, s.heap.get? b = some o → h'.get? b = some o) → Q d { s with heap := h', toks := tk })
    (h : ∀ h' tk M t', (∀ b o, s.heap.get? b = some o → h'.get? b = some o) → M ∈ ns → (∀ a, a ∈ ns → a ≤ M) → Q (.int M t') { s with heap := h', toks := tk }) : wpAny (model prog w) A (call (.builtin "max") [.ref l] [(Str.ofString "default", d)]) Q E s := by
  obtain ⟨xs, e⟩ := hi.allInts.items
  have hn : numsOf (intItems xs).toList = ns := by rw [← e]; exact hi.numsOf
  rw [nums_intItems] at hn
  subst hn
  rw [e] at hl
  refine max_listD hh hl (fun hz => h0 ?_) fun hz v h' tk hv hk => ?_
  · have : xs = #[] := Array.eq_empty_of_size_eq_zero hz
    subst this
    rfl
  · obtain ⟨t, rfl⟩ := intItems_at hv
    obtain ⟨h1, h2⟩ := argBest_gt (numAt xs) (xs.size - 1)
    refine h h' tk _ t hk ?_ fun a ha => ?_
    · rw [numAt_eq]; exact PySem.getD_mem (by rw [List.length_map, Array.length_toList]; omega)
    · obtain ⟨j, hj, rfl⟩ := mem_getD ha
      rw [List.length_map, Array.length_toList] at hj
      rw [← numAt_eq]; exact h2 j (by omega)
end
end DenM
namespace L2
open PySem PySem.Spec PyProof.Rows
section
variable {X : Cx}
def rMinD (K : PySem.W.Frag) : List V → List V → Hp → VK → Prop := fun vs zs H Q => ∃ (a : Addr) (ns : List Int) (d : V), vs = [V.ref a] ∧ zs = [d] ∧ SqL K H a (ns.map V.int) ∧ (ns = [] → Q d H) ∧ (0 < ns.length → ∀ m, m ∈ ns → (∀ y, y ∈ ns → m ≤ y) → Q (.int m) H)
def rMaxD (K : PySem.W.Frag) : List V → List V → Hp → VK → Prop := fun vs zs H Q => ∃ (a : Addr) (ns : List Int) (d : V), vs = [V.ref a] ∧ zs = [d] ∧ SqL K H a (ns.map V.int) ∧ (ns = [] → Q d H) ∧ (0 < ns.length → ∀ m, m ∈ ns → (∀ y, y ∈ ns → y ≤ m) → Q (.int m) H)
theorem cr_minD (hc : X.calm = true) : CallRK X (.builtin "min") ["default"] (rMinD X.K) := by
  intro pins s σ H vs zs us ws Q I r rz h
  obtain ⟨a, ns, d, rfl, rfl, hs, q0, q⟩ := h
  obtain ⟨its, rv, hl, _⟩ := I.list hs
  rw [Vals.ref1 r]
  cases rz with
  | cons rd t =>
    cases t
    refine DenM.min_rawD (I.ok.hd hc) hl.isList rv.ints (fun e h' tk hk => ⟨d, H, I.kept hk, rd, q0 e⟩) fun h' tk m t' hk h1 h2 => ⟨.int _, H, I.kept hk, ⟨_, rfl⟩, q (List.length_pos_of_mem h1) m h1 h2⟩
theorem cr_maxD (hc : X.calm = true) : CallRK X (.builtin "max") ["default"] (rMaxD X.K) := by
  intro pins s σ H vs zs us ws Q I r rz h
  obtain ⟨a, ns, d, rfl, rfl, hs, q0, q⟩ := h
  obtain ⟨its, rv, hl, _⟩ := I.list hs
  rw [Vals.ref1 r]
  cases rz with
  | cons rd t =>
    cases t
    refine DenM.max_rawD (I.ok.hd hc) hl.isList rv.ints (fun e h' tk hk => ⟨d, H, I.kept hk, rd, q0 e⟩) fun h' tk m t' hk h1 h2 => ⟨.int _, H, I.kept hk, ⟨_, rfl⟩, q (List.length_pos_of_mem h1) m h1 h2⟩
end
end L2
namespace Den
open PySem L2
section
variable {c : Cfg} {E : St → XK}
theorem AtL.reverse {P : Addr} {G : Wd} : ∀ {vs : List V} {ds : List D}, AtL P G vs ds → AtL P G vs.reverse ds.reverse
  | _, _, .nil => .nil
  | _, _, .cons h t => by
    rw [List.reverse_cons, List.reverse_cons]
    exact AtL.append (AtL.reverse t) (.cons h .nil)
/-- a built-in with keywords that lays nothing -/
structure SNK (c : Cfg) (r : List V → List V → Hp → VK → Prop) (f : List D → List D → Option D) : Prop where
  run : ∀ (G : Wd) (H : Hp) (xs zs : List V) (ds es : List D) (d : D), Ex G H → AtL c.P G xs ds → AtL c.P G zs es → f ds es = some d → ∃ v, At c.P G v d ∧ ∀ Q : VK, Q v H → r xs zs H Q
def mckw (f : List D → List D → Option D) (a b : M (List D)) : M D := mbind a fun xs => mbind b fun zs => mlift (f xs zs)
theorem se_ckw {r : List V → List V → Hp → VK → Prop} {f : List D → List D → Option D} {ta tb : TA} {a b : M (List D)} (h : SNK c r f) (ha : SA c E ta a) (hb : SA c E tb b) : SE c E (tCKw r ta tb) (mckw f a b) := by
  intro G0 H0 G H σ l pot rl Q post
  refine Sn.go ha rl post fun x dx p G1 H1 s1 r1 hx post1 => ?_
  refine Sn.go hb r1 post1 fun y dy p2 G2 H2 s2 r2 hy post2 => ?_
  cases e : f dx dy with
  | none => rw [e] at post2; exact post2.elim
  | some d =>
    rw [e] at post2
    obtain ⟨v, hv, k⟩ := h.run G2 H2 x y dx dy d r2.stp.gh (AtL.mono s2.gg hx) hy e
    exact k Q (Post.ok post2 r2 hv)
def fMinD : List D → List D → Option D
  | [.lst ds], [d] => (intsOf ds).bind fun ns => match ns with
    | [] => some d
    | n :: ns => some (.int (minL n ns))
  | _, _ => none
def fMaxD : List D → List D → Option D
  | [.lst ds], [d] => (intsOf ds).bind fun ns => match ns with
    | [] => some d
    | n :: ns => some (.int (maxL n ns))
  | _, _ => none
theorem sn_minD : SNK c (rMinD c.K) fMinD := ⟨fun G H xs zs ds es d gh hx hz e => by
  unfold fMinD at e
  split at e
  · obtain ⟨x, rfl, hx1⟩ := atl1 hx
    obtain ⟨z, rfl, hz1⟩ := atl1 hz
    obtain ⟨p, vs, rfl, h, a⟩ := at_lst hx1
    rename_i es d0
    cases e1 : intsOf es with
    | none => rw [e1] at e; cases e
    | some ns =>
      rw [e1] at e
      have ev := ints_at a e1
      subst ev
      cases ns with
      | nil =>
        cases e
        exact ⟨z, hz1, fun Q q => ⟨p, [], z, rfl, rfl, .inl (.inl (gh _ _ h)), fun _ => q, fun z => absurd z (by simp)⟩⟩
      | cons n ns =>
        cases e
        refine ⟨.int _, .int _, fun Q q => ⟨p, n :: ns, z, rfl, rfl, .inl (.inl (gh _ _ h)), (fun e0 => nomatch e0), fun _ m hm hl => ?_⟩⟩
        have h1 := hl _ (minL_mem ns n)
        have h2 : minL n ns ≤ m := by
          rcases List.mem_cons.mp hm with rfl | hm
          · exact (minL_le ns m).1
          · exact (minL_le ns n).2 m hm
        rw [Int.le_antisymm h1 h2]
        exact q
  · cases e⟩
theorem sn_maxD : SNK c (rMaxD c.K) fMaxD := ⟨fun G H xs zs ds es d gh hx hz e => by
  unfold fMaxD at e
  split at e
  · obtain ⟨x, rfl, hx1⟩ := atl1 hx
    obtain ⟨z, rfl, hz1⟩ := atl1 hz
    obtain ⟨p, vs, rfl, h, a⟩ := at_lst hx1
    rename_i es d0
    cases e1 : intsOf es with
    | none => rw [e1] at e; cases e
    | some ns =>
      rw [e1] at e
      have ev := ints_at a e1
      subst ev
      cases ns with
      | nil =>
        cases e
        exact ⟨z, hz1, fun Q q => ⟨p, [], z, rfl, rfl, .inl (.inl (gh _ _ h)), fun _ => q, fun z => absurd z (by simp)⟩⟩
      | cons n ns =>
        cases e
        refine ⟨.int _, .int _, fun Q q => ⟨p, n :: ns, z, rfl, rfl, .inl (.inl (gh _ _ h)), (fun e0 => nomatch e0), fun _ m hm hl => ?_⟩⟩
        have h1 := hl _ (maxL_mem ns n)
        have h2 : m ≤ maxL n ns := by
          rcases List.mem_cons.mp hm with rfl | hm
          · exact (le_maxL ns m).1
          · exact (le_maxL ns n).2 m hm
        rw [Int.le_antisymm h2 h1]
        exact q
  · cases e⟩
def fRev2 : D → Option (List D)
  | .lst ds => some (ds.take (ds.length - 1)).reverse
  | _ => none
def mrev2 (a : M D) : M (List D) := mbind a fun x => mlift (fRev2 x)
/-- a new list by cases -/
def mifN (t : M Bool) (a b : M (List D)) : M (List D) := mbind t fun x => if x = true then a else b
@[simp] theorem mckw_ev (f : List D → List D → Option D) (a b : M (List D)) (l : Loc) (p : S) : mckw f a b l p = (a l p).bind fun xs p' => (b l p').bind fun zs p'' => mlift (f xs zs) l p'' := rfl
@[simp] theorem mrev2_ev (a : M D) (l : Loc) (p : S) : mrev2 a l p = (a l p).bind fun y p' => mlift (fRev2 y) l p' := rfl
@[simp] theorem mifN_ev (t : M Bool) (a b : M (List D)) (l : Loc) (p : S) : mifN t a b l p = (t l p).bind fun x p' => (if x = true then a else b) l p' := rfl
end
end Den
namespace PL
open PySem L2 Den
noncomputable section
def b_check_plain_1 : MS := (sdrop (mcall D_check_whole (acons (mvar 0) (acons (mvar 1) anil))))
def b_check_plain_2 : MS := (sdrop (mcall D_check_least (acons (mvar 0) (acons (mret (D.int 1)) anil))))
def b_check_plain_3 : MS := (sdrop (mcall D_check_one_or_two (acons (mvar 1) anil)))
def b_check_plain_4 : MS := (sdrop (mcall D_check_most (acons (op2 fAdd (mvar 0) (mvar 2)) (acons (mret (D.int 60)) anil))))
def dn_check_plain : MS := (sseq b_check_plain_1
    (sseq b_check_plain_2
    (sseq b_check_plain_3
    b_check_plain_4)))
def D_check_plain : RF := denF 3 3 (dn_check_plain)
def b_Web_line_1 : MS := (sdrop (mcall D_check_plain (acons (mvar 1) (acons (mvar 2) (acons (mret (D.int 1)) anil)))))
def c_Web_line_1 : M (List D) := (mcomp (mbind (acons (mret (D.int 1)) (acons (mvar 1) anil)) fun x => mlift (rng2 x)) 4 mtrue (mfreeze (mshort (acons (op2 fSub (mvar 4) (mret (D.int 1))) (acons (op2 fAdd (mvar 4) (mret (D.int 1))) anil)))))
def b_Web_line_3 : MS := (sasg (mfreeze (mshort (acons (mfreeze (mshort anil)) (astar (mvar 3) (acons (mfreeze (mshort anil)) anil))))) (gset 5))
def b_Web_line_4 (A : CA) : MS := (sret (mmakeV 0 A.Web (D_Web_init_k09 A) (acons (mvar 5) (acons (mvar 5) (acons (op2 fRep (mfreeze (mshort (acons (mvar 2) anil))) (op2 fAdd (mvar 1) (mret (D.int 1)))) (acons (op2 fCat (mfreeze (mshort (acons (mtupd (acons (mret (D.str "chips")) (acons (mret (D.int 0)) anil))) anil))) (op2 fRep (mfreeze (mshort (acons (mret D.non) anil))) (mvar 1))) anil))))))
def dn_Web_line (A : CA) : MS := (sseq b_Web_line_1
    (sseq (sasg (mfreeze c_Web_line_1) (gset 3))
    (sseq b_Web_line_3
    (b_Web_line_4 A))))
def D_Web_line (A : CA) : RF := denD 3 6 (D.int 1) (dn_Web_line A)
end
end PL
namespace PL
open PySem L2 Den
noncomputable section
end
end PL
namespace L2
open PySem PySem.Spec PyProof.Rows
section
variable {X : Cx} {CX : CXT} {k n : Nat} {f : Addr} {fd : FuncData} {ps ks : List Str} {sp : Sp} {E : St → XK} {x : Str} {p pos : Pos} {e : Expr} {es : List Expr} {kws : List Keyword} {t tk : TA} {gV : List V → List V → List V}
end
section
variable {K : PySem.W.Frag} {x qual : Str} {params : Arguments} {body : List Stmt} {scope : Scope} {dv kv : V} {kn : Str} {f : Addr} {fd : FuncData} {ps : List Str}
end
end L2
namespace Den
open PySem L2
section
variable {c : Cfg} {E : St → XK}
/-- f(.., k = v): mid stands for the defaults between them -/
def mcallK (f : RF) (n m : Nat) (mid : List D) (a b : M (List D)) : M D := mbind a fun xs => mbind b fun zs _ p => if xs.length = n ∧ zs.length = m then f (xs ++ mid ++ zs) p else .bad
variable {P : Program} {w : World} {mg : Str → Option Value} {base : Heap}
@[simp] theorem mcallK_ev (f : RF) (n m : Nat) (mid : List D) (a b : M (List D)) (l : Loc) (p : S) : mcallK f n m mid a b l p = (a l p).bind fun xs q => (b l q).bind fun zs q2 => if xs.length = n ∧ zs.length = m then f (xs ++ mid ++ zs) q2 else .bad := rfl
end
end Den
namespace FX
open PySem L2 Den
variable {K : PySem.W.Frag}
end FX
namespace PL
open PySem L2 Den
noncomputable section
end
end PL
namespace Den
open PySem L2
section
variable {c : Cfg} {E : St → XK}
end
end Den
namespace PL
open PySem L2 Den
noncomputable section
end
end PL
namespace ClX
open PySem PySem.Spec PyProof.Rows L2
section
variable {X : Cx} {CX : CXT} {k : Nat} {C g : Addr} {mc : Value} {sp : Sp} {E : XK} {o e : Expr} {es : List Expr} {m : Str} {pos apos : Pos} {ta : TE} {t : TA} {pl : Sem Bool}
end
end ClX
namespace Den
open PySem L2
section
variable {c : Cfg} {E : St → XK}
end
end Den
namespace Den
open PySem L2
section
variable {c : Cfg} {E : St → XK}
/-- x(..), x an instance of C, by its __call__ -/
def insI (C : Addr) : D → Option D
  | .ins C' ns ds => if C' = C then some (.ins C' ns ds) else none
  | _ => none
def mcallO (C : Addr) (f : RF) (a : M D) (b : M (List D)) : M D := mbind a fun d => mbind (mlift (insI C d)) fun x => mbind b fun ys _ p => f (x :: ys) p
@[simp] theorem mcallO_ev (C : Addr) (f : RF) (a : M D) (b : M (List D)) (l : Loc) (p : S) : mcallO C f a b l p = (a l p).bind fun d p' => (mlift (insI C d) l p').bind fun x p'' => (b l p'').bind fun ys q => f (x :: ys) q := rfl
end
end Den
namespace FX
open PySem L2 Den
variable {K : PySem.W.Frag}
end FX
namespace L2
open PySem PySem.Spec PyProof.Rows
def tMethRS (C : Addr) (m : Str) (sp : Sp) (E : St → XK) (ta : TE) (t : TA) : TE := fun σ H Q => tMethR C m sp (E σ) ta t σ H Q
theorem pe_methRS {X : Cx} {CX : CXT} {k : Nat} {C f : Addr} {m : Str} {sp : Sp} {E : St → XK} {o e : Expr} {es : List Expr} {ta : TE} {t : TA} {apos pos : Pos} {pl : Sem Bool} (he : PE X o ta) (c : Cls X.K C) (hm : Meth X.K C m f)
    (F : FnR X.prog X.w X.K X.mg X.base CX k f sp) (hr : Room k X.A) (hx : ∀ σ, PassesAt CX X σ (E σ)) (ha : PA X (e :: es) t)
    (hst : starEach (e :: es) X.env = (false, eval e X.env) :: starEach es X.env := by rfl) (hpl : (backTo pos (starEach es X.env)).any (·.1) = false := by rfl)
    (ht : eval (.Call (.Attribute o m apos) (e :: es) [] pos) X.env = (do
      let ov ← eval o X.env
      standAt apos.atName
      let (f, first) ← holding [ov] (getMethod ov m pl)
      callWith pos f first (backTo pos (starEach (e :: es) X.env)) (backToKw pos (keywordEach [] X.env))) := by rfl) :
    PE X (.Call (.Attribute o m apos) (e :: es) [] pos) (tMethRS C m sp E ta t) := by
  refine ⟨fun pins s σ H Q I h => ?_⟩
  refine PySem.W.methodCall_KW (pl := pl) (thn (he.run pins s σ H _ I h) fun u s1 ⟨x, H1, I1, rx, a, dx, fs, ex, ea, l, q⟩ => ?_) ht
  subst ex
  obtain rfl : u = Value.ref a := rx
  refine getmeth_ok I1 ea c hm l ?_
  refine PySem.W.callWith_K (first := [.ref a]) (h₀ := X.base) I.ok.mod.kin hm.kp (thn (ha.run pos pins s1 σ H1 _ I1 q) fun us s2 ⟨vs, H2, I2, r, q2⟩ => ⟨I2.kIn, ?_⟩) hst hpl
  exact Den.run_fnRS (us := .ref a :: us) (vs := .ref a :: vs) F hr (hx σ) I2 (.cons rfl r) q2
end L2
namespace StX
open PySem PySem.Spec PyProof.Rows L2
end StX
namespace Den
open PySem L2
section
variable {c : Cfg} {E : St → XK}
end
end Den
namespace Den
open PySem L2
/-- one thing more in the world -/
def Wd.mor (G : Wd) (q : Addr) : Wd := ⟨G.hp, G.ps ++ [q], G.ver + 1⟩
/-- a change -/
def Wd.bum (G : Wd) : Wd := ⟨G.hp, G.ps, G.ver + 1⟩
def S.mor (p : S) (m : MO) : S := ⟨p.pot, p.st ++ [m], p.ver + 1⟩
def S.put (p : S) (j : Nat) (m : MO) : S := ⟨p.pot, p.st.set j m, p.ver + 1⟩
section
variable {c : Cfg} {E : St → XK}
theorem Ew.mor {G : Wd} {q : Addr} : Ew G (G.mor q) := ⟨Ex.refl _, fun j a e => by
  show (G.ps ++ [q])[j]? = some a
  rw [List.getElem?_append_left (List.getElem?_eq_some_iff.mp e).1]; exact e⟩
theorem Ew.bum {G : Wd} : Ew G G.bum := ⟨Ex.refl _, fun _ _ h => h⟩
/-- something new, from now on part of the state -/
theorem Stp.more {B : Addr → Prop} {G : Wd} {H : Hp} {G' : Wd} {H' : Hp} {q : Addr} (s : Stp B G H G' H') (h : H q = none) : Stp B G H (G'.mor q) H' := by
  refine ⟨s.gg.trans Ew.mor, s.gh, s.keep, s.there, s.new, fun a e => ?_, Nat.le_trans s.np.2.1 (Nat.le_succ _), fun e => ?_⟩
  · have e : a ∈ G'.ps ++ [q] := e
    rcases List.mem_append.mp e with e | e
    · exact s.newp a e
    · rw [List.mem_singleton] at e; subst e; exact .inr h
  · have e : G'.ver + 1 = G.ver := e
    have := s.np.2.1
    omega
theorem Sat.more {G : Wd} {H : Hp} {p : S} {q : Addr} {m : MO} (s : Sat c G p H) (n : G.No q) (nB : ¬ c.B q) (a : MAt c.P (G.mor q) H q m) : Sat c (G.mor q) (p.mor m) H := by
  refine ⟨s.inv, ?_, ?_, ?_, fun b hb => ?_, fun j k b h1 h2 => ?_⟩
  · show (p.st ++ [m]).length = (G.ps ++ [q]).length
    rw [List.length_append, List.length_append, s.len]; rfl
  · show p.ver + 1 = G.ver + 1
    rw [s.ver]
  · show (G.ps ++ [q]).Nodup
    rw [List.nodup_append]
    exact ⟨s.nd, by simp, fun x hx y hy e => by
      rw [List.mem_singleton] at hy
      subst hy
      subst e
      exact n.ps hx⟩
  · have hb : b ∈ G.ps ++ [q] := hb
    rcases List.mem_append.mp hb with hb | hb
    · exact s.no b hb
    · rw [List.mem_singleton] at hb; subst hb; exact ⟨nB, n.hp⟩
  · have h1 : (p.st ++ [m])[j]? = some k := h1
    have h2 : (G.ps ++ [q])[j]? = some b := h2
    by_cases z : j < G.ps.length
    · rw [List.getElem?_append_left z] at h2
      rw [List.getElem?_append_left (by rw [s.len]; exact z)] at h1
      exact (s.at_ j k b h1 h2).mono Ew.mor rfl
    · have hl : j < (G.ps ++ [q]).length := (List.getElem?_eq_some_iff.mp h2).1
      have ej : j = G.ps.length := by rw [List.length_append, List.length_singleton] at hl; omega
      subst ej
      rw [List.getElem?_append_right (Nat.le_refl _), Nat.sub_self] at h2
      rw [List.getElem?_append_right (by rw [s.len]; exact Nat.le_refl _), s.len, Nat.sub_self] at h1
      cases h1
      cases h2
      exact a
theorem mor_at {G : Wd} {q : Addr} {p : S} {H : Hp} (s : Sat c G p H) : At c.P (G.mor q) (.ref q) (.mr p.st.length) := .mr (by
  show (G.ps ++ [q])[p.st.length]? = some q
  rw [List.getElem?_append_right (by rw [s.len]; exact Nat.le_refl _), s.len, Nat.sub_self]
  rfl)
/-- a place of the state -/
theorem Sat.place {G : Wd} {H : Hp} {p : S} {j : Nat} {m : MO} (s : Sat c G p H) (h : p.st[j]? = some m) : ∃ a, G.ps[j]? = some a ∧ MAt c.P G H a m := by
  have hl : j < G.ps.length := by rw [← s.len]; exact (List.getElem?_eq_some_iff.mp h).1
  exact ⟨_, List.getElem?_eq_getElem hl, s.at_ j m _ h (List.getElem?_eq_getElem hl)⟩
theorem Sat.put {G : Wd} {H : Hp} {p : S} {j : Nat} {a : Addr} {m : MO} {o : HO} (s : Sat c G p H) (hj : G.ps[j]? = some a) (ma : MAt c.P G.bum (upd H a o) a m) : Sat c G.bum (p.put j m) (upd H a o) := by
  have hl : j < p.st.length := by rw [s.len]; exact (List.getElem?_eq_some_iff.mp hj).1
  have hm := List.mem_of_getElem? hj
  refine ⟨c.ext (fun b hb => upd_ne fun z => (s.no a hm).1 (by rw [← z]; exact hb)) s.inv, ?_, ?_, s.nd, s.no, fun k n b h1 h2 => ?_⟩
  · show (p.st.set j m).length = G.ps.length
    rw [List.length_set, s.len]
  · show p.ver + 1 = G.ver + 1
    rw [s.ver]
  · have h1 : (p.st.set j m)[k]? = some n := h1
    have h2 : G.ps[k]? = some b := h2
    by_cases z : k = j
    · subst z
      rw [List.getElem?_set_self hl] at h1
      cases h1
      rw [hj] at h2
      cases h2
      exact ma
    · rw [List.getElem?_set_ne (Ne.symm z)] at h1
      have nb : b ≠ a := fun w => z (by
        subst w
        have h3 := (List.getElem?_eq_some_iff.mp h2)
        have h4 := (List.getElem?_eq_some_iff.mp hj)
        obtain ⟨x1, y1⟩ := h3
        obtain ⟨x2, y2⟩ := h4
        exact (List.getElem_inj s.nd).mp (y1.trans y2.symm))
      exact (s.at_ k n b h1 h2).mono Ew.bum (upd_ne nb)
theorem Rel.put {G0 : Wd} {H0 : Hp} {G : Wd} {H : Hp} {σ : St} {l : Loc} {p : S} {j : Nat} {a : Addr} {m : MO} {o : HO} (r : Rel c G0 H0 G H σ l p) (hj : G.ps[j]? = some a) (ma : MAt c.P G.bum (upd H a o) a m) : Rel c G0 H0 G.bum (upd H a o) σ l (p.put j m) := by
  have hm := List.mem_of_getElem? hj
  exact r.step (Stp.pokeM r.stp.gh hm (r.pot.no a hm).2 (r.hp a (.inr hm))) (r.pot.put hj ma)
theorem at_mr {P : Addr} {G : Wd} {x : V} {j : Nat} (h : At P G x (.mr j)) : ∃ a, x = .ref a ∧ G.ps[j]? = some a := by
  cases h with
  | mr h => exact ⟨_, rfl, h⟩
theorem mr_place {G : Wd} {H : Hp} {p : S} {x : V} {j : Nat} {m : MO} (s : Sat c G p H) (hx : At c.P G x (.mr j)) (h : p.st[j]? = some m) : ∃ a, x = .ref a ∧ G.ps[j]? = some a ∧ MAt c.P G H a m := by
  obtain ⟨a, rfl, ha⟩ := at_mr hx
  exact ⟨a, rfl, ha, s.at_ j m a h ha⟩

/-- x[i], x a list or a tuple, standing or of the state -/
def ixM (x y : D) : S → Option D := fun p => match x with
  | .mr j => (match p.st[j]?, y with
    | some (.lst ds), .int i => atI ds i
    | _, _ => none)
  | x => fIx x y
def mixM (a b : M D) : M D := mbind a fun x => mbind b fun y l p => mlift (ixM x y p) l p
theorem se_ixM {ta tb : TE} {a b : M D} (ha : SE c E ta a) (hb : SE c E tb b) : SE c E (tOp (rIx c.K) ta tb) (mixM a b) := by
  intro G0 H0 G H σ l pot rl Q post
  refine Sn.go ha rl post fun x dx p G1 H1 s1 r1 hx post1 => ?_
  refine Sn.go hb r1 post1 fun y dy p2 G2 H2 s2 r2 hy post2 => ?_
  have hx := At.mono s2.gg hx
  obtain ⟨d, e, post3⟩ := post_lift0 post2
  have std : fIx dx dy = some d → rIx c.K x y H2 Q := fun e => s2_ix.run G2 H2 x y dx dy d r2.stp.gh r2.hp hx hy e Q fun v G' H' s hp a => post3 v G' H' s (r2.same s hp) a
  unfold ixM at e
  split at e
  · split at e
    · rename_i ds i h
      obtain ⟨q, rfl, hq, vs, h1, h2⟩ := mr_place r2.pot hx h
      obtain ⟨v, e1, av⟩ := atI_at h2 e
      rw [at_int hy]
      exact .inl ⟨q, vs, i, v, rfl, rfl, .inl (.inl h1), e1, Post.ok post3 r2 av⟩
    · cases e
  · exact std e
/-- x.f -/
def fldM (C : Addr) (f : Str) (x : D) : S → Option D := fun p => match x with
  | .mr j => (match p.st[j]? with
    | some (.ins C' ns ds) => if C' = C then (ns.zip ds).lookup f else none
    | _ => none)
  | x => fFld C f x
def mfldM (C : Addr) (f : Str) (a : M D) : M D := mbind a fun x l p => mlift (fldM C f x p) l p
theorem fldM_at {C : Addr} {f : Str} {G : Wd} {H : Hp} {p : S} {x : V} {d dd : D} (s : Sat c G p H) (gh : Ex G H) (hx : At c.P G x d) (e : fldM C f d p = some dd) : ∃ q dx fs v, x = .ref q ∧ H q = some (.ins C dx fs) ∧ fs.lookup f = some v ∧ At c.P G v dd := by
  unfold fldM at e
  split at e
  · split at e
    · rename_i C' ns ds h
      split at e
      · rename_i z
        subst z
        obtain ⟨q, rfl, hq, vs, dx, h1, h2, h3⟩ := mr_place s hx h
        obtain ⟨v, e1, av⟩ := lookup_zip h2 e
        exact ⟨q, dx, _, v, rfl, h1, e1, av⟩
      · cases e
    · cases e
  · obtain ⟨q, dx, fs, v, rfl, h, e1, av⟩ := fld_at hx e
    exact ⟨q, dx, fs, v, rfl, gh _ _ h, e1, av⟩
theorem se_fldM {C : Addr} {f : Str} {t : TE} {a : M D} (hC : Cls c.K C) (hN : NoAttr c.K C f) (ha : SE c E t a) : SE c E (tFld c.K t f) (mfldM C f a) := by
  intro G0 H0 G H σ l pot r Q post
  refine Sn.go ha r post fun x dx p G1 H1 s1 r1 hx post1 => ?_
  obtain ⟨dd, e, post2⟩ := post_lift0 post1
  obtain ⟨q, ddx, fs, v, rfl, h, e1, av⟩ := fldM_at r1.pot r1.stp.gh hx e
  exact ⟨q, C, ddx, fs, v, rfl, h, hC, hN, e1, Post.ok post2 r1 av⟩
/-- the list at a place of the state -/
def lstM (d : D) : S → Option (List D) := fun p => match d with
  | .mr j => (match p.st[j]? with
    | some (.lst ds) => some ds
    | _ => none)
  | _ => none
theorem lstM_at {G : Wd} {H : Hp} {p : S} {x : V} {d : D} {ds : List D} (s : Sat c G p H) (hx : At c.P G x d) (e : lstM d p = some ds) : ∃ j q vs, d = .mr j ∧ p.st[j]? = some (.lst ds) ∧ x = .ref q ∧ G.ps[j]? = some q ∧ H q = some (.lst vs) ∧ AtL c.P G vs ds := by
  unfold lstM at e
  split at e
  · split at e
    · rename_i j es h
      cases e
      obtain ⟨q, rfl, hq, vs, h1, h2⟩ := mr_place s hx h
      exact ⟨_, q, vs, rfl, h, rfl, hq, h1, h2⟩
    · cases e
  · cases e
/-- len(x), x a list of the state -/
def mlenM (a : M D) : M D := mbind a fun x l p => mlift ((lstM x p).map fun ds => D.int ds.length) l p
/-- tuple(x), x a list of the state -/
def mtupM (a : M D) : M D := mbind a fun x l p => mlift ((lstM x p).map D.tup) l p
theorem se_tupM {t : TE} {a : M D} (ha : SE c E t a) : SE c E (tCB (rTupleF c.K) (tCons t tNil)) (mtupM a) := by
  intro G0 H0 G H σ l pot r Q post
  show t σ H (fun x H1 => rTupleF c.K [x] H1 Q)
  refine Sn.go ha r post fun x dx p G1 H1 s1 r1 hx post1 => ?_
  obtain ⟨dd, e, post2⟩ := post_lift0 post1
  cases e1 : lstM dx p with
  | none => rw [e1] at e; cases e
  | some ds =>
    rw [e1] at e
    cases e
    obtain ⟨j, q, vs, rfl, _, rfl, _, h1, h2⟩ := lstM_at r1.pot hx e1
    refine ⟨q, vs, rfl, .inl ⟨.inl (.inl h1), fun u hu => ?_⟩⟩
    exact post2 _ _ _ (Stp.lay r1.stp.gh hu) (r1.same (Stp.lay r1.stp.gh hu) (Same.lay r1.hp hu)) (at_new_t r1.stp.gh hu h2)
/-- list(x), x a list of the state: a new list -/
def mlistM (a : M D) : M (List D) := mbind a fun x l p => mlift (lstM x p) l p
/-- a new list, part of the state -/
def mnewM (a : M (List D)) : M D := mbind a fun ds _ p => .ok (.mr p.st.length) (p.mor (.lst ds))
theorem se_newM {t : TE} {e : M (List D)} (h : SEN c E t e) : SE c E t (mnewM e) := by
  intro G0 H0 G H σ l pot r Q post
  refine h G0 H0 G H σ l pot r Q ?_
  unfold mnewM mbind at post
  cases e1 : e l pot with
  | bad => rw [e1] at post; exact post
  | err n p => rw [e1] at post; exact post
  | ok ds p =>
    rw [e1] at post
    intro q vs G' H' s r' h1 h2 h3 h4
    have nB : ¬ c.B q := fun z => r.hp q (.inl z) h4
    have s2 : Stp c.B G H (G'.mor q) H' := s.more h4
    exact post (.ref q) _ H' s2 (r.step s2 (r'.pot.more h3 nB ⟨vs, h1, AtL.mono Ew.mor h2⟩)) (mor_at r'.pot)
/-- a new dict, part of the state -/
def mdnewM : M D := fun _ p => .ok (.mr p.st.length) (p.mor (.dct []))
theorem se_dnewM : SE c E tDNewK mdnewM := by
  intro G0 H0 G H σ l pot r Q post
  intro q hq
  have nB : ¬ c.B q := fun z => r.hp q (.inl z) hq
  have nG : G.No q := Wd.no_of r.stp.gh hq fun z => r.hp q (.inr z) hq
  have s2 : Stp c.B G H (G.mor q) (upd H q (.dK [])) := (Stp.lay0 r.stp.gh hq).more hq
  exact post (.ref q) _ _ s2 (r.step s2 ((r.pot.poke nB nG).more nG nB upd_same)) (mor_at r.pot)
/-- flat values of dicts -/
def vD : V → Option D
  | .non => some .non
  | .bl b => some (.bl b)
  | .int i => some (.int i)
  | .str x => some (.str x)
  | _ => none
theorem vD_at {P : Addr} {G : Wd} {v : V} {d : D} (e : vD v = some d) : At P G v d := by
  cases v <;> first | (cases e; constructor) | cases e
def keyD : D → Option Key
  | .int i => some (.inl i)
  | .str x => some (.inr x)
  | _ => none
theorem keyD_at {P : Addr} {G : Wd} {x : V} {d : D} {k : Key} (h : At P G x d) (e : keyD d = some k) : x = kV k := by
  cases h <;> first | (cases e; rfl) | cases e
def dctM (d : D) : S → Option (List (Key × V)) := fun p => match d with
  | .mr j => (match p.st[j]? with
    | some (.dct kvs) => some kvs
    | _ => none)
  | _ => none
theorem dctM_at {G : Wd} {H : Hp} {p : S} {x : V} {d : D} {kvs : List (Key × V)} (s : Sat c G p H) (hx : At c.P G x d) (e : dctM d p = some kvs) : ∃ j q, d = .mr j ∧ p.st[j]? = some (.dct kvs) ∧ x = .ref q ∧ G.ps[j]? = some q ∧ H q = some (.dK kvs) := by
  unfold dctM at e
  split at e
  · split at e
    · rename_i j es h
      cases e
      obtain ⟨q, rfl, hq, h1⟩ := mr_place s hx h
      exact ⟨_, q, rfl, h, rfl, hq, h1⟩
    · cases e
  · cases e
/-- what d.get(k, z) hands out -/
def getD (kvs : List (Key × V)) (y z : D) : Option D := (keyD y).bind fun k => match valV kvs k with
  | some v => vD v
  | none => some z
def mdget2 (a b z : M D) : M D := mbind a fun x l p => match dctM x p with
  | none => .bad
  | some _ => mbind b (fun y => mbind z fun w l p => mlift ((dctM x p).bind fun kvs => getD kvs y w) l p) l p
theorem se_dget2 {ta tb tz : TE} {a b z : M D} (ha : SE c E ta a) (hb : SE c E tb b) (hz : SE c E tz z) : SE c E (tDGet2 ta tb tz) (mdget2 a b z) := by
  intro G0 H0 G H σ l pot r Q post
  refine Sn.go ha r post fun x dx p G1 H1 s1 r1 hx post1 => ?_
  cases e0 : dctM dx p with
  | none => rw [e0] at post1; exact post1.elim
  | some kvs0 =>
    rw [e0] at post1
    obtain ⟨j, q, rfl, hj, rfl, hq, h1⟩ := dctM_at r1.pot hx e0
    refine ⟨q, rfl, .inl ⟨kvs0, .inl h1⟩, ?_⟩
    refine Sn.go hb r1 post1 fun y dy p2 G2 H2 s2 r2 hy post2 => ?_
    refine Sn.go hz r2 post2 fun w dw p3 G3 H3 s3 r3 hw post3 => ?_
    have hx3 := At.mono (s2.gg.trans s3.gg) hx
    have hy3 := At.mono s3.gg hy
    obtain ⟨d, e, post4⟩ := post_lift0 post3
    cases e3 : dctM (.mr j) p3 with
    | none => rw [e3] at e; cases e
    | some kvs =>
      rw [e3] at e
      obtain ⟨j', q', ej, hj', eq, hq', g1⟩ := dctM_at r3.pot hx3 e3
      cases ej
      cases eq
      unfold getD at e
      dsimp only [Option.bind_some] at e
      cases ek : keyD dy with
      | none => rw [ek] at e; cases e
      | some k =>
        rw [ek] at e
        dsimp only [Option.bind_some] at e
        have := keyD_at hy3 ek
        subst this
        refine ⟨_, DGet.k g1, ?_⟩
        cases ev : valV kvs k with
        | none => rw [ev] at e; cases e; exact Post.ok post4 r3 hw
        | some v => rw [ev] at e; exact Post.ok post4 r3 (vD_at e)

def lput (j : Nat) (i : Int) (d : D) : MS := fun l p => match p.st[j]? with
  | some (.lst es) => (match ixN es.length i with
    | some k => .nx l (p.put j (.lst (es.set k d)))
    | none => .bad)
  | _ => .bad
theorem lput_ok {G0 : Wd} {H0 : Hp} {G : Wd} {H : Hp} {σ : St} {l : Loc} {p : S} {De : Ends} {j : Nat} {x v : V} {d : D} {i : Int} (r : Rel c G0 H0 G H σ l p) (hx : At c.P G x (.mr j)) (hv : At c.P G v d) (post : PostS c E G0 H0 G De (lput j i d l p)) : rSetL x (.int i) v H fun H' => De.nx σ H' := by
  unfold lput at post
  split at post
  · rename_i ds h
    split at post
    · rename_i k hk
      obtain ⟨q, rfl, hq, vs, h1, h2⟩ := mr_place r.pot hx h
      refine ⟨q, vs, i, k, rfl, rfl, h1, by rw [AtL.length h2]; exact hk, ?_⟩
      exact post _ _ σ Ew.bum (r.put hq ⟨_, upd_same, AtL.mono Ew.bum (AtL.set hv k h2)⟩)
    · exact post.elim
  · exact post.elim
/-- x[i] = e, x a list of the state -/
def sputM (a b e : M D) : MS := sbind e fun v l p => sbind a (fun x => sbind b fun y l p => match x, y with
  | .mr j, .int i => lput j i v l p
  | _, _ => .bad) l p
theorem ss_putM {ta tb te : TE} {a b e : M D} (ha : SE c E ta a) (hb : SE c E tb b) (he : SE c E te e) : SS c E (tAsg te (gSub ta tb rSetL)) (sputM a b e) := by
  intro G0 H0 G H σ l pot r De post
  refine Sn.goS he r post fun v dv p G1 H1 s1 r1 hv post1 => ?_
  refine Sn.goS ha r1 post1 fun x dx p2 G2 H2 s2 r2 hx post2 => ?_
  refine Sn.goS hb r2 post2 fun y dy p3 G3 H3 s3 r3 hy post3 => ?_
  have hx := At.mono s3.gg hx
  have hv := At.mono (s2.gg.trans s3.gg) hv
  split at post3
  · rename_i j i
    rw [at_int hy]
    exact lput_ok r3 hx hv post3
  · exact post3.elim
/-- x[i] += e, ints -/
def saugM (f : Int → Int → Int) (a b e : M D) : MS := sbind a fun x => sbind b fun y l p => match x, y with
  | .mr j, .int i => (match p.st[j]? with
    | some (.lst ds) => (match atI ds i with
      | some (.int old) => sbind e (fun v l p => match v with
        | .int w => lput j i (.int (f old w)) l p
        | _ => .bad) l p
      | _ => .bad)
    | _ => .bad)
  | _, _ => .bad
theorem ss_augM {f : Int → Int → Int} {ta tb te : TE} {a b e : M D} (ha : SE c E ta a) (hb : SE c E tb b) (he : SE c E te e) : SS c E (tAugS ta tb te (rIxL c.K) (ipI f) rSetL) (saugM f a b e) := by
  intro G0 H0 G H σ l pot r De post
  refine Sn.goS ha r post fun x dx p G1 H1 s1 r1 hx post1 => ?_
  refine Sn.goS hb r1 post1 fun y dy p2 G2 H2 s2 r2 hy post2 => ?_
  have hx2 := At.mono s2.gg hx
  clear hx
  split at post2
  · rename_i j i
    have := at_int hy
    subst this
    split at post2
    · rename_i ds h
      split at post2
      · rename_i old ho
        obtain ⟨q, rfl, hq, vs, h1, h2⟩ := mr_place r2.pot hx2 h
        obtain ⟨v, e1, av⟩ := atI_at h2 ho
        have := at_int av
        subst this
        refine ⟨q, vs, i, .int old, rfl, rfl, .inl (.inl h1), e1, ?_⟩
        refine Sn.goS he r2 post2 fun z dz p3 G3 H3 s3 r3 hz post3 => ?_
        split at post3
        · rename_i w
          have := at_int hz
          subst this
          exact ⟨old, w, rfl, rfl, lput_ok r3 (At.mono s3.gg hx2) (.int _) post3⟩
        · exact post3.elim
      · exact post2.elim
    · exact post2.elim
  · exact post2.elim
/-- d[k] = e, d a dict of the state, e flat -/
def sdputM (a b e : M D) : MS := sbind e fun v l p => sbind a (fun x => sbind b fun y l p => match x with
  | .mr j => (match p.st[j]?, keyD y, sc v with
    | some (.dct kvs), some k, some w => if kvs.length < 1000 then .nx l (p.put j (.dct (putK kvs k w))) else .bad
    | _, _, _ => .bad)
  | _ => .bad) l p
theorem ss_dputM {ta tb te : TE} {a b e : M D} (ha : SE c E ta a) (hb : SE c E tb b) (he : SE c E te e) : SS c E (sDPut ta tb te) (sdputM a b e) := by
  intro G0 H0 G H σ l pot r De post
  refine Sn.goS he r post fun v dv p G1 H1 s1 r1 hv post1 => ?_
  refine Sn.goS ha r1 post1 fun x dx p2 G2 H2 s2 r2 hx post2 => ?_
  refine Sn.goS hb r2 post2 fun y dy p3 G3 H3 s3 r3 hy post3 => ?_
  have hx := At.mono s3.gg hx
  split at post3
  · rename_i j
    split at post3
    · rename_i kvs k w h hk hw
      split at post3
      · rename_i hl
        obtain ⟨q, rfl, hq, h1⟩ := mr_place r3.pot hx h
        have h1 : H3 q = some (.dK kvs) := h1
        have := keyD_at hy hk
        subst this
        have := sc_at hv hw
        subst this
        refine ⟨q, _, rfl, DPut.k h1 (Nat.lt_trans hl (by decide)), ?_⟩
        exact post3 _ _ σ Ew.bum (r3.put hq (m := .dct (putK kvs k v)) upd_same)
      · exact post3.elim
    · exact post3.elim
  · exact post3.elim
/-- the fields behind o.f = v -/
def putN (f : Str) (d : D) : List Str → List D → List Str × List D
  | n :: ns, e :: es => if n = f then (n :: ns, d :: es) else (n :: (putN f d ns es).1, e :: (putN f d ns es).2)
  | _, _ => ([f], [d])
theorem putN_len {f : Str} {d : D} : ∀ {ns : List Str} {ds : List D}, ns.length = ds.length → (putN f d ns ds).1.length = (putN f d ns ds).2.length
  | [], [], _ => rfl
  | [], _ :: _, h => by cases h
  | _ :: _, [], h => by cases h
  | n :: ns, e :: es, h => by
    unfold putN
    split
    · simpa using h
    · simp only [List.length_cons]
      rw [putN_len (by simpa using h)]
theorem putN_at {P : Addr} {G : Wd} {f : Str} {v : V} {d : D} (hv : At P G v d) : ∀ {ns : List Str} {vs : List V} {ds : List D}, ns.length = ds.length → AtL P G vs ds → ∃ ws, putF f v (ns.zip vs) = (putN f d ns ds).1.zip ws ∧ AtL P G ws (putN f d ns ds).2
  | [], _, [], _, .nil => ⟨[v], rfl, .cons hv .nil⟩
  | _ :: _, _, [], h, _ => by cases h
  | [], _, _ :: _, h, _ => by cases h
  | n :: ns, _, e :: es, h, .cons (v := w) (vs := vs) ha al => by
    obtain ⟨ws, h1, h2⟩ := putN_at hv (ns := ns) (by simpa using h) al
    rw [List.zip_cons_cons]
    unfold putN
    show ∃ us, (if n = f then (n, v) :: ns.zip vs else (n, w) :: putF f v (ns.zip vs)) = _ ∧ _
    by_cases z : n = f
    · rw [if_pos z, if_pos z]
      exact ⟨v :: vs, rfl, .cons hv al⟩
    · rw [if_neg z, if_neg z]
      exact ⟨w :: ws, by rw [h1]; rfl, .cons ha h2⟩
/-- x.f = e, x an instance of the state -/
def sfldM (C : Addr) (f : Str) (a e : M D) : MS := sbind e fun v l p => sbind a (fun x l p => match x with
  | .mr j => (match p.st[j]? with
    | some (.ins C' ns ds) => if C' = C ∧ ns.length < 1000 then .nx l (p.put j (.ins C (putN f v ns ds).1 (putN f v ns ds).2)) else .bad
    | _ => .bad)
  | _ => .bad) l p
theorem ss_fldM {C : Addr} {f : Str} {ta te : TE} {a e : M D} (hC : Cls c.K C) (hN : NoAttr c.K C f) (ha : SE c E ta a) (he : SE c E te e) : SS c E (sFld c.K ta te f) (sfldM C f a e) := by
  intro G0 H0 G H σ l pot r De post
  refine Sn.goS he r post fun v dv p G1 H1 s1 r1 hv post1 => ?_
  refine Sn.goS ha r1 post1 fun x dx p2 G2 H2 s2 r2 hx post2 => ?_
  have hv := At.mono s2.gg hv
  split at post2
  · rename_i j
    split at post2
    · rename_i C' ns ds h
      split at post2
      · rename_i z
        obtain ⟨rfl, z2⟩ := z
        obtain ⟨q, rfl, hq, vs, dx, h1, h2, h3⟩ := mr_place r2.pot hx h
        obtain ⟨ws, e1, al⟩ := putN_at (f := f) hv h3 h2
        refine ⟨q, C', dx, _, rfl, h1, hC, hN, ?_, ?_⟩
        · have := AtL.length h2
          rw [List.length_zip]
          omega
        · rw [e1]
          exact post2 _ _ σ Ew.bum (r2.put hq ⟨ws, dx, upd_same, AtL.mono Ew.bum al, putN_len h3⟩)
      · exact post2.elim
    · exact post2.elim
  · exact post2.elim

def insMM (C : Addr) (m : Str) (d : D) : S → Option D := fun p => match d with
  | .mr j => (match p.st[j]? with
    | some (.ins C' ns _) => if C' = C ∧ ns.contains m = false then some d else none
    | _ => none)
  | d => insM C m d
def mmethM (C : Addr) (m : Str) (f : RF) (a : M D) (b : M (List D)) : M D := mbind a fun d l p => (mbind (mlift (insMM C m d p)) fun x => mbind b fun ys _ p => f (x :: ys) p) l p
theorem se_methM {C : Addr} {m : Str} {f : RF} {t : TE} {tb : TA} {a : M D} {b : M (List D)} (ha : SE c E t a) (hb : SA c E tb b) : SE c E (fun σ H Q => tMethR C m (spD c f) (E σ) t tb σ H Q) (mmethM C m f a b) := by
  intro G0 H0 G H σ l pot r Q post
  refine Sn.go ha r post fun x dx p G1 H1 s1 r1 hx post1 => ?_
  obtain ⟨y, e, post2⟩ := post_lift post1
  unfold insMM at e
  split at e
  · rename_i j
    split at e
    · rename_i C' ns ds h
      split at e
      · rename_i z
        obtain ⟨rfl, z2⟩ := z
        cases e
        obtain ⟨q, rfl, hq, vs, dx, h1, h2, h3⟩ := mr_place r1.pot hx h
        refine ⟨q, dx, _, rfl, h1, zip_none z2, ?_⟩
        refine Sn.go hb r1 post2 fun ys dys p2 G2 H2 s2 r2 hy post3 => ?_
        exact spD_of r2 (AtL.cons (At.mono s2.gg hx) hy) post3
      · cases e
    · cases e
  · rename_i nd
    unfold insM at e
    split at e
    · rename_i C' ns ds
      split at e
      · rename_i z
        obtain ⟨rfl, z2⟩ := z
        cases e
        cases hx with
        | ins h a =>
          refine ⟨_, _, _, rfl, r1.stp.gh _ _ h, zip_none z2, ?_⟩
          refine Sn.go hb r1 post2 fun ys dys p2 G2 H2 s2 r2 hy post3 => ?_
          exact spD_of r2 (AtL.cons (At.mono s2.gg (At.ins h a)) hy) post3
      · cases e
    · cases e
theorem se_methMRS {C : Addr} {m : Str} {f : RF} {t : TE} {tb : TA} {a : M D} {b : M (List D)} (ha : SE c E t a) (hb : SA c E tb b) : SE c E (tMethRS C m (spD c f) E t tb) (mmethM C m f a b) := se_methM ha hb
/-- C(..), an instance of the state; f is __init__ -/
def mmakeM (C : Addr) (f : RF) (a : M (List D)) : M D := mbind a fun ds _ p => match f (.mr p.st.length :: ds) (p.mor (.ins C [] [])) with
  | .ok .non q => .ok (.mr p.st.length) q
  | .ok _ _ => .bad
  | .err m q => .err m q
  | .bad => .bad
theorem se_makeM {C : Addr} {f : RF} {E' : XK} {t : TA} {a : M (List D)} (ha : SA c (fun _ => E') t a) : SE c (fun _ => E') (StX.tMakeR C (spD c f) E' t) (mmakeM C f a) := by
  intro G0 H0 G H σ l pot r Q post
  refine Sn.go ha r post fun x dx p G1 H1 s1 r1 hx post1 => ?_
  intro y dy hy hdy ne
  have nB : ¬ c.B y := fun z => r1.hp y (.inl z) hy
  have nBd : ¬ c.B dy := fun z => r1.hp dy (.inl z) hdy
  have nG : G1.No y := Wd.no_of r1.stp.gh hy fun z => r1.hp y (.inr z) hy
  have nGd : G1.No dy := Wd.no_of r1.stp.gh hdy fun z => r1.hp dy (.inr z) hdy
  have s1 : Stp c.B G1 H1 G1 (upd H1 dy (.own y)) := Stp.lay0 r1.stp.gh hdy
  have s2 : Stp c.B G1 H1 G1 (upd (upd H1 dy (.own y)) y (.ins C dy [])) := s1.trans (Stp.lay0 s1.gh (by rw [upd_ne (Ne.symm ne)]; exact hy))
  have s3 := s2.more hy
  have st : Sat c (G1.mor y) (p.mor (.ins C [] [])) (upd (upd H1 dy (.own y)) y (.ins C dy [])) := ((r1.pot.poke nBd nGd).poke nB nG).more nG nB ⟨[], dy, upd_same, .nil, rfl⟩
  have r3 := r1.step s3 st
  have hm : At c.P (G1.mor y) (.ref y) (.mr p.st.length) := mor_at r1.pot
  refine spD_of (E := fun _ => E') r3 (AtL.cons hm (AtL.mono Ew.mor hx)) (f := f) (Q := fun v H2 => v = .non ∧ Q (.ref y) H2) ?_
  cases e : f (.mr p.st.length :: dx) (p.mor (.ins C [] [])) with
  | bad => rw [e] at post1; exact post1.elim
  | err m q =>
    rw [e] at post1
    exact fun G' H' eg r' => post1 G' H' (s3.gg.trans eg) r'
  | ok d q =>
    rw [e] at post1
    cases d with
    | non =>
      intro v G' H' s r' av
      cases av
      exact ⟨rfl, post1 (.ref y) G' H' (s3.trans s) r' (At.mono s.gg hm)⟩
    | _ => exact post1.elim
end
end Den
namespace L2
open PySem PySem.Spec PyProof.Rows
variable {X : Cx}
/-- the read of a place that is then written -/
theorem pget_list : PGet X (rIxL X.K) := by
  intro pins s σ H x y v u Q I rx ry h
  obtain ⟨p, xs, i, z, rfl, rfl, hq, he, q⟩ := h
  cases rx
  obtain ⟨t, rfl⟩ := ry
  obtain ⟨its, r, pl, hz⟩ := I.list hq
  obtain ⟨j, h1, h2, h3, h4, h5⟩ := atI_get he
  obtain ⟨w, ew, rw'⟩ := r.get h2
  have hl := r.length
  have hn := line63
  have fin : EP X pins σ Q w s := ⟨z, H, I, rw', q⟩
  by_cases h0 : 0 ≤ i
  · have hj : i.toNat = j := by
      rw [seqIndex_of h0 h5] at h1
      exact Option.some.inj h1
    exact wpAny_getItem_list pl.isList h0 (by omega) (by rw [hj]; simpa using ew) fin
  · have hj : (i + (its.toArray.size : Int)).toNat = j := by
      rw [seqIndex_neg (by omega) h4] at h1
      rw [List.size_toArray, ← hl]
      exact Option.some.inj h1
    exact wpAny_getItem_list_neg pl.isList (by omega) (by rw [List.size_toArray] <;> omega) (by omega) (by rw [hj]; simpa using ew) fin
end L2
namespace Den
open PySem L2
/-- place j still holds the list es -/
def ckM (j : Nat) (es : List D) : S → Prop := fun p => p.st[j]? = some (.lst es)
open Classical in
noncomputable def mck {α : Type} (ck : S → Prop) (t : M α) : M α := fun l p => if ck p then t l p else .bad
open Classical in
noncomputable def fin2 {α : Type} (ck : S → Prop) (r : R α) : R α := match r with
  | .ok a p => if ck p then .ok a p else .bad
  | .err n p => .err n p
  | .bad => .bad
theorem mck_pos {α : Type} {ck : S → Prop} {t : M α} {l : Loc} {p : S} (h : ck p) : mck ck t l p = t l p := if_pos h
theorem mck_bind {α β : Type} {ck : S → Prop} {t : M α} {k : α → M β} {l : Loc} {p : S} (h : ck p) : mbind (mck ck t) k l p = mbind t k l p := by
  unfold mbind
  rw [mck_pos h]
theorem fin2_pos {α : Type} {ck : S → Prop} {a : α} {p : S} (h : ck p) : fin2 ck (.ok a p) = .ok a p := if_pos h
section
variable {c : Cfg} {E : St → XK}
structure WalksM (c : Cfg) (J : It) (ds : List D) (ck : S → Prop) (G : Wd) : Prop where
  stop : ∀ (i : Nat) (H : Hp) (p : S) (G2 : Wd), Ew G G2 → Sat c G2 p H → ck p → i = ds.length → J.stop i H
  go : ∀ (i : Nat) (H : Hp) (p : S) (G2 : Wd), Ew G G2 → Sat c G2 p H → ck p → i < ds.length → J.go i H
  yld : ∀ (i : Nat) (H : Hp) (x : V) (H' : Hp) (p : S) (G2 : Wd), Ew G G2 → Sat c G2 p H → ck p → Ex G2 H → i < ds.length → J.yld i H x H' → ∃ d G3, ds[i]? = some d ∧ Stp c.B G2 H G3 H' ∧ Same c G2 H G3 H' ∧ At c.P G3 x d
def SIM (c : Cfg) (E : St → XK) (wi : TI) (a : M (Nat × List D)) (g : List D → List D) : Prop := Sn c E (fun G J x => WalksM c J (g x.2) (ckM x.1 x.2) G) wi a
theorem ck_place {G G2 : Wd} {H : Hp} {p : S} {j : Nat} {a : Addr} {es : List D} (e : Ew G G2) (hj : G.ps[j]? = some a) (s : Sat c G2 p H) (k : ckM j es p) : ∃ vs, H a = some (.lst vs) ∧ AtL c.P G2 vs es := s.at_ j _ a k (e.ps j a hj)
theorem walksM_enum {G : Wd} {j : Nat} {a : Addr} {es : List D} (hj : G.ps[j]? = some a) : WalksM c (Ite c.K a) (enumD 0 es) (ckM j es) G := by
  refine ⟨fun i H p G2 e s k z => ?_, fun i H p G2 e s k z => ?_, fun i H x H' p G2 e s k g z y => ?_⟩
  · obtain ⟨vs, h1, h2⟩ := ck_place e hj s k
    refine ⟨vs, .inl (.inl h1), ?_⟩
    rw [AtL.length h2]; rw [enumD_len] at z; exact Nat.le_of_eq z.symm
  · obtain ⟨vs, h1, h2⟩ := ck_place e hj s k
    have z' : i < vs.length := by rw [AtL.length h2]; rw [enumD_len] at z; exact z
    exact ⟨vs, vs[i], .inl (.inl h1), List.getElem?_eq_getElem z'⟩
  · obtain ⟨vs, h1, h2⟩ := ck_place e hj s k
    obtain ⟨T, v, rfl, hT, rfl, y⟩ := y
    obtain ⟨d, ed, ad⟩ := AtL.getV h2 (y vs (.inl (.inl h1)))
    have g2 := enumD_get es 0 i d ed
    rw [Nat.zero_add] at g2
    exact ⟨_, _, g2, Stp.lay g hT, Same.lay s.full hT, at_new_t g hT (.cons (.int _) (.cons ad .nil))⟩
/-- the place of a list of the state, and what it holds -/
def plcM (d : D) : S → Option (Nat × List D) := fun p => match d with
  | .mr j => (match p.st[j]? with
    | some (.lst es) => some (j, es)
    | _ => none)
  | _ => none
theorem plcM_at {G : Wd} {H : Hp} {p : S} {x : V} {d : D} {j : Nat} {es : List D} (s : Sat c G p H) (hx : At c.P G x d) (e : plcM d p = some (j, es)) : ∃ q vs, x = .ref q ∧ G.ps[j]? = some q ∧ H q = some (.lst vs) ∧ AtL c.P G vs es := by
  unfold plcM at e
  split at e
  · split at e
    · rename_i j' es' h
      cases e
      obtain ⟨q, rfl, hq, vs, h1, h2⟩ := mr_place s hx h
      exact ⟨q, vs, rfl, hq, h1, h2⟩
    · cases e
  · cases e
def msrc (a : M D) : M (Nat × List D) := mbind a fun x l p => mlift (plcM x p) l p
theorem si_enumM {t : TE} {a : M D} (ha : SE c E t a) : SIM c E (iEnum c.K (tCons t tNil)) (msrc a) (enumD 0) := by
  intro G0 H0 G H σ l pot r Q post
  show t σ H (fun x H1 => _)
  refine Sn.go ha r post fun x dx p G1 H1 s1 r1 hx post1 => ?_
  obtain ⟨⟨j, es⟩, e, post2⟩ := post_lift0 post1
  obtain ⟨q, vs, rfl, hq, h1, h2⟩ := plcM_at r1.pot hx e
  exact ⟨q, vs, rfl, .inl (.inl h1), Post.ok post2 r1 (walksM_enum hq)⟩
open Classical in
/-- for x in a list of the state: body -/
noncomputable def loopM (ck : S → Prop) (tg : D → Loc → Option Loc) (body : MS) : List D → MS
  | [] => fun l p => if ck p then .nx l p else .bad
  | d :: ds => fun l p => if ck p then (match tg d l with
    | none => .bad
    | some l1 => match body l1 p with
      | .nx l' p' => loopM ck tg body ds l' p'
      | .ct l' p' => loopM ck tg body ds l' p'
      | .bk l' p' => .nx l' p'
      | o => o) else .bad
theorem loopM_ck {ck : S → Prop} {tg : D → Loc → Option Loc} {body : MS} {ds : List D} {l : Loc} {p : S} {G0 : Wd} {H0 : Hp} {G : Wd} {De : Ends} (post : PostS c E G0 H0 G De (loopM ck tg body ds l p)) : ck p := by
  by_cases z : ck p
  · exact z
  · cases ds with
    | nil => unfold loopM at post; rw [if_neg z] at post; exact post.elim
    | cons d ds => unfold loopM at post; rw [if_neg z] at post; exact post.elim
noncomputable def sforM (a : M (Nat × List D)) (g : List D → List D) (tg : D → Loc → Option Loc) (body : MS) : MS := sbind a fun x => loopM (ckM x.1 x.2) tg body (g x.2)
theorem ss_forM {g' : List D → List D} {wi : TI} {g : TG} {tb : TS} {a : M (Nat × List D)} {tg : D → Loc → Option Loc} {body : MS} (ha : SIM c E wi a g') (hg : SG c g tg) (hb : SS c E tb body) : SS c E (tFor wi g tb) (sforM a g' tg body) := by
  intro G0 H0 G H σ l pot r De post
  refine Sn.goS ha r post fun J jes p G1 H1 s1 r1 w post1 => ?_
  obtain ⟨jn, es⟩ := jes
  dsimp only at post1 w
  obtain ⟨ds, eds⟩ : ∃ ds, ds = g' es := ⟨_, rfl⟩
  rw [← eds] at post1 w
  obtain ⟨ck, eck⟩ : ∃ ck, ck = ckM jn es := ⟨_, rfl⟩
  rw [← eck] at post1 w
  refine ⟨fun i m σ H => m = ds.length - i ∧ i ≤ ds.length ∧ ∃ G l p, Ew G1 G ∧ Rel c G0 H0 G H σ l p ∧ PostS c E G0 H0 G De (loopM ck tg body (ds.drop i) l p), ⟨_, rfl, Nat.zero_le _, G1, l, p, Ew.refl _, r1, post1⟩, ?_⟩
  rintro i m σ H ⟨rfl, hi, G, l, p, eg, r, post⟩
  have hck := loopM_ck post
  by_cases hlt : i < ds.length
  · refine .inr ⟨w.go i H p G eg r.pot hck hlt, fun σ' H' => ∃ G l p, Ew G1 G ∧ Rel c G0 H0 G H' σ' l p ∧ PostS c E G0 H0 G De (loopM ck tg body (ds.drop (i + 1)) l p), fun σ' H' ⟨G, l, p, a, b, q⟩ => ⟨_, by omega, rfl, hlt, G, l, p, a, b, q⟩, fun x H' y => ?_⟩
    obtain ⟨d, G3, ed, s3, hP, ad⟩ := w.yld i H x H' p G eg r.pot hck r.stp.gh hlt y
    have r3 := r.same s3 hP
    have edr : ds.drop i = d :: ds.drop (i + 1) := by
      obtain ⟨h1, h2⟩ := List.getElem?_eq_some_iff.mp ed
      rw [List.drop_eq_getElem_cons h1, h2]
    rw [edr] at post
    unfold loopM at post
    rw [if_pos hck] at post
    cases e1 : tg d l with
    | none => simp only [e1] at post; exact post.elim
    | some l1 =>
      simp only [e1] at post
      refine hg G0 H0 G3 H' σ l l1 p x d r3 ad e1 _ fun σ' r4 => ?_
      refine hb _ _ _ _ _ _ _ r4 _ ?_
      have post := PostS.mono post s3.gg
      cases e2 : body l1 p with
      | nx l' p' =>
        simp only [e2] at post
        exact fun G' H' σ' e' r' => ⟨G', l', p', (eg.trans s3.gg).trans e', r', PostS.mono post e'⟩
      | ct l' p' =>
        simp only [e2] at post
        exact fun G' H' σ' e' r' => ⟨G', l', p', (eg.trans s3.gg).trans e', r', PostS.mono post e'⟩
      | bk l' p' => simp only [e2] at post; exact post
      | rt d p' => simp only [e2] at post; exact post
      | err n l' p' => simp only [e2] at post; exact post
      | bad => simp only [e2] at post; exact post
  · have e : i = ds.length := by omega
    rw [e, List.drop_length] at post
    refine .inl ⟨w.stop i H p G eg r.pot hck e, ?_⟩
    unfold loopM at post
    rw [if_pos hck] at post
    exact PostS.of post r
noncomputable def mcomp2M (a : M (Nat × List D)) (g : List D → List D) (i j : Nat) (t : M Bool) (e : M D) : M (List D) := mbind a fun x => if (g x.2).length ≤ 1000 then (fun l p => fin2 (ckM x.1 x.2) (comp2 i j (mck (ckM x.1 x.2) t) e (g x.2) l p)) else fun _ _ => .bad
theorem comp2_ck {ck : S → Prop} {i j : Nat} {t : M Bool} {e : M D} {d : D} {ds : List D} {l : Loc} {p : S} {G0 : Wd} {H0 : Hp} {G : Wd} {H : Hp} {σ : St} {aD : List D} {Q : VK} (post : PostN c E G0 H0 G H σ l (pre aD (fin2 ck (comp2 i j (mck ck t) e (d :: ds) l p))) Q) : ck p := by
  by_cases z : ck p
  · exact z
  · exfalso
    have : comp2 i j (mck ck t) e (d :: ds) l p = .bad := by
      unfold comp2
      cases gset2 i j d l with
      | none => rfl
      | some l1 =>
        dsimp only
        have : turn (mck ck t) e l1 p = .bad := mbind_bad (if_neg z)
        rw [this]
    rw [this] at post
    exact post
theorem fin2_ck {ck : S → Prop} {r : List D} {p : S} {G0 : Wd} {H0 : Hp} {G : Wd} {H : Hp} {σ : St} {l : Loc} {aD : List D} {Q : VK} (post : PostN c E G0 H0 G H σ l (pre aD (fin2 ck (.ok r p))) Q) : ck p := by
  by_cases z : ck p
  · exact z
  · exfalso
    unfold fin2 at post
    dsimp only at post
    rw [if_neg z] at post
    exact post
theorem sen_comp2M {g : List D → List D} {wi : TI} {i j : Nat} {tt : TT} {te : TE} {a : M (Nat × List D)} {t : M Bool} {e : M D} (ha : SIM c E wi a g) (ht : ST c (fun _ => E0) tt t) (he : SE c (fun _ => E0) te e) : SEN c E (tLc wi (gTup c.K 2 (gCons (gName i) (gCons (gName j) gNil))) tt te [i, j]) (mcomp2M a g i j t e) := by
  intro G0 H0 G H σ l pot r Q post
  refine Sn.goN ha r post fun J jes p G1 H1 s1 r1 w post1 => ?_
  obtain ⟨jn, es⟩ := jes
  dsimp only at post1 w
  obtain ⟨ds, eds⟩ : ∃ ds, ds = g es := ⟨_, rfl⟩
  rw [← eds] at post1 w
  obtain ⟨ck, eck⟩ : ∃ ck, ck = ckM jn es := ⟨_, rfl⟩
  rw [← eck] at post1 w
  split at post1
  · rename_i hlen
    intro Dl hD
    have hPD : ¬ c.B Dl := fun b => r1.hp Dl (.inl b) hD
    have hG1 : G1.No Dl := Wd.no_of r1.stp.gh hD fun z => r1.hp Dl (.inr z) hD
    refine ⟨fun k m H => m = ds.length - k ∧ k ≤ ds.length ∧ ∃ G p acc aD, Stp c.B G1 H1 G H ∧ Sat c G p H ∧ H Dl = some (.lst acc) ∧ AtL c.P G acc aD ∧ G.No Dl ∧ aD.length ≤ k ∧ PostN c E G0 H0 G1 H1 σ l (pre aD (fin2 ck (comp2 i j (mck ck t) e (ds.drop k) l p))) Q,
      ⟨_, rfl, Nat.zero_le _, G1, p, [], [], Stp.lay0 r1.stp.gh hD, r1.pot.poke hPD hG1, upd_same, .nil, hG1, Nat.le_refl _, by rw [pre_nil]; exact post1⟩, ?_⟩
    rintro k m H ⟨rfl, hk, G, p, acc, aD, sG, hp, hDl, al, hG, hl, post⟩
    by_cases hlt : k < ds.length
    · have hdk : ∃ d, ds[k]? = some d := ⟨_, List.getElem?_eq_getElem hlt⟩
      obtain ⟨d, ed⟩ := hdk
      have edr : ds.drop k = d :: ds.drop (k + 1) := by
        obtain ⟨h1, h2⟩ := List.getElem?_eq_some_iff.mp ed
        rw [List.drop_eq_getElem_cons h1, h2]
      have hck : ck p := by
        rw [edr] at post
        exact comp2_ck post
      refine .inr ⟨w.go k H p G sG.gg hp hck hlt, fun H => ∃ G p acc aD, Stp c.B G1 H1 G H ∧ Sat c G p H ∧ H Dl = some (.lst acc) ∧ AtL c.P G acc aD ∧ G.No Dl ∧ aD.length ≤ k + 1 ∧ PostN c E G0 H0 G1 H1 σ l (pre aD (fin2 ck (comp2 i j (mck ck t) e (ds.drop (k + 1)) l p))) Q,
        fun H' ⟨G, p, acc, aD, h⟩ => ⟨_, by omega, rfl, hlt, G, p, acc, aD, h⟩, fun x H' y => ?_⟩
      obtain ⟨d', G3, ed', s3, hP3, ad⟩ := w.yld k H x H' p G sG.gg hp hck sG.gh hlt y
      rw [ed] at ed'
      cases ed'
      rw [edr] at post
      unfold comp2 at post
      cases eT : gset2 i j d l with
      | none => simp only [eT] at post; exact post.elim
      | some l1 =>
        simp only [eT] at post
        -- the pair
        unfold gset2 at eT
        split at eT
        · rename_i d1 d2
          have hi : i < l.length := by
            by_cases z : i < l.length
            · exact z
            · unfold gset at eT; rw [if_neg z] at eT; cases eT
          have hj : j < l.length := by
            by_cases z : j < l.length
            · exact z
            · unfold gset at eT; rw [if_pos hi, Option.bind_some, if_neg (by simpa using z)] at eT; cases eT
          have el1 : l1 = (l.set i (some (.dat d1))).set j (some (.dat d2)) := by
            unfold gset at eT
            rw [if_pos hi, Option.bind_some, if_pos (by simpa using hj)] at eT
            exact (Option.some.inj eT).symm
          subst el1
          obtain ⟨tq, tvs, rfl, hT, tal⟩ := at_tup ad
          obtain ⟨v1, v2, rfl, hv1, hv2⟩ := atl2 tal
          have s13 := sG.trans s3
          have r3 : Rel c G0 H0 G3 H' σ l p := r1.step s13 (hp.same s3 hP3)
          have hDl3 : H' Dl = some (.lst acc) := s3.keep Dl _ hDl hPD hG.ps
          have noD : ∀ {Ga : Wd} {Ha : Hp} {Gb : Wd} {Hb : Hp}, Stp c.B Ga Ha Gb Hb → Ga.No Dl → Ha Dl ≠ none → Gb.No Dl := fun {Ga Ha Gb Hb} s h1 h2 => s.no h1 h2
          have hG3 := noD s3 hG (by rw [hDl]; exact fun z => nomatch z)
          have r4 : Rel c G0 H0 G3 H' ((σ.set i (some v1)).set j (some v2)) ((l.set i (some (.dat d1))).set j (some (.dat d2))) p := (r3.set hv1 hi).set hv2 (by simpa using hj)
          refine ⟨tq, _, rfl, .inl (.inl (r3.stp.gh _ _ hT)), rfl, v1, _, rfl, v2, _, rfl, rfl, ?_⟩
          show wipe (((wipe σ [i, j]).set i (some v1)).set j (some v2)) [i, j] = wipe σ [i, j] ∧ tt (((wipe σ [i, j]).set i (some v1)).set j (some v2)) H' _
          have ew : (((wipe σ [i, j]).set i (some v1)).set j (some v2)) = (σ.set i (some v1)).set j (some v2) := set2_wipe σ i j v1 v2
          rw [ew]
          refine ⟨wipe_set2 σ i j v1 v2, ?_⟩
          refine ht _ _ _ _ _ _ _ r4 _ ?_
          unfold turn at post
          rw [mck_bind hck] at post
          cases e1 : t ((l.set i (some (.dat d1))).set j (some (.dat d2))) p with
          | err n p1 => rw [mbind_err e1] at post; exact post.elim
          | bad => rw [mbind_bad e1] at post; exact post.elim
          | ok b p1 =>
            rw [mbind_ok e1] at post
            intro b' G5 H5 s5 r5 eb
            subst eb
            have s15 := s13.trans s5
            have hDl5 : H5 Dl = some (.lst acc) := s5.keep Dl _ hDl3 hPD hG3.ps
            have hG5 := noD s5 hG3 (by rw [hDl3]; exact fun z => nomatch z)
            cases b' with
            | false =>
              rw [if_neg Bool.false_ne_true]
              rw [if_neg Bool.false_ne_true] at post
              refine ⟨G5, p1, acc, aD, s15, r5.pot, hDl5, AtL.mono (s3.gg.trans s5.gg) al, hG5, Nat.le_succ_of_le hl, ?_⟩
              dsimp only [mret] at post
              cases e2 : comp2 i j (mck ck t) e (ds.drop (k + 1)) l p1 with
              | ok r' p2 => rw [e2] at post; exact post
              | err n p2 => rw [e2] at post; exact post
              | bad => rw [e2] at post; exact post
            | true =>
              rw [if_pos rfl]
              rw [if_pos rfl] at post
              refine he _ _ _ _ _ _ _ r5 _ ?_
              cases e2 : e ((l.set i (some (.dat d1))).set j (some (.dat d2))) p1 with
              | err n p2 => rw [mbind_err e2] at post; exact post.elim
              | bad => rw [mbind_bad e2] at post; exact post.elim
              | ok y p2 =>
                rw [mbind_ok e2] at post
                dsimp only [mret] at post
                intro v G6 H6 s6 r6 av
                have s16 := s15.trans s6
                have hDl6 : H6 Dl = some (.lst acc) := s6.keep Dl _ hDl5 hPD hG5.ps
                have hG6 := noD s6 hG5 (by rw [hDl5]; exact fun z => nomatch z)
                have al6 : AtL c.P G6 acc aD := AtL.mono ((s3.gg.trans s5.gg).trans s6.gg) al
                refine ⟨acc, hDl6, ?_, G6, p2, acc ++ [v], aD ++ [y], s16.poke hD hG6, r6.pot.poke hPD hG6, upd_same, AtL.append al6 (.cons av .nil), hG6, by rw [List.length_append]; exact Nat.succ_le_succ hl, ?_⟩
                · rw [AtL.length al6]
                  have z : aD.length ≤ 1000 := by omega
                  exact Nat.lt_of_le_of_lt z (by decide)
                · cases e3 : comp2 i j (mck ck t) e (ds.drop (k + 1)) l p2 with
                  | ok r' p3 =>
                    rw [e3] at post
                    have ea : aD ++ ([y] ++ r') = aD ++ [y] ++ r' := by rw [List.append_assoc]
                    show PostN c E G0 H0 G1 H1 σ l (pre (aD ++ [y]) (fin2 ck (.ok r' p3))) Q
                    have post : PostN c E G0 H0 G1 H1 σ l (pre aD (fin2 ck (.ok ([y] ++ r') p3))) Q := post
                    unfold fin2 at post ⊢
                    dsimp only at post ⊢
                    split
                    · rename_i z
                      rw [if_pos z] at post
                      show PostN c E G0 H0 G1 H1 σ l (.ok (aD ++ [y] ++ r') p3) Q
                      rw [← ea]
                      exact post
                    · rename_i z
                      rw [if_neg z] at post
                      exact post
                  | err n p3 => rw [e3] at post; exact post
                  | bad => rw [e3] at post; exact post
        · cases eT
    · have ej : k = ds.length := by omega
      rw [ej, List.drop_length] at post
      have hck : ck p := fin2_ck post
      refine .inl ⟨w.stop k H p G sG.gg hp hck ej, ?_⟩
      have post' : PostN c E G0 H0 G1 H1 σ l (pre aD (fin2 ck (.ok [] p))) Q := post
      rw [fin2_pos hck] at post'
      have post' : PostN c E G0 H0 G1 H1 σ l (.ok (aD ++ []) p) Q := post'
      rw [List.append_nil] at post'
      exact post' Dl acc G H sG (r1.step sG hp) hDl al hG hD
  · exact post1.elim
end
mutual
/-- nothing of the state is in it -/
def nomr : D → Bool
  | .lst ds => nomrL ds
  | .tup ds => nomrL ds
  | .ins _ _ ds => nomrL ds
  | .mr _ => false
  | _ => true
def nomrL : List D → Bool
  | [] => true
  | d :: ds => nomr d && nomrL ds
end
mutual
theorem nomr_at {P : Addr} {G G' : Wd} (e : Ex G.hp G'.hp) : ∀ {v : V} {d : D}, nomr d = true → At P G v d → At P G' v d
  | _, _, _, .non => .non
  | _, _, _, .bl b => .bl b
  | _, _, _, .int i => .int i
  | _, _, _, .str x => .str x
  | _, _, h, .lst g a => .lst (e _ _ g) (nomrL_at e (by simpa [nomr] using h) a)
  | _, _, h, .tup g a => .tup (e _ _ g) (nomrL_at e (by simpa [nomr] using h) a)
  | _, _, h, .ins g a => .ins (e _ _ g) (nomrL_at e (by simpa [nomr] using h) a)
  | _, _, _, .pot => .pot
  | _, _, _, .ty n => .ty n
  | _, _, _, .cls C => .cls C
  | _, _, _, .dct g => .dct (e _ _ g)
  | _, _, h, .mr _ => by cases h
theorem nomrL_at {P : Addr} {G G' : Wd} (e : Ex G.hp G'.hp) : ∀ {vs : List V} {ds : List D}, nomrL ds = true → AtL P G vs ds → AtL P G' vs ds
  | _, _, _, .nil => .nil
  | _, _, h, .cons a t => by
    rw [nomrL, Bool.and_eq_true] at h
    exact .cons (nomr_at e h.1 a) (nomrL_at e h.2 t)
end
/-- the call of a def that gets nothing of the state and hands nothing of it out -/
def frm (f : RF) : RF := fun ds p => if nomrL ds = true then (match f ds ⟨p.pot, [], 0⟩ with
  | .ok d q => if nomr d = true then .ok d ⟨q.pot, p.st, p.ver⟩ else .bad
  | .err m q => .err m ⟨q.pot, p.st, p.ver⟩
  | .bad => .bad) else .bad
section
variable {c : Cfg}
theorem frm_back {G G' : Wd} {H H' : Hp} {p q : S} (s : Sat c G p H) (t : Stp c.B ⟨G.hp, [], 0⟩ H G' H') (s' : Sat c G' q H') : Stp c.B G H ⟨G'.hp, G.ps, G.ver⟩ H' ∧ Sat c ⟨G'.hp, G.ps, G.ver⟩ ⟨q.pot, p.st, p.ver⟩ H' := by
  have eg : Ew G ⟨G'.hp, G.ps, G.ver⟩ := ⟨t.gg.hp, fun _ _ h => h⟩
  have same : ∀ a o, a ∈ G.ps → H a = some o → H' a = some o := fun a o m h => t.keep a o h (s.no a m).1 (fun z => nomatch z)
  refine ⟨⟨eg, t.gh, fun a o h n _ => t.keep a o h n (fun z => nomatch z), t.there, t.new, fun _ h => .inl h, Nat.le_refl _, fun _ => ⟨rfl, same⟩⟩, s'.inv, s.len, s.ver, s.nd, fun a m => ⟨(s.no a m).1, ?_⟩, fun j m a h1 h2 => ?_⟩
  · show G'.hp a = none
    cases e : G'.hp a with
    | none => rfl
    | some u =>
      rcases t.new a u e with z | z
      · have := (s.no a m).2
        have z : G a = some u := z
        rw [this] at z; cases z
      · exact absurd z (s.full a (.inr m))
  · have h0 := s.at_ j m a h1 h2
    refine h0.mono eg ?_
    cases e : H a with
    | none => exact absurd e h0.there
    | some u => exact same a u (List.mem_of_getElem? h2) e
theorem spD_frm {f : RF} {vs : List V} {H : Hp} {Q : VK} {E : XK} (h : spD c (frm f) vs H Q E) : spD c f vs H Q E := by
  obtain ⟨G, ds, p, a, gh, gP, s, h⟩ := h
  unfold frm at h
  by_cases z : nomrL ds = true
  · rw [if_pos z] at h
    have s0 : Sat c ⟨G.hp, [], 0⟩ ⟨p.pot, [], 0⟩ H := ⟨s.inv, rfl, rfl, .nil, (fun a m => nomatch m), fun j m a h1 _ => by cases h1⟩
    refine ⟨⟨G.hp, [], 0⟩, ds, ⟨p.pot, [], 0⟩, nomrL_at (G := G) (G' := ⟨G.hp, [], 0⟩) (fun _ _ h => h) z a, gh, gP, s0, ?_⟩
    cases e : f ds ⟨p.pot, [], 0⟩ with
    | bad => rw [e] at h; exact h
    | err m q =>
      rw [e] at h
      intro G' H' t s'
      obtain ⟨t2, s2⟩ := frm_back s t s'
      exact h _ H' t2 s2
    | ok d q =>
      rw [e] at h
      dsimp only at h ⊢
      by_cases y : nomr d = true
      · rw [if_pos y] at h
        intro v G' H' t s' av
        obtain ⟨t2, s2⟩ := frm_back s t s'
        exact h v _ H' t2 s2 (nomr_at (G := G') (G' := ⟨G'.hp, G.ps, G.ver⟩) (fun _ _ h => h) y av)
      · rw [if_neg y] at h; exact h.elim
  · rw [if_neg z] at h; exact h.elim
theorem fn_frm {P : Program} {w : World} {mg : Str → Option Value} {base : Heap} {CX : CXT} {k : Nat} {g : Addr} {f : RF} (F : FnR P w c.K mg base CX k g (spD c f)) : FnR P w c.K mg base CX k g (spD c (frm f)) := F.imp fun _ _ _ _ h => spD_frm h
end
theorem frm_ok {f : RF} {ds : List D} {p q : S} {d : D} (hn : nomrL ds = true) (h : f ds ⟨p.pot, [], 0⟩ = .ok d q) (hd : nomr d = true) : frm f ds p = .ok d ⟨q.pot, p.st, p.ver⟩ := by
  unfold frm
  rw [if_pos hn, h]
  exact if_pos hd
theorem loopM_run {ck : S → Prop} {tg : D → Loc → Option Loc} {body : MS} (I : Nat → Loc → S → Prop) (hI : ∀ k l p, I k l p → ck p) : ∀ {ds : List D} {k : Nat} {l : Loc} {p : S}, I k l p →
    (∀ (i : Nat) d l p, ds[i]? = some d → I (k + i) l p → ∃ l1, tg d l = some l1 ∧ ∃ l2 p2, (body l1 p = .nx l2 p2 ∨ body l1 p = .ct l2 p2) ∧ I (k + i + 1) l2 p2) →
    ∃ l' p', loopM ck tg body ds l p = .nx l' p' ∧ I (k + ds.length) l' p'
  | [], k, l, p, h0, _ => ⟨l, p, if_pos (hI _ _ _ h0), h0⟩
  | d :: ds, k, l, p, h0, hs => by
    obtain ⟨l1, e1, l2, p2, e2, h2⟩ := hs 0 d l p rfl h0
    obtain ⟨l', p', e3, h3⟩ := loopM_run I hI (ds := ds) (k := k + 1) (l := l2) (p := p2) h2 fun i d' l p hd hI => by
      have e : k + (i + 1) = k + 1 + i := by omega
      have := hs (i + 1) d' l p (by simpa using hd) (by rw [e]; exact hI)
      rw [e] at this
      exact this
    refine ⟨l', p', ?_, by rw [List.length_cons, show k + (ds.length + 1) = k + 1 + ds.length by omega]; exact h3⟩
    unfold loopM
    rw [if_pos (hI _ _ _ h0), e1]
    rcases e2 with e2 | e2
    · simp only [e2]; exact e3
    · simp only [e2]; exact e3
@[simp] theorem mixM_ev (a b : M D) (l : Loc) (p : S) : mixM a b l p = (a l p).bind fun x p' => (b l p').bind fun y p'' => mlift (ixM x y p'') l p'' := rfl
@[simp] theorem mfldM_ev (C : Addr) (f : Str) (a : M D) (l : Loc) (p : S) : mfldM C f a l p = (a l p).bind fun x p' => mlift (fldM C f x p') l p' := rfl
@[simp] theorem mlenM_ev (a : M D) (l : Loc) (p : S) : mlenM a l p = (a l p).bind fun x p' => mlift ((lstM x p').map fun ds => D.int ds.length) l p' := rfl
@[simp] theorem mtupM_ev (a : M D) (l : Loc) (p : S) : mtupM a l p = (a l p).bind fun x p' => mlift ((lstM x p').map D.tup) l p' := rfl
@[simp] theorem mlistM_ev (a : M D) (l : Loc) (p : S) : mlistM a l p = (a l p).bind fun x p' => mlift (lstM x p') l p' := rfl
@[simp] theorem mnewM_ev (a : M (List D)) (l : Loc) (p : S) : mnewM a l p = (a l p).bind fun ds p' => .ok (.mr p'.st.length) (p'.mor (.lst ds)) := rfl
@[simp] theorem mdnewM_ev (l : Loc) (p : S) : mdnewM l p = .ok (.mr p.st.length) (p.mor (.dct [])) := rfl
@[simp] theorem mmethM_ev (C : Addr) (m : Str) (f : RF) (a : M D) (b : M (List D)) (l : Loc) (p : S) : mmethM C m f a b l p = (a l p).bind fun d p' => (mlift (insMM C m d p') l p').bind fun x p'' => (b l p'').bind fun ys q => f (x :: ys) q := rfl
@[simp] theorem msrc_ev (a : M D) (l : Loc) (p : S) : msrc a l p = (a l p).bind fun x p' => mlift (plcM x p') l p' := rfl
@[simp] theorem sputM_ev (a b e : M D) (l : Loc) (p : S) : sputM a b e l p = (e l p).toO l fun v p' => (a l p').toO l fun x p'' => (b l p'').toO l fun y p3 => match x, y with
  | .mr j, .int i => lput j i v l p3
  | _, _ => .bad := by
  unfold sputM sbind R.toO
  cases e l p <;> rfl
@[simp] theorem sdputM_ev (a b e : M D) (l : Loc) (p : S) : sdputM a b e l p = (e l p).toO l fun v p' => (a l p').toO l fun x p'' => (b l p'').toO l fun y p3 => match x with
  | .mr j => (match p3.st[j]?, keyD y, sc v with
    | some (.dct kvs), some k, some w => if kvs.length < 1000 then .nx l (p3.put j (.dct (putK kvs k w))) else .bad
    | _, _, _ => .bad)
  | _ => .bad := by
  unfold sdputM sbind R.toO
  cases e l p <;> rfl
@[simp] theorem sfldM_ev (C : Addr) (f : Str) (a e : M D) (l : Loc) (p : S) : sfldM C f a e l p = (e l p).toO l fun v p' => (a l p').toO l fun x p'' => match x with
  | .mr j => (match p''.st[j]? with
    | some (.ins C' ns ds) => if C' = C ∧ ns.length < 1000 then .nx l (p''.put j (.ins C (putN f v ns ds).1 (putN f v ns ds).2)) else .bad
    | _ => .bad)
  | _ => .bad := by
  unfold sfldM sbind R.toO
  cases e l p <;> rfl
@[simp] theorem saugM_ev (f : Int → Int → Int) (a b e : M D) (l : Loc) (p : S) : saugM f a b e l p = (a l p).toO l fun x p' => (b l p').toO l fun y p'' => match x, y with
  | .mr j, .int i => (match p''.st[j]? with
    | some (.lst ds) => (match atI ds i with
      | some (.int old) => sbind e (fun v l p => match v with
        | .int w => lput j i (.int (f old w)) l p
        | _ => .bad) l p''
      | _ => .bad)
    | _ => .bad)
  | _, _ => .bad := by
  unfold saugM sbind R.toO
  cases a l p <;> rfl
end Den
namespace Den
open PySem L2
section
variable {c : Cfg} {E : St → XK}
/-- [x] * n, a new list -/
def fRepN : D → D → Option (List D)
  | .lst [d], .int k => if 0 ≤ k ∧ k ≤ 1000 then some (List.replicate k.toNat d) else none
  | _, _ => none
def mrepN (a b : M D) : M (List D) := mbind a fun x => mbind b fun y => mlift (fRepN x y)
theorem sen_rep {ta tb : TE} {a b : M D} (ha : SE c E ta a) (hb : SE c E tb b) : SEN c E (tOp rRep ta tb) (mrepN a b) := by
  intro G0 H0 G H σ l pot r Q post
  refine Sn.goN ha r post fun x dx p G1 H1 s1 r1 hx post1 => ?_
  refine Sn.goN hb r1 post1 fun y dy p2 G2 H2 s2 r2 hy post2 => ?_
  have hx2 := At.mono s2.gg hx
  cases e : fRepN dx dy with
  | none => rw [e] at post2; exact post2.elim
  | some es =>
    rw [e] at post2
    unfold fRepN at e
    split at e
    · split at e
      · rename_i z
        obtain ⟨p, vs, rfl, h, al⟩ := at_lst hx2
        obtain ⟨v, rfl, hv⟩ := atl1 al
        rw [at_int hy]
        cases e
        refine ⟨p, _, [v], rfl, rfl, r2.stp.gh _ _ h, by omega, by omega, ?_, ?_⟩
        · show 1 * _ ≤ sizeLine
          refine sz1000 ?_
          omega
        · rw [rep_flat]
          exact sen_of r2 (atl_rep hv _) post2
      · cases e
    · cases e
@[simp] theorem mrepN_ev (a b : M D) (l : Loc) (p : S) : mrepN a b l p = (a l p).bind fun x p' => (b l p').bind fun y p'' => mlift (fRepN x y) l p'' := rfl
end
end Den
namespace Den
open PySem L2
mutual
/-- what is told, with the lists of the state put in -/
def resD (st : List MO) : Nat → D → Option D
  | k + 1, .mr j => match st[j]? with
    | some (.lst ds) => (resL st k ds).map .lst
    | _ => none
  | k + 1, .lst ds => (resL st k ds).map .lst
  | k + 1, .tup ds => (resL st k ds).map .tup
  | _, d => if nomr d = true then some d else none
def resL (st : List MO) : Nat → List D → Option (List D)
  | _, [] => some []
  | k, d :: ds => match resD st k d, resL st k ds with
    | some e, some es => some (e :: es)
    | _, _ => none
end
section
open Classical
variable {c : Cfg}
/-- the world in which the lists of the state stand -/
noncomputable def Wd.giv (G : Wd) (st : List MO) (H : Hp) (ps : List Addr) (ver : Nat) : Wd := ⟨fun b => if ∃ (j : Nat) (ds : List D), G.ps[j]? = some b ∧ st[j]? = some (.lst ds) then H b else G b, ps, ver⟩
theorem giv_at {G : Wd} {H : Hp} {q : S} {ps : List Addr} {ver : Nat} (s : Sat c G q H) : Ex G.hp (G.giv q.st H ps ver).hp := fun a o h => by
  have h : G a = some o := h
  show (if _ then _ else _) = some o
  rw [if_neg]
  · exact h
  · rintro ⟨j, ds, h1, _⟩
    rw [(s.no a (List.mem_of_getElem? h1)).2] at h
    cases h
theorem giv_lst {G : Wd} {H : Hp} {q : S} {ps : List Addr} {ver j : Nat} {a : Addr} {ds : List D} (h1 : G.ps[j]? = some a) (h2 : q.st[j]? = some (.lst ds)) : (G.giv q.st H ps ver) a = H a := if_pos ⟨j, ds, h1, h2⟩
mutual
theorem resD_at {G : Wd} {H : Hp} {q : S} {ps : List Addr} {ver : Nat} (s : Sat c G q H) : ∀ (k : Nat) (d : D) (v : V) (e : D), At c.P G v d → resD q.st k d = some e → At c.P (G.giv q.st H ps ver) v e
  | k + 1, .mr j, v, e, a, h => by
    rw [resD] at h
    split at h
    · rename_i ds hj
      obtain ⟨b, rfl, hb, vs, h1, h2⟩ := mr_place s a hj
      cases h3 : resL q.st k ds with
      | none => rw [h3] at h; cases h
      | some es =>
        rw [h3] at h
        cases h
        exact .lst (by rw [giv_lst hb hj]; exact h1) (resL_at s k ds vs es h2 h3)
    · cases h
  | k + 1, .lst ds, v, e, a, h => by
    rw [resD] at h
    obtain ⟨p, vs, rfl, hg, al⟩ := at_lst a
    cases h3 : resL q.st k ds with
    | none => rw [h3] at h; cases h
    | some es =>
      rw [h3] at h
      cases h
      exact .lst (giv_at s _ _ hg) (resL_at s k ds vs es al h3)
  | k + 1, .tup ds, v, e, a, h => by
    rw [resD] at h
    obtain ⟨p, vs, rfl, hg, al⟩ := at_tup a
    cases h3 : resL q.st k ds with
    | none => rw [h3] at h; cases h
    | some es =>
      rw [h3] at h
      cases h
      exact .tup (giv_at s _ _ hg) (resL_at s k ds vs es al h3)
  | 0, d, v, e, a, h => by
    have h : (if nomr d = true then some d else none) = some e := by
      cases d <;> (unfold resD at h; exact h)
    split at h
    · rename_i z
      cases h
      exact nomr_at (G := G) (giv_at s) z a
    · cases h
  | k + 1, .non, v, e, a, h => by
    unfold resD at h
    split at h
    · cases h; exact nomr_at (G := G) (giv_at s) (by assumption) a
    · cases h
  | k + 1, .bl b, v, e, a, h => by
    unfold resD at h
    split at h
    · cases h; exact nomr_at (G := G) (giv_at s) (by assumption) a
    · cases h
  | k + 1, .int i, v, e, a, h => by
    unfold resD at h
    split at h
    · cases h; exact nomr_at (G := G) (giv_at s) (by assumption) a
    · cases h
  | k + 1, .str x, v, e, a, h => by
    unfold resD at h
    split at h
    · cases h; exact nomr_at (G := G) (giv_at s) (by assumption) a
    · cases h
  | k + 1, .ins C ns ds, v, e, a, h => by
    unfold resD at h
    split at h
    · cases h; exact nomr_at (G := G) (giv_at s) (by assumption) a
    · cases h
  | k + 1, .pot, v, e, a, h => by
    unfold resD at h
    split at h
    · cases h; exact nomr_at (G := G) (giv_at s) (by assumption) a
    · cases h
  | k + 1, .ty n, v, e, a, h => by
    unfold resD at h
    split at h
    · cases h; exact nomr_at (G := G) (giv_at s) (by assumption) a
    · cases h
  | k + 1, .cls C, v, e, a, h => by
    unfold resD at h
    split at h
    · cases h; exact nomr_at (G := G) (giv_at s) (by assumption) a
    · cases h
  | k + 1, .dct kvs, v, e, a, h => by
    unfold resD at h
    split at h
    · cases h; exact nomr_at (G := G) (giv_at s) (by assumption) a
    · cases h
theorem resL_at {G : Wd} {H : Hp} {q : S} {ps : List Addr} {ver : Nat} (s : Sat c G q H) : ∀ (k : Nat) (ds : List D) (vs : List V) (es : List D), AtL c.P G vs ds → resL q.st k ds = some es → AtL c.P (G.giv q.st H ps ver) vs es
  | k, [], vs, es, a, h => by
    cases a
    rw [resL] at h
    cases h
    exact .nil
  | k, d :: ds, vs, es, a, h => by
    cases a with
    | cons a al =>
      rw [resL] at h
      split at h
      · rename_i e es' h1 h2
        cases h
        exact .cons (resD_at s k d _ e a h1) (resL_at s k ds _ es' al h2)
      · cases h
end
end
end Den
namespace PL
open PySem L2 Den
noncomputable section
def c_bits_of_1 : M (List D) := (mcomp (mbind (mvar 0) fun x => mlift (seqOf x)) 1 mtrue (op2 fShl (mret (D.int 1)) (mvar 1)))
def dn_bits_of : MS := (sret (opn fSum (acons (mfreeze c_bits_of_1) anil)))
def D_bits_of : RF := denF 1 2 (dn_bits_of)
def c_stands_of_1 : M (List D) := (mcomp (mbind (acons (op1 fBits (mvar 0)) anil) fun x => mlift (rng1 x)) 1 (mtru (op2 fAnd (op2 fShr (mvar 0) (mvar 1)) (mret (D.int 1)))) (mvar 1))
def dn_stands_of (A : CA) : MS := (sret (opn fTuple (acons (mfreeze c_stands_of_1) anil)))
def D_stands_of (A : CA) : RF := denF 1 2 (dn_stands_of A)
def L_Heightslook_2 : MS := (sdputM (mvar 1) (mvar 3) (op2 fOr (mdget2 (mvar 1) (mvar 3) (mret (D.int 0))) (op2 fShl (mret (D.int 1)) (mvar 2))))
def b_Heightslook_2 (A : CA) : MS := (sforM (msrc (mfldM A.Heights "_row" (mvar 0))) (enumD 0) (gset2 2 3) L_Heightslook_2)
def b_Heightslook_3l1 (A : CA) : MS := (sasg (mixM (mfldM A.Heights "_firsts" (mvar 0)) (mvar 2)) (gset 4))
def b_Heightslook_3l2 (A : CA) : MS := (sif (mnot (mtru (op2 fAnd (mvar 4) (mdget2 (mvar 1) (mixM (mfldM A.Heights "_lows" (mvar 0)) (mvar 2)) (mret (D.int 0)))))) (saugM (fun i j => i + j) (mfldM A.Heights "_lows" (mvar 0)) (mvar 2) (mret (D.int 1))) sskip)
def b_Heightslook_3l3 (A : CA) : MS := (sputM (mfldM A.Heights "_low_stands" (mvar 0)) (mvar 2) (op2 fAnd (mvar 4) (mdget2 (mvar 1) (mixM (mfldM A.Heights "_lows" (mvar 0)) (mvar 2)) (mret (D.int 0)))))
def b_Heightslook_3l4 (A : CA) : MS := (sasg (mixM (mfldM A.Heights "_seconds" (mvar 0)) (mvar 2)) (gset 5))
def b_Heightslook_3l5 (A : CA) : MS := (sif (mtru (op2 fAnd (mvar 5) (mdget2 (mvar 1) (op2 fAdd (mixM (mfldM A.Heights "_highs" (mvar 0)) (mvar 2)) (mret (D.int 1))) (mret (D.int 0))))) (saugM (fun i j => i + j) (mfldM A.Heights "_highs" (mvar 0)) (mvar 2) (mret (D.int 1))) sskip)
def b_Heightslook_3l6 (A : CA) : MS := (sputM (mfldM A.Heights "_high_stands" (mvar 0)) (mvar 2) (op2 fAnd (mvar 5) (mdget2 (mvar 1) (mixM (mfldM A.Heights "_highs" (mvar 0)) (mvar 2)) (mret (D.int 0)))))
def L_Heightslook_3 (A : CA) : MS := (sseq (b_Heightslook_3l1 A)
    (sseq (b_Heightslook_3l2 A)
    (sseq (b_Heightslook_3l3 A)
    (sseq (b_Heightslook_3l4 A)
    (sseq (b_Heightslook_3l5 A)
    (b_Heightslook_3l6 A))))))
def b_Heightslook_3 (A : CA) : MS := (sfor (mbind (mfldM A.Heights "_moving" (mvar 0)) fun x => mlift (tupOf x)) (gset 2) (L_Heightslook_3 A))
def dn_Heightslook (A : CA) : MS := (sseq (sasg mdnewM (gset 1))
    (sseq (b_Heightslook_2 A)
    (b_Heightslook_3 A)))
def D_Heightslook (A : CA) : RF := denF 1 6 (dn_Heightslook A)
def c_Heightsleading_to_1 (A : CA) : M (List D) := (mcomp (mbind (mfldM A.Heights "_moving" (mvar 0)) fun x => mlift (tupOf x)) 2 (mtru (op2 fAnd (op2 fShr (op2 fOr (mixM (mfldM A.Heights "_firsts" (mvar 0)) (mvar 2)) (mixM (mfldM A.Heights "_seconds" (mvar 0)) (mvar 2))) (mvar 1)) (mret (D.int 1)))) (mvar 2))
def dn_Heightsleading_to (A : CA) : MS := (sret (mcall D_bits_of (acons (mfreeze (c_Heightsleading_to_1 A)) anil)))
def D_Heightsleading_to (A : CA) : RF := denF 2 3 (dn_Heightsleading_to A)
def b_Heights_init_01 (A : CA) : MS := (sfldM A.Heights "_marks" (mvar 0) (mfld A.Web "_marks" (mvar 1)))
def b_Heights_init_02 (A : CA) : MS := (sfldM A.Heights "_moving" (mvar 0) (mfld A.Web "_moving" (mvar 1)))
def b_Heights_init_03 (A : CA) : MS := (sfldM A.Heights "_row" (mvar 0) (mnewM (mlistN (acons (mvar 2) anil))))
def c_Heights_init_1 (A : CA) : M (List D) := (mcomp (mbind (mfld A.Web "_first" (mvar 1)) fun x => mlift (tupOf x)) 3 mtrue (mcall D_bits_of (acons (mvar 3) anil)))
def b_Heights_init_04 (A : CA) : MS := (sfldM A.Heights "_firsts" (mvar 0) (mfreeze (c_Heights_init_1 A)))
def c_Heights_init_2 (A : CA) : M (List D) := (mcomp (mbind (mfld A.Web "_second" (mvar 1)) fun x => mlift (tupOf x)) 3 mtrue (mcall D_bits_of (acons (mvar 3) anil)))
def b_Heights_init_05 (A : CA) : MS := (sfldM A.Heights "_seconds" (mvar 0) (mfreeze (c_Heights_init_2 A)))
def c_Heights_init_3 (A : CA) : M (List D) := (mcomp (mbind (acons (mfld A.Web "_size" (mvar 1)) anil) fun x => mlift (rng1 x)) 4 mtrue (mmethM A.Heights "_leading_to" (D_Heightsleading_to A) (mvar 0) (acons (mvar 4) anil)))
def b_Heights_init_06 (A : CA) : MS := (sfldM A.Heights "_before" (mvar 0) (mfreeze (c_Heights_init_3 A)))
def c_Heights_init_4 : M (List D) := (mcomp (mbind (mvar 3) fun x => mlift (tupOf x)) 5 mtrue (mixM (mvar 2) (mvar 5)))
def c_Heights_init_5 (A : CA) : M (List D) := (mcomp (mbind (mfld A.Web "_first" (mvar 1)) fun x => mlift (tupOf x)) 3 mtrue (mckw fMinD (acons (mfreeze c_Heights_init_4) anil) (acons (mret (D.int 0)) anil)))
def b_Heights_init_07 (A : CA) : MS := (sfldM A.Heights "_lows" (mvar 0) (mnewM (c_Heights_init_5 A)))
def c_Heights_init_6 : M (List D) := (mcomp (mbind (mvar 3) fun x => mlift (tupOf x)) 5 mtrue (mixM (mvar 2) (mvar 5)))
def c_Heights_init_7 (A : CA) : M (List D) := (mcomp (mbind (mfld A.Web "_second" (mvar 1)) fun x => mlift (tupOf x)) 3 mtrue (mckw fMaxD (acons (mfreeze c_Heights_init_6) anil) (acons (mret (D.int 0)) anil)))
def b_Heights_init_08 (A : CA) : MS := (sfldM A.Heights "_highs" (mvar 0) (mnewM (c_Heights_init_7 A)))
def b_Heights_init_09 (A : CA) : MS := (sfldM A.Heights "_low_stands" (mvar 0) (mnewM (mrepN (mfreeze (mshort (acons (mret (D.int 0)) anil))) (mfld A.Web "_size" (mvar 1)))))
def b_Heights_init_10 (A : CA) : MS := (sfldM A.Heights "_high_stands" (mvar 0) (mnewM (mrepN (mfreeze (mshort (acons (mret (D.int 0)) anil))) (mfld A.Web "_size" (mvar 1)))))
def b_Heights_init_11 (A : CA) : MS := (sdrop (mmethM A.Heights "_look" (D_Heightslook A) (mvar 0) anil))
def dn_Heights_init (A : CA) : MS := (sseq (b_Heights_init_01 A)
    (sseq (b_Heights_init_02 A)
    (sseq (b_Heights_init_03 A)
    (sseq (b_Heights_init_04 A)
    (sseq (b_Heights_init_05 A)
    (sseq (b_Heights_init_06 A)
    (sseq (b_Heights_init_07 A)
    (sseq (b_Heights_init_08 A)
    (sseq (b_Heights_init_09 A)
    (sseq (b_Heights_init_10 A)
    (b_Heights_init_11 A)))))))))))
def D_Heights_init (A : CA) : RF := denF 3 6 (dn_Heights_init A)
def c_Heights_below_1 (A : CA) : M (List D) := (mcomp2M (msrc (mfldM A.Heights "_row" (mvar 0))) (enumD 0) 2 3 (mtest (op2 fLt (mvar 3) (mixM (mvar 1) (mvar 2)))) (mvar 2))
def dn_Heights_below (A : CA) : MS := (sret (mcall D_bits_of (acons (mfreeze (c_Heights_below_1 A)) anil)))
def D_Heights_below (A : CA) : RF := denF 2 4 (dn_Heights_below A)
def b_Heightsraised_price_1 (A : CA) : MS := (sasg (mixM (mfldM A.Heights "_lows" (mvar 0)) (mvar 1)) (gset 3))
def b_Heightsraised_price_2 (A : CA) : MS := (sif (mnot (mtru (op2 fAnd (mixM (mfldM A.Heights "_low_stands" (mvar 0)) (mvar 1)) (op1 fInv (mvar 2))))) (saug 3 (fun i j => i + j) (mret (D.int 1))) sskip)
def b_Heightsraised_price_3 (A : CA) : MS := (sasg (mixM (mfldM A.Heights "_highs" (mvar 0)) (mvar 1)) (gset 4))
def b_Heightsraised_price_4 (A : CA) : MS := (sif (mtru (op2 fAnd (mixM (mfldM A.Heights "_high_stands" (mvar 0)) (mvar 1)) (mvar 2))) (saug 4 (fun i j => i + j) (mret (D.int 1))) sskip)
def b_Heightsraised_price_5 (A : CA) : MS := (sret (mcall D_half_of (acons (mixM (mfldM A.Heights "_marks" (mvar 0)) (mvar 1)) (acons (mvar 3) (acons (mvar 4) anil)))))
def dn_Heightsraised_price (A : CA) : MS := (sseq (b_Heightsraised_price_1 A)
    (sseq (b_Heightsraised_price_2 A)
    (sseq (b_Heightsraised_price_3 A)
    (sseq (b_Heightsraised_price_4 A)
    (b_Heightsraised_price_5 A)))))
def D_Heightsraised_price (A : CA) : RF := denF 3 5 (dn_Heightsraised_price A)
def L_Heightsleavers_2 (A : CA) : MS := (sif (mand (mtru (op2 fAnd (op2 fShr (mvar 2) (mvar 4)) (mret (D.int 1)))) (mtest (op2 fLe (mmethM A.Heights "_raised_price" (D_Heightsraised_price A) (mvar 0) (acons (mvar 4) (acons (mvar 1) anil))) (mixM (mfldM A.Heights "_row" (mvar 0)) (mvar 4))))) (sasg (op2 fOr (mvar 3) (op2 fShl (mret (D.int 1)) (mvar 4))) (gset 3)) sskip)
def b_Heightsleavers_2 (A : CA) : MS := (sfor (mbind (mfldM A.Heights "_moving" (mvar 0)) fun x => mlift (tupOf x)) (gset 4) (L_Heightsleavers_2 A))
def dn_Heightsleavers (A : CA) : MS := (sseq (sasg (mret (D.int 0)) (gset 3))
    (sseq (b_Heightsleavers_2 A)
    (sret (mvar 3))))
def D_Heightsleavers (A : CA) : RF := denF 3 5 (dn_Heightsleavers A)
def b_Heights_leaving_2 (A : CA) : MS := (sasg (mmethM A.Heights "_leavers" (D_Heightsleavers A) (mvar 0) (acons (op2 fOr (mvar 1) (mvar 2)) (acons (mvar 1) anil))) (gset 4))
def b_Heights_leaving_3w2 : MS := (sasg (op2 fAnd (mvar 1) (op1 fInv (mvar 4))) (gset 1))
def L_Heights_leaving_3w4 (A : CA) : MS := (sasg (op2 fOr (mvar 5) (mixM (mfldM A.Heights "_before" (mvar 0)) (mvar 6))) (gset 5))
def b_Heights_leaving_3w4 (A : CA) : MS := (sfor (mbind (mcall (D_stands_of A) (acons (mvar 4) anil)) fun x => mlift (tupOf x)) (gset 6) (L_Heights_leaving_3w4 A))
def b_Heights_leaving_3w5 (A : CA) : MS := (sasg (mmethM A.Heights "_leavers" (D_Heightsleavers A) (mvar 0) (acons (op2 fOr (mvar 1) (mvar 2)) (acons (op2 fAnd (mvar 1) (mvar 5)) anil))) (gset 4))
def W_Heights_leaving_3 (A : CA) : MS := (sseq (sappend 3 (mvar 4))
    (sseq b_Heights_leaving_3w2
    (sseq (sasg (mret (D.int 0)) (gset 5))
    (sseq (b_Heights_leaving_3w4 A)
    (b_Heights_leaving_3w5 A)))))
def b_Heights_leaving_3 (A : CA) : MS := (swhile (mtru (mvar 4)) (W_Heights_leaving_3 A))
def dn_Heights_leaving (A : CA) : MS := (sseq (sown (mshort anil) 3)
    (sseq (b_Heights_leaving_2 A)
    (sseq (b_Heights_leaving_3 A)
    (sgive 3 (sret (mvar 3))))))
def D_Heights_leaving (A : CA) : RF := denD 3 7 (D.int 0) (dn_Heights_leaving A)
end
end PL
namespace PL
open PySem L2 Den
noncomputable section
end
end PL
namespace PL
open PySem L2 Den
noncomputable section
def dn_Heights_told (A : CA) : MS := (sret (mtupM (mfldM A.Heights "_row" (mvar 0))))
def D_Heights_told (A : CA) : RF := denF 1 1 (dn_Heights_told A)
def L_Heights_lift_1 (A : CA) : MS := (saugM (fun i j => i + j) (mfldM A.Heights "_row" (mvar 0)) (mvar 2) (mret (D.int 1)))
def b_Heights_lift_1 (A : CA) : MS := (sfor (mbind (mcall (D_stands_of A) (acons (mvar 1) anil)) fun x => mlift (tupOf x)) (gset 2) (L_Heights_lift_1 A))
def b_Heights_lift_2 (A : CA) : MS := (sdrop (mmethM A.Heights "_look" (D_Heightslook A) (mvar 0) anil))
def dn_Heights_lift (A : CA) : MS := (sseq (b_Heights_lift_1 A)
    (b_Heights_lift_2 A))
def D_Heights_lift (A : CA) : RF := denF 2 3 (dn_Heights_lift A)
def L_Heights_staying_1 : MS := (sasg (op2 fAnd (mvar 1) (op1 fInv (mvar 3))) (gset 1))
def b_Heights_staying_1 (A : CA) : MS := (sfor (mbind (mmethM A.Heights "leaving" (D_Heights_leaving A) (mvar 0) (acons (mvar 1) (acons (mvar 2) anil))) fun x => mlift (lstOf x)) (gset 3) L_Heights_staying_1)
def dn_Heights_staying (A : CA) : MS := (sseq (b_Heights_staying_1 A)
    (sret (mvar 1)))
def D_Heights_staying (A : CA) : RF := denF 3 4 (dn_Heights_staying A)
def dn_lift_once (A : CA) : MS := (sdrop (mmethM A.Heights "lift" (D_Heights_lift A) (mvar 2) (acons (mmethM A.Heights "staying" (D_Heights_staying A) (mvar 2) (acons (mmethM A.Heights "below" (D_Heights_below A) (mvar 2) (acons (mcall (D_dues_at A) (acons (mvar 0) (acons (mvar 1) anil))) anil)) (acons (mret (D.int 0)) anil))) anil)))
def D_lift_once (A : CA) : RF := denF 3 3 (dn_lift_once A)
def b_numbers_at_1 (A : CA) : MS := (sasg (mmakeM A.Heights (D_Heights_init A) (acons (mvar 0) (acons (op2 fRep (mfreeze (mshort (acons (mret (D.int 0)) anil))) (mfld A.Web "_size" (mvar 0))) anil))) (gset 2))
def L_numbers_at_2 (A : CA) : MS := (sdrop (mcall (D_lift_once A) (acons (mvar 0) (acons (mvar 3) (acons (mvar 2) anil)))))
def b_numbers_at_2 (A : CA) : MS := (sfor (mbind (acons (op2 fAdd (mvar 1) (mret (D.int 1))) anil) fun x => mlift (rng1 x)) (gset 3) (L_numbers_at_2 A))
def b_numbers_at_3 (A : CA) : MS := (sret (mmethM A.Heights "told" (D_Heights_told A) (mvar 2) anil))
def dn_numbers_at (A : CA) : MS := (sseq (b_numbers_at_1 A)
    (sseq (b_numbers_at_2 A)
    (b_numbers_at_3 A)))
def I_numbers_at (A : CA) : RF := denF 2 4 (dn_numbers_at A)
def D_numbers_at (A : CA) : RF := frm (I_numbers_at A)
def b_check_chips_1 (A : CA) : MS := (sdrop (mcall (D_check_web A) (acons (mvar 0) anil)))
def b_check_chips_2 : MS := (sdrop (mcall D_check_whole (acons (mvar 1) anil)))
def b_check_chips_3 : MS := (sdrop (mcall D_check_least (acons (mvar 1) (acons (mret (D.int 0)) anil))))
def b_check_chips_4 : MS := (sdrop (mcall D_check_most (acons (mvar 1) (acons (mvar 2) anil))))
def dn_check_chips (A : CA) : MS := (sseq (b_check_chips_1 A)
    (sseq b_check_chips_2
    (sseq b_check_chips_3
    b_check_chips_4)))
def D_check_chips (A : CA) : RF := denF 3 3 (dn_check_chips A)
end
end PL
namespace Den
open PySem L2
section
variable {c : Cfg} {E : St → XK}
def stryC (body : MS) (hs : List (Nat × MS)) : MS := fun l p => match body l p with
  | .err n l' p' => if (hs.any fun h => h.1 == n) = true then handle n hs l' p' else .bad
  | o => o
inductive SuitesC (c : Cfg) (B : Nat) : List (Value × (Addr → Value → Option Addr → TS)) → List (Nat × MS) → Prop
  | fin {l : List (Value × (Addr → Value → Option Addr → TS))} : SuitesC c B l []
  | cons {m : Nat} {ts : Addr → Value → Option Addr → TS} {s : MS} {l : List (Value × (Addr → Value → Option Addr → TS))} {hs : List (Nat × MS)} (hm : m < B) (h : ∀ a cls d, SS c (fun _ => E0) (ts a cls d) s) (t : SuitesC c B l hs) : SuitesC c B ((.ref (c.ec m), ts) :: l) ((m, s) :: hs)
theorem SuitesC.lt {B : Nat} {ls : List (Value × (Addr → Value → Option Addr → TS))} {hs : List (Nat × MS)} (su : SuitesC c B ls hs) : ∀ n, (hs.any fun h => h.1 == n) = true → n < B := by
  induction su with
  | fin => intro n h; cases h
  | @cons m ts s l hs hm h t ih =>
    intro n hn
    rw [List.any_cons, Bool.or_eq_true] at hn
    rcases hn with hn | hn
    · have : m = n := by simpa using hn
      omega
    · exact ih n hn
theorem ss_manyC {B : Nat} {De : Ends} {ls : List (Value × (Addr → Value → Option Addr → TS))} {hs : List (Nat × MS)} (ap : ApartB c B) (su : SuitesC c B ls hs) {n : Nat} {G0 : Wd} {H0 : Hp} {G' : Wd} {H' : Hp} {σ' : St} {l' : Loc} {p' : S} (r : Rel c G0 H0 G' H' σ' l' p') (hb : n < B) (hn : (hs.any fun h => h.1 == n) = true)
    (post : PostS c E G0 H0 G' De (handle n hs l' p')) : wMany c.K (fun cls d σ H => E σ cls d H) De ls (.ref (c.ec n)) none σ' H' := by
  induction su with
  | fin => cases hn
  | @cons m ts s l hs hm h t ih =>
    refine ⟨decide (n = m), ap n m hb hm, fun e a _ => ?_, fun e => ?_⟩
    · unfold handle at post
      rw [if_pos (of_decide_eq_true e)] at post
      exact h _ _ _ _ _ _ _ _ _ _ r De (PostS.noE post)
    · unfold handle at post
      rw [if_neg (of_decide_eq_false e)] at post
      refine ih ?_ post
      rw [List.any_cons, Bool.or_eq_true] at hn
      rcases hn with hn | hn
      · exact absurd (by simpa using hn : m = n).symm (of_decide_eq_false e)
      · exact hn
theorem ss_tryC {B : Nat} {tb : WX → TS} {body : MS} {ls : List (Value × (Addr → Value → Option Addr → TS))} {hs : List (Nat × MS)} (ap : ApartB c B) (hb : ∀ W : WX, SS c (fun σ cls d H => W cls d σ H) (tb W) body) (su : SuitesC c B ls hs) :
    SS c E (fun D σ H => tb (wMany c.K (fun cls d σ H => E σ cls d H) D ls) D σ H) (stryC body hs) := by
  intro G0 H0 G H σ l pot r De post
  refine hb _ G0 H0 G H σ l pot r De ?_
  unfold stryC at post
  cases e : body l pot with
  | err n l' p' =>
    rw [e] at post
    dsimp only at post
    split at post
    · rename_i hn
      exact fun G' H' σ' e' r' => ss_manyC ap su r' (su.lt n hn) hn (PostS.mono post e')
    · exact post.elim
  | nx l' p' => rw [e] at post; exact post
  | rt d p' => rw [e] at post; exact post
  | bk l' p' => rw [e] at post; exact post
  | ct l' p' => rw [e] at post; exact post
  | bad => rw [e] at post; exact post
end
mutual
def pdS : D → Option PyData
  | .non => some .none
  | .bl b => some (.bool b)
  | .int i => some (.int i)
  | .lst ds => (pdSL ds).map .list
  | .tup ds => (pdSL ds).map .tuple
  | .str s => if PyData.canLay0 (.str s) = true then some (.str s) else none
  | .ins _ _ _ => none
  | .pot => none
  | .ty _ => none
  | .cls _ => none
  | .dct _ => none
  | .mr _ => none
def pdSL : List D → Option (List PyData)
  | [] => some []
  | d :: ds => match pdS d, pdSL ds with
    | some a, some as => some (a :: as)
    | _, _ => none
end
mutual
theorem pdS_at {K : PySem.W.Frag} {P : Addr} {G : Wd} {H : Hp} (gh : Ex G H) : ∀ (d : D) (x : V) (q : PyData), At P G x d → pdS d = some q → Dp K H x q ∧ q.canLay0 = true
  | .non, _, _, h, e => by cases h; cases e; exact ⟨.non, rfl⟩
  | .bl b, _, _, h, e => by cases h; cases e; exact ⟨.bl b, rfl⟩
  | .int i, _, _, h, e => by cases h; cases e; exact ⟨.int i, rfl⟩
  | .lst ds, _, q, h, e => by
    obtain ⟨p, vs, rfl, hg, al⟩ := at_lst h
    unfold pdS at e
    cases e1 : pdSL ds with
    | none => rw [e1] at e; cases e
    | some as =>
      rw [e1] at e
      cases e
      obtain ⟨h1, h2⟩ := pdSL_at gh ds vs as al e1
      exact ⟨.lst (.inl (.inl (gh _ _ hg))) h1, by simp only [PyData.canLay0]; exact h2⟩
  | .tup ds, _, q, h, e => by
    obtain ⟨p, vs, rfl, hg, al⟩ := at_tup h
    unfold pdS at e
    cases e1 : pdSL ds with
    | none => rw [e1] at e; cases e
    | some as =>
      rw [e1] at e
      cases e
      obtain ⟨h1, h2⟩ := pdSL_at gh ds vs as al e1
      exact ⟨.tup (.inl (.inl (gh _ _ hg))) h1, by simp only [PyData.canLay0]; exact h2⟩
  | .str s, _, _, h, e => by
    cases h
    unfold pdS at e
    split at e
    · rename_i z
      cases e
      exact ⟨.str s, z⟩
    · cases e
  | .ins _ _ _, _, _, _, e => by cases e
  | .pot, _, _, _, e => by cases e
  | .ty _, _, _, _, e => by cases e
  | .cls _, _, _, _, e => by cases e
  | .dct _, _, _, _, e => by cases e
  | .mr _, _, _, _, e => by cases e
theorem pdSL_at {K : PySem.W.Frag} {P : Addr} {G : Wd} {H : Hp} (gh : Ex G H) : ∀ (ds : List D) (vs : List V) (qs : List PyData), AtL P G vs ds → pdSL ds = some qs → DpAll K H vs qs ∧ PyData.canLayAll0 qs = true
  | [], _, _, h, e => by cases h; cases e; exact ⟨.nil, rfl⟩
  | d :: ds, _, qs, h, e => by
    cases h with
    | cons h1 h2 =>
      unfold pdSL at e
      split at e
      · rename_i a as e1 e2
        cases e
        obtain ⟨a1, a2⟩ := pdS_at gh d _ a h1 e1
        obtain ⟨b1, b2⟩ := pdSL_at gh ds _ as h2 e2
        exact ⟨.cons a1 b1, by simp only [PyData.canLayAll0, a2, b2]; rfl⟩
      · cases e
end
def fEqS (neg : Bool) (x y : D) : Option D := match pdS x, pdS y with
  | some a, some b => if a.depth ≤ 64 ∧ b.depth ≤ 64 then some (.bl (if neg then !PyData.eqv a b else PyData.eqv a b)) else none
  | _, _ => none
section
variable {c : Cfg} {E : St → XK}
theorem s2_neS : S2 c (rNeD c.K) (fEqS true) := ⟨fun G H x y dx dy d gh _ hx hy e => by
  unfold fEqS at e
  split at e
  · rename_i a b e1 e2
    split at e
    · rename_i z
      cases e
      obtain ⟨a1, a2⟩ := pdS_at (K := c.K) gh dx x a hx e1
      obtain ⟨b1, b2⟩ := pdS_at (K := c.K) gh dy y b hy e2
      exact ops_pure gh (.bl _) fun Q q => ⟨a, b, a1, b1, shp a2 z.1, shp b2 z.2, q⟩
    · cases e
  · cases e⟩
end
end Den
namespace PL
open PySem L2 Den
noncomputable section
def b_row_number_01 : MS := (sdrop (mcall D_check_whole (acons (mvar 0) (acons (mvar 1) (acons (mvar 2) (acons (mvar 3) anil))))))
def b_row_number_02 : MS := (sdrop (mcall D_check_least (acons (mvar 0) (acons (mret (D.int 1)) anil))))
def b_row_number_03 : MS := (sdrop (mcall D_check_one_or_two (acons (mvar 1) anil)))
def b_row_number_04 : MS := (sdrop (mcall D_check_least (acons (mvar 2) (acons (mret (D.int 0)) anil))))
def b_row_number_05 : MS := (sdrop (mcall D_check_range (acons (mvar 3) (acons (mret (D.int 0)) (acons (mvar 0) anil)))))
def b_row_number_06 : MS := (sasg (op2 fDiv (op2 fMul (mvar 0) (op2 fSub (mvar 0) (mret (D.int 1)))) (mret (D.int 2))) (gset 4))
def b_row_number_07 : MS := (sif (mtest (op2 fEq (mvar 1) (mret (D.int 2)))) (sdrop (mcall D_check_least (acons (op2 fAdd (mvar 2) (mret (D.int 1))) (acons (mvar 4) anil)))) sskip)
def b_row_number_08 : MS := (sdrop (mcall D_check_most (acons (mvar 0) (acons (mret (D.int 40)) anil))))
def b_row_number_09 : MS := (sdrop (mcall D_check_most (acons (mvar 2) (acons (mret (D.int 10000000000000000000000000000000000000000)) anil))))
def b_row_number_10 : MS := (sasg (mif (mtest (op2 fEq (mvar 1) (mret (D.int 1)))) (op2 fAdd (mvar 2) (mret (D.int 1))) (op2 fAdd (op2 fAdd (mvar 2) (mret (D.int 1))) (mvar 4))) (gset 5))
def b_row_number_11 : MS := (sasg (op2 fAdd (op2 fMul (op2 fDiv (mvar 5) (mvar 0)) (mvar 3)) (opn fMax2 (acons (mret (D.int 0)) (acons (op2 fAdd (op2 fSub (mvar 3) (mvar 0)) (op2 fMod (mvar 5) (mvar 0))) anil)))) (gset 6))
def b_row_number_12 : MS := (sret (mif (mtest (op2 fEq (mvar 1) (mret (D.int 1)))) (mvar 6) (op2 fSub (mvar 6) (op2 fDiv (op2 fMul (mvar 3) (op2 fSub (mvar 3) (mret (D.int 1)))) (mret (D.int 2))))))
def dn_row_number : MS := (sseq b_row_number_01
    (sseq b_row_number_02
    (sseq b_row_number_03
    (sseq b_row_number_04
    (sseq b_row_number_05
    (sseq b_row_number_06
    (sseq b_row_number_07
    (sseq b_row_number_08
    (sseq b_row_number_09
    (sseq b_row_number_10
    (sseq b_row_number_11
    b_row_number_12)))))))))))
def D_row_number : RF := denF 4 7 (dn_row_number)
def b_number_row_1 (A : CA) : MS := (sdrop (mcall (D_check_chips A) (acons (mvar 0) (acons (mvar 1) (acons (mret (D.int 5000)) anil)))))
def b_number_row_2 (A : CA) : MS := (sret (mcall (D_numbers_at A) (acons (mvar 0) (acons (mvar 1) anil))))
def dn_number_row (A : CA) : MS := (sseq (b_number_row_1 A)
    (b_number_row_2 A))
def D_number_row (A : CA) : RF := denF 2 2 (dn_number_row A)
def b_law_line_1 : MS := (sown (mshort (acons (mfreeze (mshort anil)) anil)) 2)
def L_law_line_2 : MS := (sappend 2 (mfreeze (mshort (acons (op2 fSub (mvar 3) (mret (D.int 1))) (acons (op2 fAdd (mvar 3) (mret (D.int 1))) anil)))))
def b_law_line_2 : MS := (sfor (mbind (acons (mret (D.int 1)) (acons (mvar 0) anil)) fun x => mlift (rng2 x)) (gset 3) L_law_line_2)
def c_law_line_1 : M (List D) := (mcomp (mbind (acons (mvar 0) anil) fun x => mlift (rng1 x)) 3 mtrue (mret D.non))
def b_law_line_4 : MS := (sasg (op2 fCat (mfreeze (mshort (acons (mtupd (acons (mret (D.str "chips")) (acons (mret (D.int 0)) anil))) anil))) (mfreeze c_law_line_1)) (gset 4))
def c_law_line_2 : M (List D) := (mcomp (mbind (acons (op2 fAdd (mvar 0) (mret (D.int 1))) anil) fun x => mlift (rng1 x)) 3 mtrue (mvar 1))
def c_law_line_3 : M (List D) := (mcomp (mbind (mvar 2) fun x => mlift (lstOf x)) 5 mtrue (mfreeze (mlistN (acons (mvar 5) anil))))
def b_law_line_5 : MS := (sgive 2 (sret (mfreeze (mshort (acons (mvar 2) (acons (mfreeze c_law_line_3) (acons (mfreeze c_law_line_2) (acons (mvar 4) anil))))))))
def dn_law_line : MS := (sseq b_law_line_1
    (sseq b_law_line_2
    (sseq (sappend 2 (mfreeze (mshort anil)))
    (sseq b_law_line_4
    b_law_line_5))))
def D_law_line : RF := denF 2 6 (dn_law_line)
def b_law_distance_1l1 : MS := (sasg (op2 fSub (op2 fMul (mvar 0) (op2 fIx (mvar 3) (mvar 4))) (op2 fMul (mvar 4) (op2 fAdd (mvar 2) (mret (D.int 1))))) (gset 5))
def b_law_distance_1l2 : MS := (sif (mand (mtest (op2 fEq (mvar 1) (mret (D.int 1)))) (mor (mtest (op2 fGt (mvar 5) (mret (D.int 0)))) (mtest (op2 fLt (op2 fMul (mret (D.int 4)) (mvar 5)) (op2 fSub (mret (D.int 0)) (op2 fMul (mvar 0) (mvar 0))))))) (sret (mret (D.bl false))) sskip)
def b_law_distance_1l3 : MS := (sif (mand (mtest (op2 fEq (mvar 1) (mret (D.int 2)))) (mor (mtest (op2 fLt (mvar 5) (mret (D.int 0)))) (mtest (op2 fGt (op2 fMul (mret (D.int 2)) (mvar 5)) (op2 fMul (op2 fMul (mvar 0) (mvar 4)) (op2 fSub (mvar 0) (mvar 4))))))) (sret (mret (D.bl false))) sskip)
def L_law_distance_1 : MS := (sseq b_law_distance_1l1
    (sseq b_law_distance_1l2
    b_law_distance_1l3))
def b_law_distance_1 : MS := (sfor (mbind (acons (op2 fAdd (mvar 0) (mret (D.int 1))) anil) fun x => mlift (rng1 x)) (gset 4) L_law_distance_1)
def dn_law_distance : MS := (sseq b_law_distance_1
    (sret (mret (D.bl true))))
def D_law_distance : RF := denF 4 6 (dn_law_distance)
def b_law_numbers_right_2l1 : MS := (sasg (mcall D_row_number (acons (mvar 0) (acons (mvar 1) (acons (mvar 2) (acons (mvar 4) anil))))) (gset 5))
def b_law_numbers_right_2l2 : MS := (sif (mnot (mtru (mcall D_is_integer (acons (mvar 5) anil)))) (sret (mret (D.bl false))) sskip)
def L_law_numbers_right_2 : MS := (sseq b_law_numbers_right_2l1
    (sseq b_law_numbers_right_2l2
    (sappend 3 (mvar 5))))
def b_law_numbers_right_2 : MS := (sfor (mbind (acons (op2 fAdd (mvar 0) (mret (D.int 1))) anil) fun x => mlift (rng1 x)) (gset 4) L_law_numbers_right_2)
def b_law_numbers_right_3 : MS := (sgive 3 (sif (mor (mnot (mtru (mcall D_law_true_row (acons (mcall D_law_line (acons (mvar 0) (acons (mvar 1) anil))) (acons (mvar 2) (acons (mvar 3) anil)))))) (mnot (mtru (mcall D_law_distance (acons (mvar 0) (acons (mvar 1) (acons (mvar 2) (acons (mvar 3) anil)))))))) (sret (mret (D.bl false))) sskip))
def b_law_numbers_right_4t1 (A : CA) : MS := (sasg (mcall (D_number_row A) (acons (mcmeth A.Web (D_Web_line A) (acons (mvar 0) (acons (mvar 1) anil))) (acons (mvar 2) anil))) (gset 6))
def b_law_numbers_right_4t2 : MS := (sret (vand (mcall D_law_is_row (acons (mvar 6) (acons (op2 fAdd (mvar 0) (mret (D.int 1))) anil))) (op2 (fEqD false) (mfreeze (mlistN (acons (mvar 6) anil))) (mvar 3))))
def b_law_numbers_right_4 (A : CA) : MS := (sif (mtest (op2 fLe (mvar 2) (mret (D.int 20)))) (sseq (b_law_numbers_right_4t1 A)
    b_law_numbers_right_4t2) sskip)
def dn_law_numbers_right (A : CA) : MS := (sseq (sown (mshort anil) 3)
    (sseq b_law_numbers_right_2
    (sseq b_law_numbers_right_3
    (sseq (b_law_numbers_right_4 A)
    (sret (mret (D.bl true)))))))
def D_law_numbers_right (A : CA) : RF := denF 3 7 (dn_law_numbers_right A)
def b_law_refusal_2 : MS := (stryC (sdrop (mcall D_row_number (acons (mvar 0) (acons (mvar 1) (acons (mvar 2) (acons (mvar 3) anil)))))) [(0, (sasg (mret (D.str "kind")) (gset 4))), (1, (sasg (mret (D.str "number")) (gset 4))), (3, (sasg (mret (D.str "much")) (gset 4)))])
def dn_law_refusal : MS := (sseq (sasg (mret (D.str "none")) (gset 4))
    (sseq b_law_refusal_2
    (sret (mvar 4))))
def D_law_refusal : RF := denF 4 5 (dn_law_refusal)
def b_law_refused_k50_01 : MS := (sasg (op2 fDiv (op2 fMul (mvar 0) (op2 fSub (mvar 0) (mret (D.int 1)))) (mret (D.int 2))) (gset 2))
def b_law_refused_k50_02 : MS := (sown (mshort (acons (mcall D_law_refusal (acons (mret (D.int 0)) (acons (mret (D.int 1)) (acons (mret (D.int 5)) (acons (mret (D.int 0)) anil))))) (acons (mcall D_law_refusal (acons (mvar 0) (acons (mret (D.int 3)) (acons (mret (D.int 5)) (acons (mret (D.int 0)) anil))))) (acons (mcall D_law_refusal (acons (mvar 0) (acons (mret (D.int 1)) (acons (op1 fNeg (mret (D.int 1))) (acons (mret (D.int 0)) anil))))) anil)))) 3)
def b_law_refused_k50_03 : MS := (sappend 3 (mcall D_law_refusal (acons (mvar 0) (acons (mret (D.int 1)) (acons (mret (D.int 5)) (acons (op2 fAdd (mvar 0) (mret (D.int 1))) anil))))))
def b_law_refused_k50_04 : MS := (sappend 3 (mcall D_law_refusal (acons (mvar 0) (acons (mret (D.int 1)) (acons (mret (D.int 5)) (acons (op2 fSub (op1 fNeg (mret (D.int 1))) (mcall D_law_draw (acons (mvar 1) (acons (mret (D.int 3)) anil)))) anil))))))
def b_law_refused_k50_05 : MS := (sappend 3 (mcall D_law_refusal (acons (mvar 0) (acons (mret (D.bl true)) (acons (mret (D.int 5)) (acons (mret (D.int 0)) anil))))))
def b_law_refused_k50_06 : MS := (sappend 3 (mcall D_law_refusal (acons (mret (D.int 41)) (acons (mret (D.int 1)) (acons (mret (D.int 5)) (acons (mret (D.int 3)) anil))))))
def b_law_refused_k50_07 : MS := (sappend 3 (mcall D_law_refusal (acons (mvar 0) (acons (mret (D.int 1)) (acons (op2 fAdd (op2 fPow (mret (D.int 10)) (mret (D.int 40))) (mret (D.int 1))) (acons (mret (D.int 0)) anil))))))
def b_law_refused_k50_08 : MS := (sappend 3 (mcall D_law_refusal (acons (mret (D.int 41)) (acons (mret (D.int 2)) (acons (mret (D.int 5)) (acons (mret (D.int 3)) anil))))))
def b_law_refused_k50_09 : MS := (sasg (mfreeze (mshort (acons (mret (D.str "number")) (acons (mret (D.str "number")) (acons (mret (D.str "number")) (acons (mret (D.str "number")) (acons (mret (D.str "number")) (acons (mret (D.str "kind")) (acons (mret (D.str "much")) (acons (mret (D.str "much")) (acons (mret (D.str "number")) anil))))))))))) (gset 4))
def b_law_refused_k50_10 : MS := (sgive 3 (sif (mtest (op2 (fEqS true) (mvar 3) (mvar 4))) (sret (mret (D.bl false))) sskip))
def b_law_refused_k50_11 : MS := (sif (mand (mtest (op2 fGe (mvar 2) (mret (D.int 2)))) (mtest (op2 fNe (mcall D_law_refusal (acons (mvar 0) (acons (mret (D.int 2)) (acons (op2 fSub (mvar 2) (mret (D.int 2))) (acons (mvar 0) anil))))) (mret (D.str "number"))))) (sret (mret (D.bl false))) sskip)
def b_law_refused_k50_12 : MS := (sret (op2 fEq (mcall D_law_refusal (acons (mvar 0) (acons (mret (D.int 2)) (acons (opn fMax2 (acons (mret (D.int 0)) (acons (op2 fSub (mvar 2) (mret (D.int 1))) anil))) (acons (mvar 0) anil))))) (mret (D.str "none"))))
def dn_law_refused_k50 : MS := (sseq b_law_refused_k50_01
    (sseq b_law_refused_k50_02
    (sseq b_law_refused_k50_03
    (sseq b_law_refused_k50_04
    (sseq b_law_refused_k50_05
    (sseq b_law_refused_k50_06
    (sseq b_law_refused_k50_07
    (sseq b_law_refused_k50_08
    (sseq b_law_refused_k50_09
    (sseq b_law_refused_k50_10
    (sseq b_law_refused_k50_11
    b_law_refused_k50_12)))))))))))
def D_law_refused_k50 : RF := denF 2 5 (dn_law_refused_k50)
def b_law_k50_1 : MS := (sasg (op2 fAdd (mret (D.int 1)) (mcall D_law_draw (acons (mvar 1) (acons (mret (D.int 12)) anil)))) (gset 2))
def b_law_k50_2 : MS := (sasg (op2 fDiv (op2 fMul (mvar 2) (op2 fSub (mvar 2) (mret (D.int 1)))) (mret (D.int 2))) (gset 3))
def b_law_k50_3l1l1 : MS := (sasg (mcall D_law_draw (acons (mvar 1) (acons (mret (D.int 30)) anil))) (gset 6))
def b_law_k50_3l1l2 : MS := (sif (mtest (op2 fEq (mvar 5) (mret (D.int 1)))) (sasg (op2 fAdd (mvar 6) (op2 fMul (mret (D.int 30)) (mcall D_law_draw (acons (mvar 1) (acons (mret (D.int 30)) anil))))) (gset 6)) sskip)
def b_law_k50_3l1l3 : MS := (sif (mtest (op2 fEq (mvar 5) (mret (D.int 2)))) (sasg (op2 fAdd (op2 fAdd (op2 fMul (op2 fAdd (mret (D.int 1)) (mvar 6)) (op2 fPow (mret (D.int 10)) (mret (D.int 20)))) (op2 fMul (mret (D.int 30)) (mcall D_law_draw (acons (mvar 1) (acons (mret (D.int 30)) anil))))) (mcall D_law_draw (acons (mvar 1) (acons (mret (D.int 30)) anil)))) (gset 6)) sskip)
def b_law_k50_3l1l4 : MS := (sif (mtest (op2 fEq (mvar 5) (mret (D.int 3)))) (sasg (mret (D.int 0)) (gset 6)) sskip)
def b_law_k50_3l1l5 : MS := (sif (mtest (op2 fEq (mvar 4) (mret (D.int 2)))) (sasg (op2 fAdd (mvar 6) (opn fMax2 (acons (mret (D.int 0)) (acons (op2 fSub (mvar 3) (mret (D.int 1))) anil)))) (gset 6)) sskip)
def b_law_k50_3l1l6 (A : CA) : MS := (sif (mnot (mtru (mcall (D_law_numbers_right A) (acons (mvar 2) (acons (mvar 4) (acons (mvar 6) anil)))))) (sret (mret (D.bl false))) sskip)
def L_law_k50_3l1 (A : CA) : MS := (sseq b_law_k50_3l1l1
    (sseq b_law_k50_3l1l2
    (sseq b_law_k50_3l1l3
    (sseq b_law_k50_3l1l4
    (sseq b_law_k50_3l1l5
    (b_law_k50_3l1l6 A))))))
def L_law_k50_3 (A : CA) : MS := (sfor (mbind (acons (mret (D.int 4)) anil) fun x => mlift (rng1 x)) (gset 5) (L_law_k50_3l1 A))
def b_law_k50_3 (A : CA) : MS := (sfor (mbind (acons (mret (D.int 1)) (acons (mret (D.int 3)) anil)) fun x => mlift (rng2 x)) (gset 4) (L_law_k50_3 A))
def b_law_k50_4 : MS := (sret (mcall D_law_refused_k50 (acons (mvar 2) (acons (mvar 1) anil))))
def dn_law_k50 (A : CA) : MS := (sseq b_law_k50_1
    (sseq b_law_k50_2
    (sseq (b_law_k50_3 A)
    b_law_k50_4)))
end
end PL
namespace K50
open PySem L2 Den PL
def top (i : Nat) : Stmt := PySem.Challenge.pw_pursewebs_k50_line_numbers_in_closed_for.main.body.getD i (.Pass ⟨0, 0, 0, 0⟩)
abbrev s_is_integer : Stmt := top 9
abbrev s_check_whole : Stmt := top 10
abbrev s_whole_list : Stmt := top 11
abbrev s_check_range : Stmt := top 12
abbrev s_check_least : Stmt := top 13
abbrev s_check_one_or_two : Stmt := top 14
abbrev s_check_most : Stmt := top 15
abbrev s_as_stands : Stmt := top 16
abbrev s_row_number : Stmt := top 19
abbrev s_is_due : Stmt := top 21
abbrev s_due_in_range : Stmt := top 22
abbrev s_due_too_great : Stmt := top 23
abbrev s_check_due : Stmt := top 24
abbrev s_due_at : Stmt := top 25
abbrev s_check_kinds : Stmt := top 29
abbrev s_check_steps : Stmt := top 30
abbrev s_check_parts : Stmt := top 28
abbrev s_check_plain : Stmt := top 31
abbrev s_Web_init : Stmt := inClass (top 33) 0
abbrev s_Web_line : Stmt := inClass (top 33) 13
abbrev s_check_web : Stmt := top 34
abbrev s_half_of : Stmt := top 36
abbrev s_dues_at : Stmt := top 38
abbrev s_bits_of : Stmt := top 40
abbrev s_stands_of : Stmt := top 41
abbrev s_Heightslook : Stmt := inClass (top 42) 2
abbrev s_Heightsleading_to : Stmt := inClass (top 42) 1
abbrev s_Heights_init : Stmt := inClass (top 42) 0
abbrev s_Heights_told : Stmt := inClass (top 42) 3
abbrev s_Heights_lift : Stmt := inClass (top 42) 4
abbrev s_Heights_below : Stmt := inClass (top 42) 5
abbrev s_Heightsraised_price : Stmt := inClass (top 42) 11
abbrev s_Heightsleavers : Stmt := inClass (top 42) 10
abbrev s_Heights_leaving : Stmt := inClass (top 42) 7
abbrev s_Heights_staying : Stmt := inClass (top 42) 8
abbrev s_Heights_price : Stmt := inClass (top 42) 9
abbrev s_lift_once : Stmt := top 45
abbrev s_numbers_at : Stmt := top 46
abbrev s_check_chips : Stmt := top 48
abbrev s_number_row : Stmt := top 49
abbrev s_law_draw : Stmt := top 52
abbrev s_law_whole : Stmt := top 53
abbrev s_law_is_row : Stmt := top 54
abbrev s_law_due_at : Stmt := top 55
abbrev s_law_half : Stmt := top 56
abbrev s_law_low : Stmt := top 57
abbrev s_law_high : Stmt := top 58
abbrev s_law_price : Stmt := top 59
abbrev s_law_fall : Stmt := top 60
abbrev s_law_true_row : Stmt := top 61
abbrev s_law_line : Stmt := top 62
abbrev s_law_distance : Stmt := top 63
abbrev s_law_numbers_right : Stmt := top 64
abbrev s_law_refusal : Stmt := top 65
abbrev s_law_refused : Stmt := top 66
abbrev s_law : Stmt := top 67
abbrev s_law_pot : Stmt := top 51
abbrev s_Web_dues : Stmt := inClass (top 33) 5
abbrev s_Web_first : Stmt := inClass (top 33) 2
abbrev s_Web_marks : Stmt := inClass (top 33) 4
abbrev s_Web_moving : Stmt := inClass (top 33) 7
abbrev s_Web_second : Stmt := inClass (top 33) 3
abbrev s_Web_size : Stmt := inClass (top 33) 1
structure Adr where
  ca : CA
  is_integer : Addr
  fd_is_integer : FuncData
  check_whole : Addr
  fd_check_whole : FuncData
  whole_list : Addr
  fd_whole_list : FuncData
  check_range : Addr
  fd_check_range : FuncData
  check_least : Addr
  fd_check_least : FuncData
  check_one_or_two : Addr
  fd_check_one_or_two : FuncData
  check_most : Addr
  fd_check_most : FuncData
  as_stands : Addr
  fd_as_stands : FuncData
  row_number : Addr
  fd_row_number : FuncData
  is_due : Addr
  fd_is_due : FuncData
  due_in_range : Addr
  fd_due_in_range : FuncData
  due_too_great : Addr
  fd_due_too_great : FuncData
  check_due : Addr
  fd_check_due : FuncData
  due_at : Addr
  fd_due_at : FuncData
  check_kinds : Addr
  fd_check_kinds : FuncData
  check_steps : Addr
  fd_check_steps : FuncData
  check_parts : Addr
  fd_check_parts : FuncData
  check_plain : Addr
  fd_check_plain : FuncData
  Web_init : Addr
  fd_Web_init : FuncData
  Web_line : Addr
  fd_Web_line : FuncData
  check_web : Addr
  fd_check_web : FuncData
  half_of : Addr
  fd_half_of : FuncData
  dues_at : Addr
  fd_dues_at : FuncData
  bits_of : Addr
  fd_bits_of : FuncData
  stands_of : Addr
  fd_stands_of : FuncData
  Heightslook : Addr
  fd_Heightslook : FuncData
  Heightsleading_to : Addr
  fd_Heightsleading_to : FuncData
  Heights_init : Addr
  fd_Heights_init : FuncData
  Heights_told : Addr
  fd_Heights_told : FuncData
  Heights_lift : Addr
  fd_Heights_lift : FuncData
  Heights_below : Addr
  fd_Heights_below : FuncData
  Heightsraised_price : Addr
  fd_Heightsraised_price : FuncData
  Heightsleavers : Addr
  fd_Heightsleavers : FuncData
  Heights_leaving : Addr
  fd_Heights_leaving : FuncData
  Heights_staying : Addr
  fd_Heights_staying : FuncData
  Heights_price : Addr
  fd_Heights_price : FuncData
  lift_once : Addr
  fd_lift_once : FuncData
  numbers_at : Addr
  fd_numbers_at : FuncData
  check_chips : Addr
  fd_check_chips : FuncData
  number_row : Addr
  fd_number_row : FuncData
  law_draw : Addr
  fd_law_draw : FuncData
  law_whole : Addr
  fd_law_whole : FuncData
  law_is_row : Addr
  fd_law_is_row : FuncData
  law_due_at : Addr
  fd_law_due_at : FuncData
  law_half : Addr
  fd_law_half : FuncData
  law_low : Addr
  fd_law_low : FuncData
  law_high : Addr
  fd_law_high : FuncData
  law_price : Addr
  fd_law_price : FuncData
  law_fall : Addr
  fd_law_fall : FuncData
  law_true_row : Addr
  fd_law_true_row : FuncData
  law_line : Addr
  fd_law_line : FuncData
  law_distance : Addr
  fd_law_distance : FuncData
  law_numbers_right : Addr
  fd_law_numbers_right : FuncData
  law_refusal : Addr
  fd_law_refusal : FuncData
  law_refused : Addr
  fd_law_refused : FuncData
  Web_dues : Addr
  fd_Web_dues : FuncData
  Web_first : Addr
  fd_Web_first : FuncData
  Web_marks : Addr
  fd_Web_marks : FuncData
  Web_moving : Addr
  fd_Web_moving : FuncData
  Web_second : Addr
  fd_Web_second : FuncData
  Web_size : Addr
  fd_Web_size : FuncData
  pr_Web_dues : Addr
  pr_Web_first : Addr
  pr_Web_marks : Addr
  pr_Web_moving : Addr
  pr_Web_second : Addr
  pr_Web_size : Addr
  pm_Web_line : Addr
  x_PurseError : Addr
structure Txt (c : Cfg) (mg : Str → Option Value) (A : Adr) : Prop where
  pl : c.Pot
  F_is_integer : Fun c.K "is_integer" "is_integer" s_is_integer A.is_integer A.fd_is_integer
  m_is_integer : mg "is_integer" = some (.ref A.is_integer)
  F_check_whole : Fun c.K "check_whole" "check_whole" s_check_whole A.check_whole A.fd_check_whole
  m_check_whole : mg "check_whole" = some (.ref A.check_whole)
  F_whole_list : Fun c.K "whole_list" "whole_list" s_whole_list A.whole_list A.fd_whole_list
  m_whole_list : mg "whole_list" = some (.ref A.whole_list)
  F_check_range : Fun c.K "check_range" "check_range" s_check_range A.check_range A.fd_check_range
  m_check_range : mg "check_range" = some (.ref A.check_range)
  F_check_least : Fun c.K "check_least" "check_least" s_check_least A.check_least A.fd_check_least
  m_check_least : mg "check_least" = some (.ref A.check_least)
  F_check_one_or_two : Fun c.K "check_one_or_two" "check_one_or_two" s_check_one_or_two A.check_one_or_two A.fd_check_one_or_two
  m_check_one_or_two : mg "check_one_or_two" = some (.ref A.check_one_or_two)
  F_check_most : Fun c.K "check_most" "check_most" s_check_most A.check_most A.fd_check_most
  m_check_most : mg "check_most" = some (.ref A.check_most)
  F_as_stands : Fun c.K "as_stands" "as_stands" s_as_stands A.as_stands A.fd_as_stands
  m_as_stands : mg "as_stands" = some (.ref A.as_stands)
  F_row_number : Fun c.K "row_number" "row_number" s_row_number A.row_number A.fd_row_number
  m_row_number : mg "row_number" = some (.ref A.row_number)
  F_is_due : Fun c.K "is_due" "is_due" s_is_due A.is_due A.fd_is_due
  m_is_due : mg "is_due" = some (.ref A.is_due)
  F_due_in_range : Fun c.K "due_in_range" "due_in_range" s_due_in_range A.due_in_range A.fd_due_in_range
  m_due_in_range : mg "due_in_range" = some (.ref A.due_in_range)
  F_due_too_great : Fun c.K "due_too_great" "due_too_great" s_due_too_great A.due_too_great A.fd_due_too_great
  m_due_too_great : mg "due_too_great" = some (.ref A.due_too_great)
  F_check_due : Fun c.K "check_due" "check_due" s_check_due A.check_due A.fd_check_due
  m_check_due : mg "check_due" = some (.ref A.check_due)
  F_due_at : Fun c.K "due_at" "due_at" s_due_at A.due_at A.fd_due_at
  m_due_at : mg "due_at" = some (.ref A.due_at)
  F_check_kinds : Fun c.K "check_kinds" "check_kinds" s_check_kinds A.check_kinds A.fd_check_kinds
  m_check_kinds : mg "check_kinds" = some (.ref A.check_kinds)
  F_check_steps : Fun c.K "check_steps" "check_steps" s_check_steps A.check_steps A.fd_check_steps
  m_check_steps : mg "check_steps" = some (.ref A.check_steps)
  F_check_parts : Fun c.K "check_parts" "check_parts" s_check_parts A.check_parts A.fd_check_parts
  m_check_parts : mg "check_parts" = some (.ref A.check_parts)
  F_check_plain : Fun c.K "check_plain" "check_plain" s_check_plain A.check_plain A.fd_check_plain
  m_check_plain : mg "check_plain" = some (.ref A.check_plain)
  F_Web_init : Fun c.K "__init__" "Web.__init__" s_Web_init A.Web_init A.fd_Web_init
  F_Web_line : FunD c.K "line" "Web.line" (defArgs s_Web_line) (defBody s_Web_line) (defScope s_Web_line) [(V.int 1)] [] A.Web_line A.fd_Web_line
  cm_Web_line : ClX.CMet c.K A.ca.Web (.type "type") "line" A.pm_Web_line A.Web_line
  F_check_web : Fun c.K "check_web" "check_web" s_check_web A.check_web A.fd_check_web
  m_check_web : mg "check_web" = some (.ref A.check_web)
  F_half_of : Fun c.K "half_of" "half_of" s_half_of A.half_of A.fd_half_of
  m_half_of : mg "half_of" = some (.ref A.half_of)
  F_dues_at : Fun c.K "dues_at" "dues_at" s_dues_at A.dues_at A.fd_dues_at
  m_dues_at : mg "dues_at" = some (.ref A.dues_at)
  F_bits_of : Fun c.K "bits_of" "bits_of" s_bits_of A.bits_of A.fd_bits_of
  m_bits_of : mg "bits_of" = some (.ref A.bits_of)
  F_stands_of : Fun c.K "stands_of" "stands_of" s_stands_of A.stands_of A.fd_stands_of
  m_stands_of : mg "stands_of" = some (.ref A.stands_of)
  F_Heightslook : Fun c.K "_look" "Heights._look" s_Heightslook A.Heightslook A.fd_Heightslook
  F_Heightsleading_to : Fun c.K "_leading_to" "Heights._leading_to" s_Heightsleading_to A.Heightsleading_to A.fd_Heightsleading_to
  F_Heights_init : Fun c.K "__init__" "Heights.__init__" s_Heights_init A.Heights_init A.fd_Heights_init
  F_Heights_told : Fun c.K "told" "Heights.told" s_Heights_told A.Heights_told A.fd_Heights_told
  F_Heights_lift : Fun c.K "lift" "Heights.lift" s_Heights_lift A.Heights_lift A.fd_Heights_lift
  F_Heights_below : Fun c.K "below" "Heights.below" s_Heights_below A.Heights_below A.fd_Heights_below
  F_Heightsraised_price : Fun c.K "_raised_price" "Heights._raised_price" s_Heightsraised_price A.Heightsraised_price A.fd_Heightsraised_price
  F_Heightsleavers : Fun c.K "_leavers" "Heights._leavers" s_Heightsleavers A.Heightsleavers A.fd_Heightsleavers
  F_Heights_leaving : FunD c.K "leaving" "Heights.leaving" (defArgs s_Heights_leaving) (defBody s_Heights_leaving) (defScope s_Heights_leaving) [(V.int 0)] [] A.Heights_leaving A.fd_Heights_leaving
  F_Heights_staying : Fun c.K "staying" "Heights.staying" s_Heights_staying A.Heights_staying A.fd_Heights_staying
  F_Heights_price : Fun c.K "price" "Heights.price" s_Heights_price A.Heights_price A.fd_Heights_price
  F_lift_once : Fun c.K "lift_once" "lift_once" s_lift_once A.lift_once A.fd_lift_once
  m_lift_once : mg "lift_once" = some (.ref A.lift_once)
  F_numbers_at : Fun c.K "numbers_at" "numbers_at" s_numbers_at A.numbers_at A.fd_numbers_at
  m_numbers_at : mg "numbers_at" = some (.ref A.numbers_at)
  F_check_chips : Fun c.K "check_chips" "check_chips" s_check_chips A.check_chips A.fd_check_chips
  m_check_chips : mg "check_chips" = some (.ref A.check_chips)
  F_number_row : Fun c.K "number_row" "number_row" s_number_row A.number_row A.fd_number_row
  m_number_row : mg "number_row" = some (.ref A.number_row)
  F_law_draw : Fun c.K "_law_draw" "_law_draw" s_law_draw A.law_draw A.fd_law_draw
  m_law_draw : mg "_law_draw" = some (.ref A.law_draw)
  F_law_whole : Fun c.K "_law_whole" "_law_whole" s_law_whole A.law_whole A.fd_law_whole
  m_law_whole : mg "_law_whole" = some (.ref A.law_whole)
  F_law_is_row : Fun c.K "_law_is_row" "_law_is_row" s_law_is_row A.law_is_row A.fd_law_is_row
  m_law_is_row : mg "_law_is_row" = some (.ref A.law_is_row)
  F_law_due_at : Fun c.K "_law_due_at" "_law_due_at" s_law_due_at A.law_due_at A.fd_law_due_at
  m_law_due_at : mg "_law_due_at" = some (.ref A.law_due_at)
  F_law_half : Fun c.K "_law_half" "_law_half" s_law_half A.law_half A.fd_law_half
  m_law_half : mg "_law_half" = some (.ref A.law_half)
  F_law_low : Fun c.K "_law_low" "_law_low" s_law_low A.law_low A.fd_law_low
  m_law_low : mg "_law_low" = some (.ref A.law_low)
  F_law_high : Fun c.K "_law_high" "_law_high" s_law_high A.law_high A.fd_law_high
  m_law_high : mg "_law_high" = some (.ref A.law_high)
  F_law_price : Fun c.K "_law_price" "_law_price" s_law_price A.law_price A.fd_law_price
  m_law_price : mg "_law_price" = some (.ref A.law_price)
  F_law_fall : Fun c.K "_law_fall" "_law_fall" s_law_fall A.law_fall A.fd_law_fall
  m_law_fall : mg "_law_fall" = some (.ref A.law_fall)
  F_law_true_row : Fun c.K "_law_true_row" "_law_true_row" s_law_true_row A.law_true_row A.fd_law_true_row
  m_law_true_row : mg "_law_true_row" = some (.ref A.law_true_row)
  F_law_line : Fun c.K "_law_line" "_law_line" s_law_line A.law_line A.fd_law_line
  m_law_line : mg "_law_line" = some (.ref A.law_line)
  F_law_distance : Fun c.K "_law_distance" "_law_distance" s_law_distance A.law_distance A.fd_law_distance
  m_law_distance : mg "_law_distance" = some (.ref A.law_distance)
  F_law_numbers_right : Fun c.K "_law_numbers_right" "_law_numbers_right" s_law_numbers_right A.law_numbers_right A.fd_law_numbers_right
  m_law_numbers_right : mg "_law_numbers_right" = some (.ref A.law_numbers_right)
  F_law_refusal : Fun c.K "_law_refusal" "_law_refusal" s_law_refusal A.law_refusal A.fd_law_refusal
  m_law_refusal : mg "_law_refusal" = some (.ref A.law_refusal)
  F_law_refused : Fun c.K "_law_refused" "_law_refused" s_law_refused A.law_refused A.fd_law_refused
  m_law_refused : mg "_law_refused" = some (.ref A.law_refused)
  F_Web_dues : Fun c.K "dues" "Web.dues" s_Web_dues A.Web_dues A.fd_Web_dues
  p_Web_dues : PropOf c.K A.ca.Web "dues" A.pr_Web_dues A.Web_dues
  F_Web_first : Fun c.K "first" "Web.first" s_Web_first A.Web_first A.fd_Web_first
  p_Web_first : PropOf c.K A.ca.Web "first" A.pr_Web_first A.Web_first
  F_Web_marks : Fun c.K "marks" "Web.marks" s_Web_marks A.Web_marks A.fd_Web_marks
  p_Web_marks : PropOf c.K A.ca.Web "marks" A.pr_Web_marks A.Web_marks
  F_Web_moving : Fun c.K "moving" "Web.moving" s_Web_moving A.Web_moving A.fd_Web_moving
  p_Web_moving : PropOf c.K A.ca.Web "moving" A.pr_Web_moving A.Web_moving
  F_Web_second : Fun c.K "second" "Web.second" s_Web_second A.Web_second A.fd_Web_second
  p_Web_second : PropOf c.K A.ca.Web "second" A.pr_Web_second A.Web_second
  F_Web_size : Fun c.K "size" "Web.size" s_Web_size A.Web_size A.fd_Web_size
  p_Web_size : PropOf c.K A.ca.Web "size" A.pr_Web_size A.Web_size
  sp_Heightsleading_to : PySem.W.findIn c.K (.ref A.ca.Heights) "_leading_to" = some (some (.ref A.Heightsleading_to))
  fn_Heightsleading_to : PySem.W.isFn c.K (.ref A.Heightsleading_to) = true
  sp_Heightsleavers : PySem.W.findIn c.K (.ref A.ca.Heights) "_leavers" = some (some (.ref A.Heightsleavers))
  fn_Heightsleavers : PySem.W.isFn c.K (.ref A.Heightsleavers) = true
  sp_Heightslook : PySem.W.findIn c.K (.ref A.ca.Heights) "_look" = some (some (.ref A.Heightslook))
  fn_Heightslook : PySem.W.isFn c.K (.ref A.Heightslook) = true
  sp_Heightsraised_price : PySem.W.findIn c.K (.ref A.ca.Heights) "_raised_price" = some (some (.ref A.Heightsraised_price))
  fn_Heightsraised_price : PySem.W.isFn c.K (.ref A.Heightsraised_price) = true
  sp_Heights_below : PySem.W.findIn c.K (.ref A.ca.Heights) "below" = some (some (.ref A.Heights_below))
  fn_Heights_below : PySem.W.isFn c.K (.ref A.Heights_below) = true
  sp_Heights_leaving : PySem.W.findIn c.K (.ref A.ca.Heights) "leaving" = some (some (.ref A.Heights_leaving))
  fn_Heights_leaving : PySem.W.isFn c.K (.ref A.Heights_leaving) = true
  sp_Heights_lift : PySem.W.findIn c.K (.ref A.ca.Heights) "lift" = some (some (.ref A.Heights_lift))
  fn_Heights_lift : PySem.W.isFn c.K (.ref A.Heights_lift) = true
  sp_Heights_staying : PySem.W.findIn c.K (.ref A.ca.Heights) "staying" = some (some (.ref A.Heights_staying))
  fn_Heights_staying : PySem.W.isFn c.K (.ref A.Heights_staying) = true
  sp_Heights_told : PySem.W.findIn c.K (.ref A.ca.Heights) "told" = some (some (.ref A.Heights_told))
  fn_Heights_told : PySem.W.isFn c.K (.ref A.Heights_told) = true
  m_Web : mg "Web" = some (.ref A.ca.Web)
  f_Web : ClsF c.K A.ca.Web
  mk_Web : Mk c.K A.ca.Web A.Web_init
  m_Heights : mg "Heights" = some (.ref A.ca.Heights)
  f_Heights : ClsF c.K A.ca.Heights
  mk_Heights : Mk c.K A.ca.Heights A.Heights_init
  a_Heights__before : NoAttr c.K A.ca.Heights "_before"
  a_Heights__firsts : NoAttr c.K A.ca.Heights "_firsts"
  a_Heights__high_stands : NoAttr c.K A.ca.Heights "_high_stands"
  a_Heights__highs : NoAttr c.K A.ca.Heights "_highs"
  a_Heights__low_stands : NoAttr c.K A.ca.Heights "_low_stands"
  a_Heights__lows : NoAttr c.K A.ca.Heights "_lows"
  a_Heights__marks : NoAttr c.K A.ca.Heights "_marks"
  a_Heights__moving : NoAttr c.K A.ca.Heights "_moving"
  a_Heights__row : NoAttr c.K A.ca.Heights "_row"
  a_Heights__seconds : NoAttr c.K A.ca.Heights "_seconds"
  a_Web__dues : NoAttr c.K A.ca.Web "_dues"
  a_Web__ends : NoAttr c.K A.ca.Web "_ends"
  a_Web__even : NoAttr c.K A.ca.Web "_even"
  a_Web__first : NoAttr c.K A.ca.Web "_first"
  a_Web__greatest_due : NoAttr c.K A.ca.Web "_greatest_due"
  a_Web__marks : NoAttr c.K A.ca.Web "_marks"
  a_Web__moving : NoAttr c.K A.ca.Web "_moving"
  a_Web__second : NoAttr c.K A.ca.Web "_second"
  a_Web__size : NoAttr c.K A.ca.Web "_size"
  cr_Web : ClX.CRead c.K A.ca.Web (.type "type")
  c_GREATEST : ∃ t, mg "GREATEST" = some (.int 10000000000000000000000000000000000000000 t)
  c_LONGEST_LINE : ∃ t, mg "LONGEST_LINE" = some (.int 40 t)
  c_MOST_STANDS : ∃ t, mg "MOST_STANDS" = some (.int 60 t)
  c_MOST_CHIPS : ∃ t, mg "MOST_CHIPS" = some (.int 5000 t)
  n_bool : mg "bool" = none
  n_enumerate : mg "enumerate" = none
  n_int : mg "int" = none
  n_isinstance : mg "isinstance" = none
  n_len : mg "len" = none
  n_list : mg "list" = none
  n_max : mg "max" = none
  n_min : mg "min" = none
  n_range : mg "range" = none
  n_set : mg "set" = none
  n_sorted : mg "sorted" = none
  n_str : mg "str" = none
  n_sum : mg "sum" = none
  n_tuple : mg "tuple" = none
  mE0 : mg "WrongKind" = some (.ref (c.ec 0))
  xE0 : PySem.W.excIn c.K (c.ec 0) [.type "Exception", .type "BaseException", .type "object"] "Exception.__new__" = true
  kE0 : PySem.W.keepIn c.K (.ref (c.ec 0)) = true
  bE0 : PySem.W.subIn c.K (.ref (c.ec 0)) (.type "BaseException") = some true
  tE0 : PySem.W.typeIn c.K (.ref (c.ec 0)) = some (.type "type")
  mE1 : mg "WrongNumber" = some (.ref (c.ec 1))
  xE1 : PySem.W.excIn c.K (c.ec 1) [.type "Exception", .type "BaseException", .type "object"] "Exception.__new__" = true
  kE1 : PySem.W.keepIn c.K (.ref (c.ec 1)) = true
  bE1 : PySem.W.subIn c.K (.ref (c.ec 1)) (.type "BaseException") = some true
  tE1 : PySem.W.typeIn c.K (.ref (c.ec 1)) = some (.type "type")
  mE2 : mg "WrongWeb" = some (.ref (c.ec 2))
  xE2 : PySem.W.excIn c.K (c.ec 2) [.type "Exception", .type "BaseException", .type "object"] "Exception.__new__" = true
  kE2 : PySem.W.keepIn c.K (.ref (c.ec 2)) = true
  bE2 : PySem.W.subIn c.K (.ref (c.ec 2)) (.type "BaseException") = some true
  tE2 : PySem.W.typeIn c.K (.ref (c.ec 2)) = some (.type "type")
  mE3 : mg "TooMuch" = some (.ref (c.ec 3))
  xE3 : PySem.W.excIn c.K (c.ec 3) [.type "Exception", .type "BaseException", .type "object"] "Exception.__new__" = true
  kE3 : PySem.W.keepIn c.K (.ref (c.ec 3)) = true
  bE3 : PySem.W.subIn c.K (.ref (c.ec 3)) (.type "BaseException") = some true
  tE3 : PySem.W.typeIn c.K (.ref (c.ec 3)) = some (.type "type")
  mX_PurseError : mg "PurseError" = some (.ref A.x_PurseError)
  apart : Apart c
theorem gsc_Web_dues : FnScope ["self"] ["self"] (defScope s_Web_dues) := ⟨rfl, rfl, rfl, by decide +kernel, rfl, by decide +kernel, by decide +kernel⟩
theorem gsc_Web_first : FnScope ["self"] ["self"] (defScope s_Web_first) := ⟨rfl, rfl, rfl, by decide +kernel, rfl, by decide +kernel, by decide +kernel⟩
theorem gsc_Web_marks : FnScope ["self"] ["self"] (defScope s_Web_marks) := ⟨rfl, rfl, rfl, by decide +kernel, rfl, by decide +kernel, by decide +kernel⟩
theorem gsc_Web_moving : FnScope ["self"] ["self"] (defScope s_Web_moving) := ⟨rfl, rfl, rfl, by decide +kernel, rfl, by decide +kernel, by decide +kernel⟩
theorem gsc_Web_second : FnScope ["self"] ["self"] (defScope s_Web_second) := ⟨rfl, rfl, rfl, by decide +kernel, rfl, by decide +kernel, by decide +kernel⟩
theorem gsc_Web_size : FnScope ["self"] ["self"] (defScope s_Web_size) := ⟨rfl, rfl, rfl, by decide +kernel, rfl, by decide +kernel, by decide +kernel⟩
abbrev Nn_is_integer : List Str := ["thing"]
theorem sc_is_integer : FnScope Nn_is_integer ["thing"] (defScope s_is_integer) := ⟨rfl, rfl, rfl, by decide +kernel, rfl, by decide +kernel, by decide +kernel⟩
abbrev Nn_check_whole : List Str := ["things", "thing"]
theorem sc_check_whole : FnScope Nn_check_whole ["things"] (defScope s_check_whole) := ⟨rfl, rfl, rfl, by decide +kernel, rfl, by decide +kernel, by decide +kernel⟩
abbrev Nn_whole_list : List Str := ["thing"]
theorem sc_whole_list : FnScope Nn_whole_list ["thing"] (defScope s_whole_list) := ⟨rfl, rfl, rfl, by decide +kernel, rfl, by decide +kernel, by decide +kernel⟩
abbrev Nn_check_range : List Str := ["number", "least", "most"]
theorem sc_check_range : FnScope Nn_check_range ["number", "least", "most"] (defScope s_check_range) := ⟨rfl, rfl, rfl, by decide +kernel, rfl, by decide +kernel, by decide +kernel⟩
abbrev Nn_check_least : List Str := ["number", "least"]
theorem sc_check_least : FnScope Nn_check_least ["number", "least"] (defScope s_check_least) := ⟨rfl, rfl, rfl, by decide +kernel, rfl, by decide +kernel, by decide +kernel⟩
abbrev Nn_check_one_or_two : List Str := ["number"]
theorem sc_check_one_or_two : FnScope Nn_check_one_or_two ["number"] (defScope s_check_one_or_two) := ⟨rfl, rfl, rfl, by decide +kernel, rfl, by decide +kernel, by decide +kernel⟩
abbrev Nn_check_most : List Str := ["number", "most"]
theorem sc_check_most : FnScope Nn_check_most ["number", "most"] (defScope s_check_most) := ⟨rfl, rfl, rfl, by decide +kernel, rfl, by decide +kernel, by decide +kernel⟩
abbrev Nn_as_stands : List Str := ["thing", "size", "stands", "stand"]
theorem sc_as_stands : FnScope Nn_as_stands ["thing", "size"] (defScope s_as_stands) := ⟨rfl, rfl, rfl, by decide +kernel, rfl, by decide +kernel, by decide +kernel⟩
abbrev Nn_row_number : List Str := ["n", "mark", "k", "stand", "bend", "total", "number"]
theorem sc_row_number : FnScope Nn_row_number ["n", "mark", "k", "stand"] (defScope s_row_number) := ⟨rfl, rfl, rfl, by decide +kernel, rfl, by decide +kernel, by decide +kernel⟩
abbrev Nn_is_due : List Str := ["due"]
theorem sc_is_due : FnScope Nn_is_due ["due"] (defScope s_is_due) := ⟨rfl, rfl, rfl, by decide +kernel, rfl, by decide +kernel, by decide +kernel⟩
abbrev Nn_due_in_range : List Str := ["due"]
theorem sc_due_in_range : FnScope Nn_due_in_range ["due"] (defScope s_due_in_range) := ⟨rfl, rfl, rfl, by decide +kernel, rfl, by decide +kernel, by decide +kernel⟩
abbrev Nn_due_too_great : List Str := ["due"]
theorem sc_due_too_great : FnScope Nn_due_too_great ["due"] (defScope s_due_too_great) := ⟨rfl, rfl, rfl, by decide +kernel, rfl, by decide +kernel, by decide +kernel⟩
abbrev Nn_check_due : List Str := ["due"]
theorem sc_check_due : FnScope Nn_check_due ["due"] (defScope s_check_due) := ⟨rfl, rfl, rfl, by decide +kernel, rfl, by decide +kernel, by decide +kernel⟩
abbrev Nn_due_at : List Str := ["due", "k"]
theorem sc_due_at : FnScope Nn_due_at ["due", "k"] (defScope s_due_at) := ⟨rfl, rfl, rfl, by decide +kernel, rfl, by decide +kernel, by decide +kernel⟩
abbrev Nn_check_kinds : List Str := ["first", "second", "marks", "dues", "steps", "due"]
theorem sc_check_kinds : FnScope Nn_check_kinds ["first", "second", "marks", "dues"] (defScope s_check_kinds) := ⟨rfl, rfl, rfl, by decide +kernel, rfl, by decide +kernel, by decide +kernel⟩
abbrev Nn_check_steps : List Str := ["first", "second", "stand", "steps", "step"]
theorem sc_check_steps : FnScope Nn_check_steps ["first", "second"] (defScope s_check_steps) := ⟨rfl, rfl, rfl, by decide +kernel, rfl, by decide +kernel, by decide +kernel⟩
abbrev Nn_check_parts : List Str := ["first", "second", "marks", "dues", "size", "mark", "due"]
theorem sc_check_parts : FnScope Nn_check_parts ["first", "second", "marks", "dues"] (defScope s_check_parts) := ⟨rfl, rfl, rfl, by decide +kernel, rfl, by decide +kernel, by decide +kernel⟩
abbrev Nn_check_plain : List Str := ["number", "mark", "extra"]
theorem sc_check_plain : FnScope Nn_check_plain ["number", "mark", "extra"] (defScope s_check_plain) := ⟨rfl, rfl, rfl, by decide +kernel, rfl, by decide +kernel, by decide +kernel⟩
abbrev Nn_Web_init : List Str := ["self", "first", "second", "marks", "dues", "size", "steps", "due", "stand"]
theorem sc_Web_init : FnScope Nn_Web_init ["self", "first", "second", "marks", "dues"] (defScope s_Web_init) := ⟨rfl, rfl, rfl, by decide +kernel, rfl, by decide +kernel, by decide +kernel⟩
abbrev Nn_Web_line : List Str := ["cls", "n", "mark", "steps", "stand", "ways"]
theorem sc_Web_line : FnScope Nn_Web_line ["cls", "n", "mark"] (defScope s_Web_line) := ⟨rfl, rfl, rfl, by decide +kernel, rfl, by decide +kernel, by decide +kernel⟩
abbrev Nn_check_web : List Str := ["thing"]
theorem sc_check_web : FnScope Nn_check_web ["thing"] (defScope s_check_web) := ⟨rfl, rfl, rfl, by decide +kernel, rfl, by decide +kernel, by decide +kernel⟩
abbrev Nn_half_of : List Str := ["mark", "x", "y"]
theorem sc_half_of : FnScope Nn_half_of ["mark", "x", "y"] (defScope s_half_of) := ⟨rfl, rfl, rfl, by decide +kernel, rfl, by decide +kernel, by decide +kernel⟩
abbrev Nn_dues_at : List Str := ["web", "k", "due"]
theorem sc_dues_at : FnScope Nn_dues_at ["web", "k"] (defScope s_dues_at) := ⟨rfl, rfl, rfl, by decide +kernel, rfl, by decide +kernel, by decide +kernel⟩
abbrev Nn_bits_of : List Str := ["stands", "stand"]
theorem sc_bits_of : FnScope Nn_bits_of ["stands"] (defScope s_bits_of) := ⟨rfl, rfl, rfl, by decide +kernel, rfl, by decide +kernel, by decide +kernel⟩
abbrev Nn_stands_of : List Str := ["bits", "stand"]
theorem sc_stands_of : FnScope Nn_stands_of ["bits"] (defScope s_stands_of) := ⟨rfl, rfl, rfl, by decide +kernel, rfl, by decide +kernel, by decide +kernel⟩
abbrev Nn_Heightslook : List Str := ["self", "places", "stand", "part", "firsts", "seconds"]
theorem sc_Heightslook : FnScope Nn_Heightslook ["self"] (defScope s_Heightslook) := ⟨rfl, rfl, rfl, by decide +kernel, rfl, by decide +kernel, by decide +kernel⟩
abbrev Nn_Heightsleading_to : List Str := ["self", "stand", "place"]
theorem sc_Heightsleading_to : FnScope Nn_Heightsleading_to ["self", "stand"] (defScope s_Heightsleading_to) := ⟨rfl, rfl, rfl, by decide +kernel, rfl, by decide +kernel, by decide +kernel⟩
abbrev Nn_Heights_init : List Str := ["self", "web", "row", "steps", "stand", "step"]
theorem sc_Heights_init : FnScope Nn_Heights_init ["self", "web", "row"] (defScope s_Heights_init) := ⟨rfl, rfl, rfl, by decide +kernel, rfl, by decide +kernel, by decide +kernel⟩
abbrev Nn_Heights_told : List Str := ["self"]
theorem sc_Heights_told : FnScope Nn_Heights_told ["self"] (defScope s_Heights_told) := ⟨rfl, rfl, rfl, by decide +kernel, rfl, by decide +kernel, by decide +kernel⟩
abbrev Nn_Heights_lift : List Str := ["self", "stands", "stand"]
theorem sc_Heights_lift : FnScope Nn_Heights_lift ["self", "stands"] (defScope s_Heights_lift) := ⟨rfl, rfl, rfl, by decide +kernel, rfl, by decide +kernel, by decide +kernel⟩
abbrev Nn_Heights_below : List Str := ["self", "most", "stand", "part"]
theorem sc_Heights_below : FnScope Nn_Heights_below ["self", "most"] (defScope s_Heights_below) := ⟨rfl, rfl, rfl, by decide +kernel, rfl, by decide +kernel, by decide +kernel⟩
abbrev Nn_Heightsraised_price : List Str := ["self", "stand", "raised", "low", "high"]
theorem sc_Heightsraised_price : FnScope Nn_Heightsraised_price ["self", "stand", "raised"] (defScope s_Heightsraised_price) := ⟨rfl, rfl, rfl, by decide +kernel, rfl, by decide +kernel, by decide +kernel⟩
abbrev Nn_Heightsleavers : List Str := ["self", "raised", "asked", "gone", "stand"]
theorem sc_Heightsleavers : FnScope Nn_Heightsleavers ["self", "raised", "asked"] (defScope s_Heightsleavers) := ⟨rfl, rfl, rfl, by decide +kernel, rfl, by decide +kernel, by decide +kernel⟩
abbrev Nn_Heights_leaving : List Str := ["self", "left", "lifted", "found", "gone", "asked", "stand"]
theorem sc_Heights_leaving : FnScope Nn_Heights_leaving ["self", "left", "lifted"] (defScope s_Heights_leaving) := ⟨rfl, rfl, rfl, by decide +kernel, rfl, by decide +kernel, by decide +kernel⟩
abbrev Nn_Heights_staying : List Str := ["self", "left", "lifted", "gone"]
theorem sc_Heights_staying : FnScope Nn_Heights_staying ["self", "left", "lifted"] (defScope s_Heights_staying) := ⟨rfl, rfl, rfl, by decide +kernel, rfl, by decide +kernel, by decide +kernel⟩
abbrev Nn_lift_once : List Str := ["web", "k", "heights"]
theorem sc_lift_once : FnScope Nn_lift_once ["web", "k", "heights"] (defScope s_lift_once) := ⟨rfl, rfl, rfl, by decide +kernel, rfl, by decide +kernel, by decide +kernel⟩
abbrev Nn_numbers_at : List Str := ["web", "k", "heights", "chips"]
theorem sc_numbers_at : FnScope Nn_numbers_at ["web", "k"] (defScope s_numbers_at) := ⟨rfl, rfl, rfl, by decide +kernel, rfl, by decide +kernel, by decide +kernel⟩
abbrev Nn_check_chips : List Str := ["web", "k", "most"]
theorem sc_check_chips : FnScope Nn_check_chips ["web", "k", "most"] (defScope s_check_chips) := ⟨rfl, rfl, rfl, by decide +kernel, rfl, by decide +kernel, by decide +kernel⟩
abbrev Nn_number_row : List Str := ["web", "k"]
theorem sc_number_row : FnScope Nn_number_row ["web", "k"] (defScope s_number_row) := ⟨rfl, rfl, rfl, by decide +kernel, rfl, by decide +kernel, by decide +kernel⟩
abbrev Nn_law_draw : List Str := ["_law_pot_here", "_law_many"]
theorem sc_law_draw : FnScope Nn_law_draw ["_law_pot_here", "_law_many"] (defScope s_law_draw) := ⟨rfl, rfl, rfl, by decide +kernel, rfl, by decide +kernel, by decide +kernel⟩
abbrev Nn_law_whole : List Str := ["_law_thing"]
theorem sc_law_whole : FnScope Nn_law_whole ["_law_thing"] (defScope s_law_whole) := ⟨rfl, rfl, rfl, by decide +kernel, rfl, by decide +kernel, by decide +kernel⟩
abbrev Nn_law_is_row : List Str := ["_law_thing", "_law_size", "_law_part"]
theorem sc_law_is_row : FnScope Nn_law_is_row ["_law_thing", "_law_size"] (defScope s_law_is_row) := ⟨rfl, rfl, rfl, by decide +kernel, rfl, by decide +kernel, by decide +kernel⟩
abbrev Nn_law_due_at : List Str := ["_law_due", "_law_k"]
theorem sc_law_due_at : FnScope Nn_law_due_at ["_law_due", "_law_k"] (defScope s_law_due_at) := ⟨rfl, rfl, rfl, by decide +kernel, rfl, by decide +kernel, by decide +kernel⟩
abbrev Nn_law_half : List Str := ["_law_mark", "_law_x", "_law_y"]
theorem sc_law_half : FnScope Nn_law_half ["_law_mark", "_law_x", "_law_y"] (defScope s_law_half) := ⟨rfl, rfl, rfl, by decide +kernel, rfl, by decide +kernel, by decide +kernel⟩
abbrev Nn_law_low : List Str := ["_law_web", "_law_row", "_law_stand", "_law_step"]
theorem sc_law_low : FnScope Nn_law_low ["_law_web", "_law_row", "_law_stand"] (defScope s_law_low) := ⟨rfl, rfl, rfl, by decide +kernel, rfl, by decide +kernel, by decide +kernel⟩
abbrev Nn_law_high : List Str := ["_law_web", "_law_row", "_law_stand", "_law_step"]
theorem sc_law_high : FnScope Nn_law_high ["_law_web", "_law_row", "_law_stand"] (defScope s_law_high) := ⟨rfl, rfl, rfl, by decide +kernel, rfl, by decide +kernel, by decide +kernel⟩
abbrev Nn_law_price : List Str := ["_law_web", "_law_k", "_law_row", "_law_stand"]
theorem sc_law_price : FnScope Nn_law_price ["_law_web", "_law_k", "_law_row", "_law_stand"] (defScope s_law_price) := ⟨rfl, rfl, rfl, by decide +kernel, rfl, by decide +kernel, by decide +kernel⟩
abbrev Nn_law_fall : List Str := ["_law_web", "_law_k", "_law_row", "_law_left", "_law_stand", "_law_ranks", "_law_turn", "_law_tried", "_law_out"]
theorem sc_law_fall : FnScope Nn_law_fall ["_law_web", "_law_k", "_law_row"] (defScope s_law_fall) := ⟨rfl, rfl, rfl, by decide +kernel, rfl, by decide +kernel, by decide +kernel⟩
abbrev Nn_law_true_row : List Str := ["_law_web", "_law_k", "_law_row", "_law_stand"]
theorem sc_law_true_row : FnScope Nn_law_true_row ["_law_web", "_law_k", "_law_row"] (defScope s_law_true_row) := ⟨rfl, rfl, rfl, by decide +kernel, rfl, by decide +kernel, by decide +kernel⟩
abbrev Nn_law_line : List Str := ["_law_n", "_law_mark", "_law_lots", "_law_stand", "_law_dues", "_law_lot"]
theorem sc_law_line : FnScope Nn_law_line ["_law_n", "_law_mark"] (defScope s_law_line) := ⟨rfl, rfl, rfl, by decide +kernel, rfl, by decide +kernel, by decide +kernel⟩
abbrev Nn_law_distance : List Str := ["_law_n", "_law_mark", "_law_k", "_law_row", "_law_stand", "_law_over"]
theorem sc_law_distance : FnScope Nn_law_distance ["_law_n", "_law_mark", "_law_k", "_law_row"] (defScope s_law_distance) := ⟨rfl, rfl, rfl, by decide +kernel, rfl, by decide +kernel, by decide +kernel⟩
abbrev Nn_law_numbers_right : List Str := ["_law_n", "_law_mark", "_law_k", "_law_row", "_law_stand", "_law_number", "_law_told"]
theorem sc_law_numbers_right : FnScope Nn_law_numbers_right ["_law_n", "_law_mark", "_law_k"] (defScope s_law_numbers_right) := ⟨rfl, rfl, rfl, by decide +kernel, rfl, by decide +kernel, by decide +kernel⟩
abbrev Nn_law_refusal : List Str := ["_law_n", "_law_mark", "_law_k", "_law_stand", "_law_word"]
theorem sc_law_refusal : FnScope Nn_law_refusal ["_law_n", "_law_mark", "_law_k", "_law_stand"] (defScope s_law_refusal) := ⟨rfl, rfl, rfl, by decide +kernel, rfl, by decide +kernel, by decide +kernel⟩
abbrev Nn_law_refused : List Str := ["_law_n", "_law_pot_here", "_law_bent", "_law_asked", "_law_due"]
theorem sc_law_refused : FnScope Nn_law_refused ["_law_n", "_law_pot_here"] (defScope s_law_refused) := ⟨rfl, rfl, rfl, by decide +kernel, rfl, by decide +kernel, by decide +kernel⟩
abbrev Nn_law : List Str := ["_law_script", "_law_pot_here", "_law_n", "_law_bent", "_law_mark", "_law_turn", "_law_k"]
theorem sc_law : FnScope Nn_law ["_law_script"] (defScope s_law) := ⟨rfl, rfl, rfl, by decide +kernel, rfl, by decide +kernel, by decide +kernel⟩
abbrev Nn_law_pot : List Str := ["_law_script", "_law_pot_here", "_law_place", "_law_number", "_law_shift", "_law_turn", "_law_mixed"]
theorem sc_law_pot : FnScope Nn_law_pot ["_law_script"] (defScope s_law_pot) := ⟨rfl, rfl, rfl, by decide +kernel, rfl, by decide +kernel, by decide +kernel⟩
end K50
namespace PL
open PySem L2 Den
@[simp] theorem fLen_dI (ns : List Int) : fLen [dI ns] = some (.int ns.length) := by show some (D.int ((ns.map D.int).length : Int)) = _; rw [List.length_map]
@[simp] theorem lstOf_dI (ns : List Int) : lstOf (dI ns) = some (ns.map .int) := rfl
@[simp] theorem seqOf_dI (ns : List Int) : seqOf (dI ns) = some (ns.map .int) := rfl
@[simp] theorem fSeq1_dI (ns : List Int) : fSeq1 [dI ns] = some (ns.map .int) := rfl
@[simp] theorem fTuple_dI (ns : List Int) : fTuple [dI ns] = some (.tup (ns.map .int)) := rfl
@[simp] theorem truOf_dI (ns : List Int) : truOf (dI ns) = some (!ns.isEmpty) := by show some (!(ns.map D.int).isEmpty) = _; cases ns <;> rfl
@[simp] theorem truOf_dS (ns : List Int) : truOf (dS ns) = some (!(sortSet ns).isEmpty) := by show some (!((sortSet ns).map D.int).isEmpty) = _; cases sortSet ns <;> rfl
@[simp] theorem tupOf_dS (ns : List Int) : tupOf (dS ns) = some ((sortSet ns).map .int) := rfl
@[simp] theorem fIx_dI (ns : List Int) (i : Int) : fIx (dI ns) (.int i) = atI (ns.map .int) i := rfl
theorem is_integer_int (i : Int) (p : S) : D_is_integer [.int i] p = .ok (.bl true) p := by
  simp [D_is_integer, denF, dn_is_integer, locOf, mvar, fIs1, tyN, isTy]
theorem is_integer_ev {d : D} {t : Ty} (h : tyN d = some t) (p : S) : D_is_integer [d] p = .ok (.bl (isTy t .int && !isTy t .bl)) p := by
  simp [D_is_integer, denF, dn_is_integer, locOf, mvar, fIs1, h]
  cases isTy t .int <;> simp
theorem draw_ev (n : Int) (hn : 0 < n) (ps : S) : ∃ v q, D_law_draw [.pot, .int n] ps = .ok (.int v) q ∧ 0 ≤ v ∧ v < n := by
  obtain ⟨ps, st, vr⟩ := ps
  have hd : ps = [] ∨ ∃ v, ps[ps.length - 1]? = some v ∧ ps ≠ [] := by
    cases ps with
    | nil => exact .inl rfl
    | cons a r => exact .inr ⟨_, List.getElem?_eq_getElem (by simp), by simp⟩
  unfold D_law_draw denF dn_law_draw
  rcases hd with rfl | ⟨v, hv, hl⟩
  · exact ⟨0, ⟨[], st, vr⟩, by simp [locOf, mlenp, mvar], by omega, hn⟩
  · exact ⟨v % n, ⟨ps.dropLast, st, vr⟩, by simp [locOf, mlenp, mvar, mpop, hl, hv, fMod_int hn], Int.emod_nonneg _ (by omega), Int.emod_lt_of_pos _ hn⟩
/-- all of these are whole numbers -/
theorem check_whole_ok (ds : List D) (h : ∀ d ∈ ds, ∃ i, d = .int i) (hl : ds.length ≤ 1000) (p : S) : D_check_whole ds p = .ok .non p := by
  have key : ∃ l' p', loop (gset 1) (sif (mnot (mtru (mcall D_is_integer (acons (mvar 1) anil)))) (sraise 0) sskip) ds [some (.dat (.tup ds)), none] p = .nx l' p' ∧ l'.length = 2 ∧ p' = p := by
    refine loop_run (fun _ l q => l.length = 2 ∧ q = p) (k := 0) ⟨rfl, rfl⟩ fun i d l q hd hI => ?_
    obtain ⟨i, rfl⟩ := h d (List.mem_of_getElem? hd)
    obtain ⟨hl, rfl⟩ := hI
    refine ⟨_, lset_lt 1 _ _ (by omega), l.set 1 (some (.dat (.int i))), q, .inl ?_, by simp [hl]⟩
    simp [mvar, hl, is_integer_int]
  obtain ⟨l', p', e, _, rfl⟩ := key
  unfold D_check_whole
  rw [if_pos hl]
  simp [denStar, denF, dn_check_whole, locOf, mvar, e]
/-- one of them is none: the first such is told -/
theorem check_whole_no (ds : List D) (hl : ds.length ≤ 1000) (p : S) (m : Nat) (d : D) (t : Ty) (hm : ds[m]? = some d) (ht : tyN d = some t) (hn : (isTy t .int && !isTy t .bl) = false) (h : ∀ i < m, ∀ d, ds[i]? = some d → ∃ i, d = .int i) : D_check_whole ds p = .err 0 p := by
  have key : ∀ (ds : List D) (m : Nat) (l : Den.Loc), l.length = 2 → ds[m]? = some d → (∀ i < m, ∀ d, ds[i]? = some d → ∃ i, d = .int i) → ∃ l', loop (gset 1) (sif (mnot (mtru (mcall D_is_integer (acons (mvar 1) anil)))) (sraise 0) sskip) ds l p = .err 0 l' p := by
    intro ds
    induction ds with
    | nil => intro m l _ hm _; simp at hm
    | cons a ds ih =>
      intro m l hl2 hm h
      unfold loop
      rw [lset_lt 1 a l (by omega)]
      cases m with
      | zero =>
        simp at hm
        subst hm
        refine ⟨l.set 1 (some (.dat a)), ?_⟩
        simp [mvar, hl2, is_integer_ev ht, hn]
      | succ m =>
        obtain ⟨i, rfl⟩ := h 0 (Nat.succ_pos m) a rfl
        obtain ⟨l', e⟩ := ih m (l.set 1 (some (.dat (.int i)))) (by simp [hl2]) (by simpa using hm) fun i hi d hd => h (i + 1) (by omega) d (by simpa using hd)
        refine ⟨l', ?_⟩
        simp [mvar, hl2, is_integer_int]
        exact e
  obtain ⟨l', e⟩ := key ds m [some (.dat (.tup ds)), none] rfl hm h
  unfold D_check_whole
  rw [if_pos hl]
  simp [denStar, denF, dn_check_whole, locOf, mvar, e]
theorem whole_list_ok {d : D} {ds : List D} (hd : seqOf d = some ds) (h : ∀ d ∈ ds, ∃ i, d = .int i) (hl : ds.length ≤ 1000) (p : S) : D_whole_list [d] p = .ok (.tup ds) p := by
  cases d with
  | lst ds' => cases hd; simp [D_whole_list, denF, dn_whole_list, locOf, mvar, fIs2, tyN, isTy, mstar, check_whole_ok _ h hl]
  | tup ds' => cases hd; simp [D_whole_list, denF, dn_whole_list, locOf, mvar, fIs2, tyN, isTy, mstar, check_whole_ok _ h hl]
  | _ => cases hd
theorem check_range_ev (a b e : Int) (p : S) : D_check_range [.int a, .int b, .int e] p = if b ≤ a ∧ a ≤ e then .ok .non p else .err 1 p := by
  unfold D_check_range denF dn_check_range
  by_cases h1 : a < b
  · have : ¬ (b ≤ a ∧ a ≤ e) := by omega
    simp [locOf, mvar, h1, this]
  · by_cases h2 : e < a
    · have : ¬ (b ≤ a ∧ a ≤ e) := by omega
      simp [locOf, mvar, h1, h2, this]
    · have : b ≤ a ∧ a ≤ e := by omega
      simp [locOf, mvar, h1, h2, this]
theorem check_least_ev (a b : Int) (p : S) : D_check_least [.int a, .int b] p = if b ≤ a then .ok .non p else .err 1 p := by
  by_cases h : a < b
  · have : ¬ b ≤ a := by omega
    simp [D_check_least, denF, dn_check_least, locOf, mvar, h, this]
  · have : b ≤ a := by omega
    simp [D_check_least, denF, dn_check_least, locOf, mvar, h, this]
theorem check_most_ev (a b : Int) (p : S) : D_check_most [.int a, .int b] p = if a ≤ b then .ok .non p else .err 3 p := by
  by_cases h : b < a
  · have : ¬ a ≤ b := by omega
    simp [D_check_most, denF, dn_check_most, locOf, mvar, h, this]
  · have : a ≤ b := by omega
    simp [D_check_most, denF, dn_check_most, locOf, mvar, h, this]
theorem intsOf_map : ∀ (ns : List Int), intsOf (ns.map D.int) = some ns
  | [] => rfl
  | n :: ns => by simp [intsOf, intsOf_map ns]
end PL
namespace PL
open PySem L2 Den
def wrd (b : Bool) : Str := if b then "chips" else "less"
theorem dDue_some (b : Bool) (x : Int) : dDue (some (b, x)) = .tup [.str (wrd b), .int x] := by cases b <;> rfl
theorem inV_wrd (b : Bool) : inV (V.str (wrd b)) [V.str "chips", V.str "less"] = true := by cases b <;> decide +kernel
theorem inB_wrd (b : Bool) : fInB false (.str (wrd b)) (.tup [.str "chips", .str "less"]) = some (.bl true) := by
  show some (D.bl (inV (V.str (wrd b)) [V.str "chips", V.str "less"])) = _
  rw [inV_wrd]
theorem eqv_3 (n : Int) : PyData.eqv (.list [.int n, .int n, .int n]) (.list [.int n, .int n, .int n]) = true := by
  simp [PyData.eqv, PyData.eqvAll]
theorem fEqD_3 (neg : Bool) (n : Int) : fEqD neg (.lst [.int n, .int n, .int n]) (.lst [.int n, .int n, .int n]) = some (.bl (if neg then false else true)) := by
  have e : pd (.lst [.int n, .int n, .int n]) = some (.list [.int n, .int n, .int n]) := by simp [pd, pdL]
  unfold fEqD
  rw [e]
  simp [PyData.depth, PyData.depthAll, eqv_3]
theorem mark_in (m : Int) (h : m = 1 ∨ m = 2) : fInB true (.int m) (.tup [.int 1, .int 2]) = some (.bl false) := by
  show some (D.bl (!inV (V.int m) [V.int 1, V.int 2])) = _
  rcases h with rfl | rfl <;> rfl
end PL
namespace PL
open PySem L2 Den
theorem seq_nx {a b : MS} {l l' : Den.Loc} {p p' : S} (h : a l p = .nx l' p') : sseq a b l p = b l' p' := sseq_nx a b l l' p p' h
theorem pd_dS (ss : List Int) : pd (dS ss) = some (.tuple ((sortSet ss).map .int)) := by
  have : ∀ ns : List Int, pdL (ns.map D.int) = some (ns.map .int) := fun ns => by
    induction ns with
    | nil => rfl
    | cons n ns ih => simp [pdL, pd, ih]
  simp [dS, pd, this]
theorem pdL_dS (l : List (List Int)) : pdL (l.map dS) = some (l.map fun ss => .tuple ((sortSet ss).map .int)) := by
  induction l with
  | nil => rfl
  | cons s l ih => simp [pdL, pd_dS, ih]
theorem depth_ints (ns : List Int) : PyData.depthAll (ns.map .int) = 0 := by
  induction ns with
  | nil => rfl
  | cons n ns ih => simp [PyData.depthAll, PyData.depth, ih]
theorem depth_ll (l : List (List Int)) : PyData.depthAll (l.map fun ss => .tuple ((sortSet ss).map .int)) ≤ 1 := by
  induction l with
  | nil => exact Nat.zero_le _
  | cons s l ih => simp [PyData.depthAll, PyData.depth, depth_ints]; omega
theorem even_ev (wb : Wb) : fEqD false (.tup (wb.first.map dS)) (.tup (wb.second.map dS)) = some (.bl (evB wb)) := by
  have e1 : pd (.tup (wb.first.map dS)) = some (.tuple (wb.first.map fun ss => .tuple ((sortSet ss).map .int))) := by simp [pd, pdL_dS]
  have e2 : pd (.tup (wb.second.map dS)) = some (.tuple (wb.second.map fun ss => .tuple ((sortSet ss).map .int))) := by simp [pd, pdL_dS]
  unfold fEqD evB
  rw [e1, e2]
  have h1 := depth_ll wb.first
  have h2 := depth_ll wb.second
  dsimp only
  rw [if_pos (by simp only [PyData.depth]; omega)]
  rfl
theorem hmv {wb : Wb} (V : Valid wb) : ∀ d ∈ rngD 0 wb.marks.length, (fIx (.lst (wb.first.map dI)) d).bind truOf = some (moves wb d) := by
  have n1 := V.n1
  have n2 := V.n2
  have l1 := V.l1
  have l2 := V.l2
  have l3 := V.l3
  exact fun d hd => by
    obtain ⟨i, hi, rfl⟩ := rngD_mem hd
    have hi' : i < wb.first.length := by omega
    have g : atI (wb.first.map dI) ((0 : Int) + (i : Int)) = some (dI wb.first[i]) := by
      rw [Int.zero_add]
      exact atI_nat (by rw [List.getElem?_map, List.getElem?_eq_getElem hi']; rfl)
    unfold moves
    simp only [fIx_lst, g, Option.bind_some, truOf_dI]
end PL
namespace PL
open PySem L2 Den
section
variable (b : Bool) (ds : List D)
@[simp] theorem seqOf_sq : seqOf (sqD b ds) = some ds := by cases b <;> rfl
@[simp] theorem fLen_sq : fLen [sqD b ds] = some (.int ds.length) := by cases b <;> rfl
@[simp] theorem fIx_sq (i : Int) : fIx (sqD b ds) (.int i) = atI ds i := by cases b <;> rfl
@[simp] theorem fTuple_sq : fTuple [sqD b ds] = some (.tup ds) := by cases b <;> rfl
@[simp] theorem truOf_sq : truOf (sqD b ds) = some (!ds.isEmpty) := by cases b <;> rfl
@[simp] theorem fSeq1_sq : fSeq1 [sqD b ds] = some ds := by cases b <;> rfl
@[simp] theorem isNon_sq : isNon (sqD b ds) = false := by cases b <;> rfl
@[simp] theorem enumS_sq : enumS [sqD b ds] = some (enumD 0 ds) := by cases b <;> rfl
@[simp] theorem fIs2_sq : fIs2 [sqD b ds, .tup [.ty .lst, .ty .tup]] = some (.bl true) := by cases b <;> simp [sqD, fIs2, tyN, isTy]
@[simp] theorem fBool_sq : fBoolS [sqD b ds] = some (.bl (!ds.isEmpty)) := by simp [fBoolS]
end
section
variable (s : Bool × List Int)
@[simp] theorem seqOf_sqI : seqOf (sqI s) = some (s.2.map .int) := seqOf_sq _ _
@[simp] theorem fLen_sqI : fLen [sqI s] = some (.int s.2.length) := by rw [sqI, fLen_sq, List.length_map]
@[simp] theorem fTuple_sqI : fTuple [sqI s] = some (.tup (s.2.map .int)) := fTuple_sq _ _
@[simp] theorem isEmpty_mapI : (s.2.map D.int).isEmpty = s.2.isEmpty := by cases s.2 <;> rfl
@[simp] theorem truOf_sqI : truOf (sqI s) = some (!s.2.isEmpty) := by rw [sqI, truOf_sq, isEmpty_mapI]
@[simp] theorem fBool_sqI : fBoolS [sqI s] = some (.bl (!s.2.isEmpty)) := by rw [sqI, fBool_sq, isEmpty_mapI]
@[simp] theorem fSeq1_sqI : fSeq1 [sqI s] = some (s.2.map .int) := fSeq1_sq _ _
end
theorem as_stands_sq (s : Bool × List Int) (n : Int) (hl : s.2.length < 64) (h : ∀ x ∈ s.2, 0 ≤ x ∧ x < n) (p : S) : D_as_stands [sqI s, .int n] p = .ok (dS s.2) p := by
  have hw : D_whole_list [sqI s] p = .ok (.tup (s.2.map .int)) p := whole_list_ok (seqOf_sqI s) (fun d hd => by
    obtain ⟨i, _, e⟩ := List.mem_map.mp hd
    exact ⟨i, e.symm⟩) (by rw [List.length_map]; omega) p
  obtain ⟨o', e⟩ := loop_env (i := 3) (fun o => [some (.dat (sqI s)), some (.dat (.int n)), some (.dat (.tup (s.2.map .int))), o]) (p := p) (body := sdrop (mcall D_check_range (acons (mvar 3) (acons (mret (D.int 0)) (acons (op2 fSub (mvar 1) (mret (D.int 1))) anil))))) (fun _ _ => rfl) (ds := s.2.map .int) (fun d hd => by
    obtain ⟨x, hx, rfl⟩ := List.mem_map.mp hd
    have hr : 0 ≤ x ∧ x ≤ n - 1 := by have := h x hx; omega
    simp [mvar, check_range_ev, hr]) none
  simp [D_as_stands, denF, dn_as_stands, locOf, mvar, hw] at e ⊢
  simp [mvar, e, fSortSet, intsOf_map, hl, dS]
theorem sqDue_cases (d : Bool × Due) : sqDue d = .non ∧ d.2 = none ∨ ∃ b x, sqDue d = sqD d.1 [.str (wrd b), .int x] ∧ d.2 = some (b, x) := by
  obtain ⟨a, d⟩ := d
  rcases d with _ | ⟨b, x⟩
  · exact .inl ⟨rfl, rfl⟩
  · exact .inr ⟨b, x, rfl, rfl⟩
theorem is_due_sq (d : Bool × Due) (p : S) : D_is_due [sqDue d] p = .ok (.bl true) p := by
  rcases sqDue_cases d with ⟨e, _⟩ | ⟨b, x, e, _⟩ <;> rw [e]
  · simp [D_is_due, denF, dn_is_due, locOf, mvar]
  · simp [D_is_due, denF, dn_is_due, locOf, mvar, fIs1, tyN, isTy, is_integer_int]
theorem check_due_sq (d : Bool × Due) (p : S) : D_check_due [sqDue d] p = .ok .non p := by
  simp [D_check_due, denF, dn_check_due, locOf, mvar, is_due_sq]
theorem due_in_range_sq (d : Bool × Due) (h : ∀ b x, d.2 = some (b, x) → 0 ≤ x) (p : S) : D_due_in_range [sqDue d] p = .ok (.bl true) p := by
  rcases sqDue_cases d with ⟨e, _⟩ | ⟨b, x, e, e2⟩ <;> rw [e]
  · simp [D_due_in_range, denF, dn_due_in_range, locOf, mvar]
  · have hx := h b x e2
    simp [D_due_in_range, denF, dn_due_in_range, locOf, mvar, inB_wrd, hx]
theorem due_too_great_sq (d : Bool × Due) (h : ∀ b x, d.2 = some (b, x) → x ≤ 10000000000000000000000000000000000000000) (p : S) : D_due_too_great [sqDue d] p = .ok (.bl false) p := by
  rcases sqDue_cases d with ⟨e, _⟩ | ⟨b, x, e, e2⟩ <;> rw [e]
  · simp [D_due_too_great, denF, dn_due_too_great, locOf, mvar]
  · have hx := h b x e2
    have : ¬ ((10000000000000000000000000000000000000000 : Int) < x) := by omega
    simp [D_due_too_great, denF, dn_due_too_great, locOf, mvar, this]
theorem whole_sq (s : Bool × List Int) (hl : s.2.length ≤ 1000) (p : S) : D_whole_list [sqI s] p = .ok (.tup (s.2.map .int)) p :=
  whole_list_ok (seqOf_sqI s) (fun d hd => by
    obtain ⟨i, _, e⟩ := List.mem_map.mp hd
    exact ⟨i, e.symm⟩) (by rw [List.length_map]; exact hl) p
section
variable {g : Wg}
theorem Wg.first_of (V : ValidG g.wb) : g.first.2.length = g.marks.2.length := by have := V.l1; simpa [Wg.wb] using this
theorem Wg.second_of (V : ValidG g.wb) : g.second.2.length = g.marks.2.length := by have := V.l2; simpa [Wg.wb] using this
theorem Wg.dues_of (V : ValidG g.wb) : g.dues.2.length = g.marks.2.length := by have := V.l3; simpa [Wg.wb] using this
theorem Wg.n1_of (V : ValidG g.wb) : 1 ≤ g.marks.2.length := V.n1
theorem Wg.n2_of (V : ValidG g.wb) : g.marks.2.length ≤ 60 := V.n2
theorem Wg.fst_of (V : ValidG g.wb) {s : Bool × List Int} (h : s ∈ g.first.2) : s.2.length < 64 ∧ ∀ x ∈ s.2, 0 ≤ x ∧ x < (g.marks.2.length : Int) := V.s1 _ (List.mem_map_of_mem h)
theorem Wg.snd_of (V : ValidG g.wb) {s : Bool × List Int} (h : s ∈ g.second.2) : s.2.length < 64 ∧ ∀ x ∈ s.2, 0 ≤ x ∧ x < (g.marks.2.length : Int) := V.s2 _ (List.mem_map_of_mem h)
theorem Wg.du_of (V : ValidG g.wb) {d : Bool × Due} (h : d ∈ g.dues.2) (b : Bool) (x : Int) (e : d.2 = some (b, x)) : 0 ≤ x ∧ x ≤ 10000000000000000000000000000000000000000 := V.du d.2 (List.mem_map_of_mem h) b x e
theorem check_kinds_sq (V : ValidG g.wb) (p : S) : D_check_kinds_k09 (encG g) p = .ok .non p := by
  obtain ⟨o1, e1⟩ := loop_env (i := 4) (fun o => [some (.dat (sqD g.first.1 (g.first.2.map sqI))), some (.dat (sqD g.second.1 (g.second.2.map sqI))), some (.dat (sqI g.marks)), some (.dat (sqD g.dues.1 (g.dues.2.map sqDue))), o, none]) (p := p)
    (body := L_check_kinds_k09_1) (fun _ _ => rfl) (ds := [sqD g.first.1 (g.first.2.map sqI), sqD g.second.1 (g.second.2.map sqI), sqD g.dues.1 (g.dues.2.map sqDue)]) (fun d hd => by
      simp only [List.mem_cons, List.not_mem_nil, or_false] at hd
      rcases hd with rfl | rfl | rfl <;> simp [L_check_kinds_k09_1, mvar]) none
  obtain ⟨o2, e2⟩ := loop_env (i := 4) (fun o => [some (.dat (sqD g.first.1 (g.first.2.map sqI))), some (.dat (sqD g.second.1 (g.second.2.map sqI))), some (.dat (sqI g.marks)), some (.dat (sqD g.dues.1 (g.dues.2.map sqDue))), o, none]) (p := p)
    (body := L_check_kinds_k09_2) (fun _ _ => rfl) (ds := g.first.2.map sqI ++ (g.second.2.map sqI ++ [sqI g.marks])) (fun d hd => by
      have : ∃ s : Bool × List Int, d = sqI s ∧ s.2.length ≤ 1000 := by
        simp only [List.mem_append, List.mem_cons, List.not_mem_nil, or_false] at hd
        rcases hd with h | h | h
        · obtain ⟨ss, hs, e⟩ := List.mem_map.mp h
          exact ⟨ss, e.symm, by have := (Wg.fst_of V hs).1; omega⟩
        · obtain ⟨ss, hs, e⟩ := List.mem_map.mp h
          exact ⟨ss, e.symm, by have := (Wg.snd_of V hs).1; omega⟩
        · exact ⟨_, h, by have := Wg.n2_of V; omega⟩
      obtain ⟨s, rfl, hl⟩ := this
      simp [L_check_kinds_k09_2, mvar, whole_sq s hl]) o1
  obtain ⟨o3, e3⟩ := loop_env (i := 5) (fun o => [some (.dat (sqD g.first.1 (g.first.2.map sqI))), some (.dat (sqD g.second.1 (g.second.2.map sqI))), some (.dat (sqI g.marks)), some (.dat (sqD g.dues.1 (g.dues.2.map sqDue))), o2, o]) (p := p)
    (body := L_check_kinds_k09_3) (fun _ _ => rfl) (ds := g.dues.2.map sqDue) (fun d hd => by
      obtain ⟨x, _, rfl⟩ := List.mem_map.mp hd
      simp [L_check_kinds_k09_3, mvar, check_due_sq]) none
  have h1 := Wg.first_of V
  have h2 := Wg.second_of V
  have h3 := Wg.n2_of V
  have hz : g.marks.2.length + (g.marks.2.length + 1) ≤ 1000 := by omega
  simp [D_check_kinds_k09, denF, dn_check_kinds_k09, b_check_kinds_k09_1, b_check_kinds_k09_2, b_check_kinds_k09_3, locOf, encG, mvar, astar, e1, h1, h2, hz, -List.map_map]
  simp [mvar, e2, e3, -List.map_map]
theorem check_steps_sq (V : ValidG g.wb) (p : S) : D_check_steps_k09 [sqD g.first.1 (g.first.2.map sqI), sqD g.second.1 (g.second.2.map sqI)] p = .ok .non p := by
  have key : ∃ l' p', loop (gset2 2 3) L_check_steps_k09_1 (enumD 0 (g.first.2.map sqI)) [some (.dat (sqD g.first.1 (g.first.2.map sqI))), some (.dat (sqD g.second.1 (g.second.2.map sqI))), none, none, none] p = .nx l' p' ∧ (p' = p ∧ ∃ a b e, l' = [some (.dat (sqD g.first.1 (g.first.2.map sqI))), some (.dat (sqD g.second.1 (g.second.2.map sqI))), a, b, e]) := by
    refine loop_run (fun (_ : Nat) (l : Den.Loc) (q : S) => q = p ∧ ∃ a b e, l = [some (.dat (sqD g.first.1 (g.first.2.map sqI))), some (.dat (sqD g.second.1 (g.second.2.map sqI))), a, b, e]) (k := 0) ⟨rfl, _, _, _, rfl⟩ fun i d l q hd hI => ?_
    obtain ⟨rfl, a, b, e, rfl⟩ := hI
    have hi : i < g.first.2.length := by
      have := (List.getElem?_eq_some_iff.mp hd).1
      rwa [enumD_len, List.length_map] at this
    have hi2 : i < g.second.2.length := by rw [Wg.second_of V, ← Wg.first_of V]; exact hi
    have g1 : (g.first.2.map sqI)[i]? = some (sqI g.first.2[i]) := by rw [List.getElem?_map, List.getElem?_eq_getElem hi]; rfl
    have g2 : (g.second.2.map sqI)[i]? = some (sqI g.second.2[i]) := by rw [List.getElem?_map, List.getElem?_eq_getElem hi2]; rfl
    have hde := enumD_get (g.first.2.map sqI) 0 i _ g1
    rw [Nat.zero_add, hd] at hde
    cases hde
    have g3 : atI (g.second.2.map sqI) (i : Int) = some (sqI g.second.2[i]) := atI_nat g2
    obtain ⟨z1, y1⟩ := Wg.fst_of V (List.getElem_mem hi)
    obtain ⟨z2, y2⟩ := Wg.snd_of V (List.getElem_mem hi2)
    obtain ⟨o', e1⟩ := loop_env (i := 4) (fun o => [some (.dat (sqD g.first.1 (g.first.2.map sqI))), some (.dat (sqD g.second.1 (g.second.2.map sqI))), some (.dat (.int i)), some (.dat (sqI g.first.2[i])), o]) (p := q)
      (body := L_check_steps_k09_1l1) (fun _ _ => rfl) (ds := (g.first.2[i].2.map D.int) ++ (g.second.2[i].2.map D.int)) (fun d hd => by
        have : ∃ x : Int, d = .int x ∧ 0 ≤ x ∧ x < g.marks.2.length := by
          rcases List.mem_append.mp hd with h | h
          · obtain ⟨x, hx, e⟩ := List.mem_map.mp h
            exact ⟨x, e.symm, y1 x hx⟩
          · obtain ⟨x, hx, e⟩ := List.mem_map.mp h
            exact ⟨x, e.symm, y2 x hx⟩
        obtain ⟨x, rfl, h0, h1⟩ := this
        have n1 : ¬ x < 0 := by omega
        have n2 : ¬ ((g.first.2.length : Int) ≤ x) := by rw [Wg.first_of V]; omega
        simp [L_check_steps_k09_1l1, mvar, n1, n2]) e
    have hb := V.both i _ _ (show (g.first.2.map Prod.snd)[i]? = some g.first.2[i].2 by rw [List.getElem?_map, List.getElem?_eq_getElem hi]; rfl) (show (g.second.2.map Prod.snd)[i]? = some g.second.2[i].2 by rw [List.getElem?_map, List.getElem?_eq_getElem hi2]; rfl)
    have hz : g.first.2[i].2.length + g.second.2[i].2.length ≤ 1000 := by omega
    refine ⟨[some (.dat (sqD g.first.1 (g.first.2.map sqI))), some (.dat (sqD g.second.1 (g.second.2.map sqI))), some (.dat (.int i)), some (.dat (sqI g.first.2[i])), e], by simp [gset2, gset], [some (.dat (sqD g.first.1 (g.first.2.map sqI))), some (.dat (sqD g.second.1 (g.second.2.map sqI))), some (.dat (.int i)), some (.dat (sqI g.first.2[i])), o'], q, .inl ?_, rfl, _, _, _, rfl⟩
    simp [L_check_steps_k09_1, b_check_steps_k09_1l1, b_check_steps_k09_1l2, astar, mvar, g3, hz, e1, hb, fNe, sc, scal]
  obtain ⟨l', p', e, rfl, _⟩ := key
  simp [D_check_steps_k09, denF, dn_check_steps_k09, locOf, mvar, -List.map_map]
  rw [e]
  rfl
theorem check_parts_sq (V : ValidG g.wb) (p : S) : D_check_parts_k09 (encG g) p = .ok .non p := by
  have n1 := Wg.n1_of V
  have n2 := Wg.n2_of V
  have l1 := Wg.first_of V
  have l2 := Wg.second_of V
  have l3 := Wg.dues_of V
  obtain ⟨o1, e1⟩ := loop_env (i := 5) (fun o => [some (.dat (sqD g.first.1 (g.first.2.map sqI))), some (.dat (sqD g.second.1 (g.second.2.map sqI))), some (.dat (sqI g.marks)), some (.dat (sqD g.dues.1 (g.dues.2.map sqDue))), some (.dat (.int g.marks.2.length)), o, none]) (p := p)
    (body := L_check_parts_k09_5) (fun _ _ => rfl) (ds := g.marks.2.map .int) (fun d hd => by
      obtain ⟨m, hm, rfl⟩ := List.mem_map.mp hd
      simp [L_check_parts_k09_5, mvar, mark_in m (V.mks m hm)]) none
  obtain ⟨o2, e2⟩ := loop_env (i := 6) (fun o => [some (.dat (sqD g.first.1 (g.first.2.map sqI))), some (.dat (sqD g.second.1 (g.second.2.map sqI))), some (.dat (sqI g.marks)), some (.dat (sqD g.dues.1 (g.dues.2.map sqDue))), some (.dat (.int g.marks.2.length)), o1, o]) (p := p)
    (body := L_check_parts_k09_6) (fun _ _ => rfl) (ds := g.dues.2.map sqDue) (fun d hd => by
      obtain ⟨x, hx, rfl⟩ := List.mem_map.mp hd
      simp [L_check_parts_k09_6, mvar, due_in_range_sq x (fun b y e => (Wg.du_of V hx b y e).1)]) none
  obtain ⟨o3, e3⟩ := loop_env (i := 6) (fun o => [some (.dat (sqD g.first.1 (g.first.2.map sqI))), some (.dat (sqD g.second.1 (g.second.2.map sqI))), some (.dat (sqI g.marks)), some (.dat (sqD g.dues.1 (g.dues.2.map sqDue))), some (.dat (.int g.marks.2.length)), o1, o]) (p := p)
    (body := L_check_parts_k09_8) (fun _ _ => rfl) (ds := g.dues.2.map sqDue) (fun d hd => by
      obtain ⟨x, hx, rfl⟩ := List.mem_map.mp hd
      simp [L_check_parts_k09_8, mvar, due_too_great_sq x (fun b y e => (Wg.du_of V hx b y e).2)]) o2
  have hk := check_kinds_sq V p
  have hs := check_steps_sq V p
  have hm := check_most_ev (g.marks.2.length : Int) 60 p
  rw [if_pos (by omega)] at hm
  have hne : ¬ g.marks.2 = [] := fun z => by rw [z] at n1; simp at n1
  have hrep : fRep (.lst [.int (g.marks.2.length : Int)]) (.int 3) = some (.lst [.int g.marks.2.length, .int g.marks.2.length, .int g.marks.2.length]) := rfl
  simp only [encG] at hk
  simp [D_check_parts_k09, denF, dn_check_parts_k09, b_check_parts_k09_1, b_check_parts_k09_2, b_check_parts_k09_3, b_check_parts_k09_4, b_check_parts_k09_5, b_check_parts_k09_6, b_check_parts_k09_7, b_check_parts_k09_8, locOf, encG, mvar, hk, l1, l2, l3, hne, hrep, fEqD_3, hs, e1, e2, hm, e3, -List.map_map]
end
end PL
namespace PL
open PySem L2 Den
section
variable {g : Wg}
def locW (g : Wg) (o : Option L) : Den.Loc := [o, some (.dat (sqD g.first.1 (g.first.2.map sqI))), some (.dat (sqD g.second.1 (g.second.2.map sqI))), some (.dat (sqI g.marks)), some (.dat (sqD g.dues.1 (g.dues.2.map sqDue))), some (.dat (.int g.marks.2.length)), none, none, none]
theorem wA (V : ValidG g.wb) (p : S) (o : Option L) : c_Web_init_k09_1 (locW g o) p = .ok (g.wb.first.map dS) p := by
  have l1 := Wg.first_of V
  have n2 := Wg.n2_of V
  unfold c_Web_init_k09_1
  rw [mcomp_ev (ds := g.first.2.map sqI) (p' := p) (by simp [locW, mvar, -List.map_map]) (by rw [List.length_map]; omega)]
  rw [comp_mapL (by simp [locW]) sqI (fun s => dS s.2) fun s hs => by
    have := Wg.fst_of V hs
    simp [locW, mvar, as_stands_sq s g.marks.2.length this.1 this.2]]
  simp [Wg.wb, List.map_map, Function.comp_def]
theorem wB (V : ValidG g.wb) (p : S) (o : Option L) : c_Web_init_k09_2 (locW g o) p = .ok (g.wb.second.map dS) p := by
  have l1 := Wg.second_of V
  have n2 := Wg.n2_of V
  unfold c_Web_init_k09_2
  rw [mcomp_ev (ds := g.second.2.map sqI) (p' := p) (by simp [locW, mvar, -List.map_map]) (by rw [List.length_map]; omega)]
  rw [comp_mapL (by simp [locW]) sqI (fun s => dS s.2) fun s hs => by
    have := Wg.snd_of V hs
    simp [locW, mvar, as_stands_sq s g.marks.2.length this.1 this.2]]
  simp [Wg.wb, List.map_map, Function.comp_def]
theorem wD (V : ValidG g.wb) (p : S) (o : Option L) : c_Web_init_k09_3 (locW g o) p = .ok (g.wb.dues.map dDue) p := by
  have l1 := Wg.dues_of V
  have n2 := Wg.n2_of V
  unfold c_Web_init_k09_3
  rw [mcomp_ev (ds := g.dues.2.map sqDue) (p' := p) (by simp [locW, mvar, -List.map_map]) (by rw [List.length_map]; omega)]
  rw [comp_mapL (by simp [locW]) sqDue (fun s => dDue s.2) fun s hs => by
    rcases sqDue_cases s with ⟨e, e2⟩ | ⟨b, x, e, e2⟩
    · simp [locW, mvar, e, e2, dDue]
    · simp [locW, mvar, e, e2, dDue_some]]
  simp [Wg.wb, List.map_map, Function.comp_def]
theorem wG (V : ValidG g.wb) (p : S) (o : Option L) : c_Web_init_k09_6 (locW g o) p = .ok (g.wb.dues.map fun d => .int (gdI d)) p := by
  have l1 := Wg.dues_of V
  have n2 := Wg.n2_of V
  unfold c_Web_init_k09_6
  rw [mcomp_ev (ds := g.dues.2.map sqDue) (p' := p) (by simp [locW, mvar, -List.map_map]) (by rw [List.length_map]; omega)]
  rw [comp_mapL (by simp [locW]) sqDue (fun s => .int (gdI s.2)) fun s hs => by
    rcases sqDue_cases s with ⟨e, e2⟩ | ⟨b, x, e, e2⟩
    · simp [locW, mvar, e, e2, gdI]
    · simp [locW, mvar, e, e2, gdI]]
  simp [Wg.wb, List.map_map, Function.comp_def]
theorem wmv (V : ValidG g.wb) : ∀ d ∈ rngD 0 g.marks.2.length, (fIx (sqD g.first.1 (g.first.2.map sqI)) d).bind truOf = some (moves g.wb d) := fun d hd => by
  have l1 := Wg.first_of V
  obtain ⟨i, hi, rfl⟩ := rngD_mem hd
  have hi' : i < g.first.2.length := by omega
  have e1 : atI (g.first.2.map sqI) ((0 : Int) + (i : Int)) = some (sqI g.first.2[i]) := by
    rw [Int.zero_add]
    exact atI_nat (by rw [List.getElem?_map, List.getElem?_eq_getElem hi']; rfl)
  have e2 : atI (g.wb.first.map dI) ((0 : Int) + (i : Int)) = some (dI g.first.2[i].2) := by
    rw [Int.zero_add]
    exact atI_nat (by simp [Wg.wb, List.getElem?_map, List.getElem?_eq_getElem hi'])
  unfold moves
  simp only [fIx_lst, fIx_sq, e1, e2, Option.bind_some, truOf_dI, truOf_sqI]
theorem wmv2 (V : ValidG g.wb) (p : S) (o : Option L) (d : D) (hd : d ∈ rngD 0 g.marks.2.length) : mtru (op2 fIx (mvar 1) (mvar 8)) ((locW g o).set 8 (some (.dat d))) p = .ok (moves g.wb d) p := by
  have := wmv V d hd
  have h1 : ((locW g o).set 8 (some (.dat d)))[1]? = some (some (.dat (sqD g.first.1 (g.first.2.map sqI)))) := by simp [locW]
  have h8 : ((locW g o).set 8 (some (.dat d)))[8]? = some (some (.dat d)) := by simp [locW]
  simp only [mtru_ev, op2_ev, mvar_ev h1, mvar_ev h8, bind_ok]
  cases e : fIx (sqD g.first.1 (g.first.2.map sqI)) d with
  | none => rw [e] at this; cases this
  | some y =>
    rw [e] at this
    simp only [Option.bind_some] at this
    simp [this]
theorem wrng (V : ValidG g.wb) (p : S) (o : Option L) : (mbind (acons (mvar 5) anil) fun x => mlift (rng1 x)) (locW g o) p = .ok (rngD 0 g.marks.2.length) p := by
  have n2 := Wg.n2_of V
  have hr : rng1 [D.int (g.marks.2.length : Int)] = some (rngD 0 g.marks.2.length) := by
    have h := rng1_int (n := (g.marks.2.length : Int)) (by omega)
    rw [Int.toNat_natCast] at h
    exact h
  have h5 : (locW g o)[5]? = some (some (.dat (.int g.marks.2.length))) := by simp [locW]
  simp only [mbind_ev, acons_ev, mvar_ev h5, bind_ok, anil_ev, hr, mlift_some]
theorem wE (V : ValidG g.wb) (p : S) (o : Option L) : c_Web_init_k09_4 (locW g o) p = .ok ((rngD 0 g.marks.2.length).filter fun d => !moves g.wb d) p := by
  have n2 := Wg.n2_of V
  refine (mcomp_ev (wrng V p o) (by rw [rngD_len]; omega)).trans ?_
  refine comp_filter (by simp [locW]) _ (fun d hd => ?_) fun d hd => mvar_ev (by simp [locW])
  rw [mnot_ev, wmv2 V p o d hd]
  rfl
theorem wM (V : ValidG g.wb) (p : S) (o : Option L) : c_Web_init_k09_5 (locW g o) p = .ok ((rngD 0 g.marks.2.length).filter fun d => moves g.wb d) p := by
  have n2 := Wg.n2_of V
  refine (mcomp_ev (wrng V p o) (by rw [rngD_len]; omega)).trans ?_
  refine comp_filter (by simp [locW]) _ (fun d hd => ?_) fun d hd => mvar_ev (by simp [locW])
  exact wmv2 V p o d hd
theorem wgd (V : ValidG g.wb) : fMaxL [.lst (g.wb.dues.map fun d => .int (gdI d))] = some (gdD g.wb) := by
  have n1 := V.n1
  have l3 := V.l3
  have e : intsOf (g.wb.dues.map fun d => D.int (gdI d)) = some (g.wb.dues.map gdI) := by
    have := intsOf_map (g.wb.dues.map gdI)
    rwa [List.map_map] at this
  show (intsOf (g.wb.dues.map fun d => D.int (gdI d))).bind mostOf = some (gdD g.wb)
  rw [e]
  unfold gdD
  cases e2 : g.wb.dues.map gdI with
  | nil =>
    have h0 : g.wb.dues.length = 0 := by rw [← List.length_map (f := gdI), e2]; rfl
    omega
  | cons n ns => rfl
theorem initG_eval (V : ValidG g.wb) (x : Addr) (A : CA) (p : S) : denI x A.Web 5 9 (dn_Web_init_k09 A) (encG g) p = .ok (wnames, wfields g.wb) p := by
  have hp := check_parts_sq V p
  simp only [encG] at hp
  unfold denI
  rw [if_pos (show (encG g).length + 1 = 5 from rfl)]
  show outI x A.Web (dn_Web_init_k09 A ((locW g (some (.obj x A.Web [] []))).set 5 none) p) = _
  unfold dn_Web_init_k09
  rw [seq_nx (l' := (locW g (some (.obj x A.Web [] []))).set 5 none) (p' := p) (by simp [b_Web_init_k09_01, locW, mvar, hp, -List.map_map])]
  rw [seq_nx (l' := locW g (some (.obj x A.Web [] []))) (p' := p) (by simp [b_Web_init_k09_02, locW, mvar, -List.map_map])]
  have s0 : ∀ (o q : Option L), (locW g o).set 0 q = locW g q := fun _ _ => rfl
  have h0 : ∀ o, (locW g (some o))[0]? = some (some o) := fun _ => rfl
  rw [seq_nx (sfldO_ev (x := .int g.marks.2.length) (p' := p) (by simp [locW, mvar]) (h0 _) ⟨rfl, by decide, by decide +kernel⟩)]
  simp only [s0, List.nil_append, List.cons_append]
  unfold b_Web_init_k09_04
  rw [seq_nx (sfldO_ev (x := .tup (g.wb.first.map dS)) (p' := p) (by simp [wA V p]) (h0 _) ⟨rfl, by decide, by decide +kernel⟩)]
  simp only [s0, List.nil_append, List.cons_append]
  unfold b_Web_init_k09_05
  rw [seq_nx (sfldO_ev (x := .tup (g.wb.second.map dS)) (p' := p) (by simp [wB V p]) (h0 _) ⟨rfl, by decide, by decide +kernel⟩)]
  simp only [s0, List.nil_append, List.cons_append]
  unfold b_Web_init_k09_06
  rw [seq_nx (sfldO_ev (x := .tup (g.wb.marks.map .int)) (p' := p) (by simp [locW, mvar, Wg.wb]) (h0 _) ⟨rfl, by decide, by decide +kernel⟩)]
  simp only [s0, List.nil_append, List.cons_append]
  unfold b_Web_init_k09_07
  rw [seq_nx (sfldO_ev (x := .tup (g.wb.dues.map dDue)) (p' := p) (by simp [wD V p]) (h0 _) ⟨rfl, by decide, by decide +kernel⟩)]
  simp only [s0, List.nil_append, List.cons_append]
  unfold b_Web_init_k09_08
  rw [seq_nx (sfldO_ev (x := .tup ((rngD 0 g.marks.2.length).filter fun d => !moves g.wb d)) (p' := p) (by simp [wE V p]) (h0 _) ⟨rfl, by decide, by decide +kernel⟩)]
  simp only [s0, List.nil_append, List.cons_append]
  unfold b_Web_init_k09_09
  rw [seq_nx (sfldO_ev (x := .tup ((rngD 0 g.marks.2.length).filter fun d => moves g.wb d)) (p' := p) (by simp [wM V p]) (h0 _) ⟨rfl, by decide, by decide +kernel⟩)]
  simp only [s0, List.nil_append, List.cons_append]
  unfold b_Web_init_k09_10
  rw [seq_nx (sfldO_ev (x := gdD g.wb) (p' := p) (by simp [wG V p, wgd V]) (h0 _) ⟨rfl, by decide, by decide +kernel⟩)]
  simp only [s0, List.nil_append, List.cons_append]
  unfold b_Web_init_k09_11
  rw [sfldO_ev (x := .bl (evB g.wb)) (p' := p) (by
    have b1 : (("_first" : Str) == "_size") = false := by decide +kernel
    have b2 : (("_second" : Str) == "_size") = false := by decide +kernel
    have b3 : (("_second" : Str) == "_first") = false := by decide +kernel
    simp [mfldO, h0, List.lookup, b1, b2, b3, even_ev]) (h0 _) ⟨rfl, by decide, by decide +kernel⟩]
  simp only [s0, List.nil_append, List.cons_append]
  unfold outI
  simp [wnames, wfields, Wg.wb, locW]
end
theorem D_Web_init_k09_len (A : CA) : ∀ ds pot, D_Web_init_k09 A ds pot ≠ .bad → ds.length + 1 = 5 := fun ds pot h => by
  unfold D_Web_init_k09 at h
  split at h
  · rename_i z
    obtain ⟨g, _, rfl⟩ := z
    rfl
  · exact absurd rfl h
theorem D_Web_init_k09_is (A : CA) : ∀ x ds pot, ds.length + 1 = 5 → D_Web_init_k09 A ds pot ≠ .bad → denI x A.Web 5 9 (dn_Web_init_k09 A) ds pot = D_Web_init_k09 A ds pot := fun x ds pot _ h => by
  unfold D_Web_init_k09 at h ⊢
  split
  · rename_i z
    obtain ⟨V, e⟩ := Classical.choose_spec z
    have q := initG_eval V x A pot
    rw [← e] at q
    exact q
  · rename_i z
    rw [dif_neg z] at h
    exact absurd rfl h
theorem Web_init_ev {g : Wg} (V : ValidG g.wb) (A : CA) (p : S) : D_Web_init_k09 A (encG g) p = .ok (wnames, wfields g.wb) p := by
  have hz : ∃ g', ValidG (Wg.wb g') ∧ encG g = encG g' := ⟨g, V, rfl⟩
  have h : D_Web_init_k09 A (encG g) p ≠ .bad := by
    unfold D_Web_init_k09
    rw [dif_pos hz]
    exact fun z => nomatch z
  rw [← D_Web_init_k09_is A 0 (encG g) p rfl h]
  exact initG_eval V 0 A p
theorem Valid.g {wb : Wb} (V : Valid wb) : ValidG wb := ⟨V.n1, V.n2, V.l1, V.l2, V.l3, fun ss h => ⟨by have := (V.s1 ss h).1; omega, (V.s1 ss h).2⟩, fun ss h => ⟨by have := (V.s2 ss h).1; omega, (V.s2 ss h).2⟩, V.both, V.mks, fun d h b x e => by have := V.du d h b x e; omega⟩
end PL
namespace K50
open PySem L2 Den PL
noncomputable section
variable {c : Cfg} {P : Program} {w : World} {mg : Str → Option Value} {base : Heap} {A : Adr}
theorem ok_is_integer (T : Txt c mg A) : FnR P w c.K mg base (L2.CX P w) 1 A.is_integer (spD c (D_is_integer)) :=
  fn_ss (N := Nn_is_integer) (ps := ["thing"]) (s := dn_is_integer) T.F_is_integer sc_is_integer (T.F_is_integer.binds (ps := ["thing"]) fun _ _ _ _ _ _ us hl => match us, hl with | [_], _ => rfl) fun cdv A_ outer sh H E' hr => ⟨(tRet (tAndV (tCB (rIsi c.K) (tCons (tVar 0) (tCons (tC (V.ty "int")) tNil))) (tNotV (tCB (rIsi c.K) (tCons (tVar 0) (tCons (tC (V.ty "bool")) tNil)))))),
    (pss_one (ps_ret (pe_and (pe_callB call_isi (by rfl) T.n_isinstance (by decide +kernel) (pa_cons (pv 0) (pa_cons (pe_bltn (v := V.ty "int") (by rfl) T.n_int (by decide +kernel) rfl) pa_nil))) (pe_one (pe_not (pe_callB call_isi (by rfl) T.n_isinstance (by decide +kernel) (pa_cons (pv 0) (pa_cons (pe_bltn (v := V.ty "bool") (by rfl) T.n_bool (by decide +kernel) rfl) pa_nil)))))))),
    (ss_ret (se_and (se_cb sn_is1 (sa_cons se_var (sa_cons (se_c fun _ _ => At.ty Ty.int) sa_nil))) (se_not (se_cb sn_is1 (sa_cons se_var (sa_cons (se_c fun _ _ => At.ty Ty.bl) sa_nil))))))⟩
theorem ok_check_whole (T : Txt c mg A) : FnR P w c.K mg base (L2.CX P w) 2 A.check_whole (spD c (D_check_whole)) :=
  fn_star_ss (N := Nn_check_whole) (pv := "things") (s := dn_check_whole) T.F_check_whole sc_check_whole (fun _ _ _ _ _ _ rest => by cases rest <;> rfl) fun cdv A_ outer sh H E' hr => ⟨(tFor (iTup c.K (tVar 0)) (gName 1) (tIfS (tNot (fun σ H Q => (tCallS (spD c D_is_integer) (fun _ => E') (tCons (tVar 1) tNil)) σ H fun x H' => ∃ k, TruV c.K x H' k ∧ Q k H')) (fun _ σ H => E' (Value.ref (c.ec 0)) none H) tNext)),
    (pss_one (ps_for (passes_of rfl) rfl (pi_tup (pv 0)) (pg_name (i := 1) sc_check_whole.nd rfl (by first | exact Or.inl rfl | exact Or.inr rfl)) (pss_one (ps_if (pt_not (pt_truth (pe_callRS (ok_is_integer T) (hr.mono (by decide)) (by rfl) T.m_is_integer T.F_is_integer.kp (passE (takes_of rfl rfl rfl rfl)) (pa_cons (pv 1) pa_nil)) (by intro _; rfl))) (pss_one (ps_raise rfl (takes_of rfl rfl rfl rfl) (pmk_own PySem.F.excBase_Exception T.xE0 T.mE0 T.kE0 (raises_own T.bE0 T.tE0) (by exact rfl)))) pss_nil)))),
    (ss_for (si_tup se_var) sg_name (ss_if (st_not (st_tru (se_call (sa_cons se_var sa_nil)))) (ss_raise (n := 0)) ss_next))⟩
theorem ok_whole_list (T : Txt c mg A) : FnR P w c.K mg base (L2.CX P w) 3 A.whole_list (spD c (D_whole_list)) :=
  fn_ss (N := Nn_whole_list) (ps := ["thing"]) (s := dn_whole_list) T.F_whole_list sc_whole_list (T.F_whole_list.binds (ps := ["thing"]) fun _ _ _ _ _ _ us hl => match us, hl with | [_], _ => rfl) fun cdv A_ outer sh H E' hr => ⟨(tSeq (tIfS (tNot (fun σ H Q => (tCB (rIsiT c.K) (tCons (tVar 0) (tCons (tTup (tCons (tC (V.ty "list")) (tCons (tC (V.ty "tuple")) tNil))) tNil))) σ H fun x H' => ∃ k, TruV c.K x H' k ∧ Q k H')) (fun _ σ H => E' (Value.ref (c.ec 0)) none H) tNext)
    (tSeq (tDrop (tCallStar c.K (spD c D_check_whole) (fun _ => E') (tVar 0)))
    (tRet (tCB (rTupleF c.K) (tCons (tVar 0) tNil))))),
    (pss_cons (ps_if (pt_not (pt_truth (pe_callB call_isiT (by rfl) T.n_isinstance (by decide +kernel) (pa_cons (pv 0) (pa_cons (pe_tup (pa_cons (pe_bltn (v := V.ty "list") (by rfl) T.n_list (by decide +kernel) rfl) (pa_cons (pe_bltn (v := V.ty "tuple") (by rfl) T.n_tuple (by decide +kernel) rfl) pa_nil))) pa_nil))) (by intro _; rfl))) (pss_one (ps_raise rfl (takes_of rfl rfl rfl rfl) (pmk_own PySem.F.excBase_Exception T.xE0 T.mE0 T.kE0 (raises_own T.bE0 T.tE0) (by exact rfl)))) pss_nil)
    (pss_cons (ps_expr (pe_callStar (ok_check_whole T) (hr.mono (by decide)) T.F_check_whole.kp (by rfl) T.m_check_whole (passE (takes_of rfl rfl rfl rfl)) (pv 0)))
    (pss_one (ps_ret (pe_callTy call_tuple_of (by rfl) T.n_tuple (by decide +kernel) (pa_cons (pv 0) pa_nil)))))),
    (ss_seq (ss_if (st_not (st_tru (se_cb sn_is2 (sa_cons se_var (sa_cons (se_tup (sa_cons (se_c fun _ _ => At.ty Ty.lst) (sa_cons (se_c fun _ _ => At.ty Ty.tup) sa_nil))) sa_nil))))) (ss_raise (n := 0)) ss_next)
    (ss_seq (ss_drop (se_star se_var))
    (ss_ret (se_cb sn_tuple (sa_cons se_var sa_nil)))))⟩
theorem ok_check_range (T : Txt c mg A) : FnR P w c.K mg base (L2.CX P w) 1 A.check_range (spD c (D_check_range)) :=
  fn_ss (N := Nn_check_range) (ps := ["number", "least", "most"]) (s := dn_check_range) T.F_check_range sc_check_range (T.F_check_range.binds (ps := ["number", "least", "most"]) fun _ _ _ _ _ _ us hl => match us, hl with | [_, _, _], _ => rfl) fun cdv A_ outer sh H E' hr => ⟨(tIfS (tOr (tTest (tOp (rI0 fun i j => V.bl (decide (i < j))) (tVar 0) (tVar 1))) (tTest (tOp (rI0 fun i j => V.bl (decide (j < i))) (tVar 0) (tVar 2)))) (fun _ σ H => E' (Value.ref (c.ec 1)) none H) tNext),
    (pss_one (ps_if (PW.pt (pw_or (pt_cmpR op_lt (pv 0) (pv 1) (nomark _)) (pw_or1 (pt_cmpR op_gt (pv 0) (pv 2) (nomark _))))) (pss_one (ps_raise rfl (takes_of rfl rfl rfl rfl) (pmk_own PySem.F.excBase_Exception T.xE1 T.mE1 T.kE1 (raises_own T.bE1 T.tE1) (by exact rfl)))) pss_nil)),
    (ss_if (st_or (st_test (se_op2 s2_lt se_var se_var)) (st_test (se_op2 s2_gt se_var se_var))) (ss_raise (n := 1)) ss_next)⟩
theorem ok_check_least (T : Txt c mg A) : FnR P w c.K mg base (L2.CX P w) 1 A.check_least (spD c (D_check_least)) :=
  fn_ss (N := Nn_check_least) (ps := ["number", "least"]) (s := dn_check_least) T.F_check_least sc_check_least (T.F_check_least.binds (ps := ["number", "least"]) fun _ _ _ _ _ _ us hl => match us, hl with | [_, _], _ => rfl) fun cdv A_ outer sh H E' hr => ⟨(tIfS (tTest (tOp (rI0 fun i j => V.bl (decide (i < j))) (tVar 0) (tVar 1))) (fun _ σ H => E' (Value.ref (c.ec 1)) none H) tNext),
    (pss_one (ps_if (pt_cmpR op_lt (pv 0) (pv 1) (nomark _)) (pss_one (ps_raise rfl (takes_of rfl rfl rfl rfl) (pmk_own PySem.F.excBase_Exception T.xE1 T.mE1 T.kE1 (raises_own T.bE1 T.tE1) (by exact rfl)))) pss_nil)),
    (ss_if (st_test (se_op2 s2_lt se_var se_var)) (ss_raise (n := 1)) ss_next)⟩
theorem ok_check_one_or_two (T : Txt c mg A) : FnR P w c.K mg base (L2.CX P w) 1 A.check_one_or_two (spD c (D_check_one_or_two)) :=
  fn_ss (N := Nn_check_one_or_two) (ps := ["number"]) (s := dn_check_one_or_two) T.F_check_one_or_two sc_check_one_or_two (T.F_check_one_or_two.binds (ps := ["number"]) fun _ _ _ _ _ _ us hl => match us, hl with | [_], _ => rfl) fun cdv A_ outer sh H E' hr => ⟨(tIfS (tTest (tOp (rIn c.K true) (tVar 0) (tTup (tCons (tC (V.int 1)) (tCons (tC (V.int 2)) tNil))))) (fun _ σ H => E' (Value.ref (c.ec 1)) none H) tNext),
    (pss_one (ps_if (pt_cmpR op_notIn_seq (pv 0) (pe_tup (pa_cons pe_int (pa_cons pe_int pa_nil))) rfl) (pss_one (ps_raise rfl (takes_of rfl rfl rfl rfl) (pmk_own PySem.F.excBase_Exception T.xE1 T.mE1 T.kE1 (raises_own T.bE1 T.tE1) (by exact rfl)))) pss_nil)),
    (ss_if (st_test (se_op2 s2_in se_var (se_tup (sa_cons se_int (sa_cons se_int sa_nil))))) (ss_raise (n := 1)) ss_next)⟩
theorem ok_check_most (T : Txt c mg A) : FnR P w c.K mg base (L2.CX P w) 1 A.check_most (spD c (D_check_most)) :=
  fn_ss (N := Nn_check_most) (ps := ["number", "most"]) (s := dn_check_most) T.F_check_most sc_check_most (T.F_check_most.binds (ps := ["number", "most"]) fun _ _ _ _ _ _ us hl => match us, hl with | [_, _], _ => rfl) fun cdv A_ outer sh H E' hr => ⟨(tIfS (tTest (tOp (rI0 fun i j => V.bl (decide (j < i))) (tVar 0) (tVar 1))) (fun _ σ H => E' (Value.ref (c.ec 3)) none H) tNext),
    (pss_one (ps_if (pt_cmpR op_gt (pv 0) (pv 1) (nomark _)) (pss_one (ps_raise rfl (takes_of rfl rfl rfl rfl) (pmk_own PySem.F.excBase_Exception T.xE3 T.mE3 T.kE3 (raises_own T.bE3 T.tE3) (by exact rfl)))) pss_nil)),
    (ss_if (st_test (se_op2 s2_gt se_var se_var)) (ss_raise (n := 3)) ss_next)⟩
theorem ok_as_stands (T : Txt c mg A) : FnR P w c.K mg base (L2.CX P w) 4 A.as_stands (spD c (D_as_stands)) :=
  fn_ss (N := Nn_as_stands) (ps := ["thing", "size"]) (s := dn_as_stands) T.F_as_stands sc_as_stands (T.F_as_stands.binds (ps := ["thing", "size"]) fun _ _ _ _ _ _ us hl => match us, hl with | [_, _], _ => rfl) fun cdv A_ outer sh H E' hr => ⟨(tSeq (tAsg (tCallS (spD c D_whole_list) (fun _ => E') (tCons (tVar 0) tNil)) (gName 2))
    (tSeq (tFor (iTup c.K (tVar 2)) (gName 3) (tDrop (tCallS (spD c D_check_range) (fun _ => E') (tCons (tVar 3) (tCons (tC (V.int 0)) (tCons (tOp (rI0 fun i j => V.int (i - j)) (tVar 1) (tC (V.int 1))) tNil))))))
    (tRet (tCB (rTupleF c.K) (tCons (tCB (rSortedSet w) (tCons (tCB (rSetI c.K w) (tCons (tVar 2) tNil)) tNil)) tNil))))),
    (pss_cons (ps_asg (pe_callRS (ok_whole_list T) (hr.mono (by decide)) (by rfl) T.m_whole_list T.F_whole_list.kp (passE (takes_of rfl rfl rfl rfl)) (pa_cons (pv 0) pa_nil)) (pg_name (i := 2) sc_as_stands.nd rfl (by first | exact Or.inl rfl | exact Or.inr rfl)))
    (pss_cons (ps_for (passes_of rfl) rfl (pi_tup (pv 2)) (pg_name (i := 3) sc_as_stands.nd rfl (by first | exact Or.inl rfl | exact Or.inr rfl)) (pss_one (ps_expr (pe_callRS (ok_check_range T) (hr.mono (by decide)) (by rfl) T.m_check_range T.F_check_range.kp (passE (takes_of rfl rfl rfl rfl)) (pa_cons (pv 3) (pa_cons pe_int (pa_cons (pe_op op_sub (pv 1) pe_int) pa_nil)))))))
    (pss_one (ps_ret (pe_callTy call_tuple_of (by rfl) T.n_tuple (by decide +kernel) (pa_cons (pe_callB (cr_sortedSet rfl) (by rfl) T.n_sorted (by decide +kernel) (pa_cons (pe_callTy (cr_setI rfl) (by rfl) T.n_set (by decide +kernel) (pa_cons (pv 2) pa_nil)) pa_nil)) pa_nil)))))),
    (ss_seq (ss_asg (se_call (sa_cons se_var sa_nil)) sg_name)
    (ss_seq (ss_for (si_tup se_var) sg_name (ss_drop (se_call (sa_cons se_var (sa_cons se_int (sa_cons (se_op2 s2_sub se_var se_int) sa_nil))))))
    (ss_ret (se_cb sn_tuple (sa_cons (se_sortSet se_var) sa_nil)))))⟩
theorem ok_row_number (T : Txt c mg A) : FnR P w c.K mg base (L2.CX P w) 3 A.row_number (spD c (D_row_number)) :=
  fn_ss (N := Nn_row_number) (ps := ["n", "mark", "k", "stand"]) (s := dn_row_number) T.F_row_number sc_row_number (T.F_row_number.binds (ps := ["n", "mark", "k", "stand"]) fun _ _ _ _ _ _ us hl => match us, hl with | [_, _, _, _], _ => rfl) fun cdv A_ outer sh H E' hr => ⟨(tSeq (tDrop (tCallS (spD c D_check_whole) (fun _ => E') (tCons (tVar 0) (tCons (tVar 1) (tCons (tVar 2) (tCons (tVar 3) tNil))))))
    (tSeq (tDrop (tCallS (spD c D_check_least) (fun _ => E') (tCons (tVar 0) (tCons (tC (V.int 1)) tNil))))
    (tSeq (tDrop (tCallS (spD c D_check_one_or_two) (fun _ => E') (tCons (tVar 1) tNil)))
    (tSeq (tDrop (tCallS (spD c D_check_least) (fun _ => E') (tCons (tVar 2) (tCons (tC (V.int 0)) tNil))))
    (tSeq (tDrop (tCallS (spD c D_check_range) (fun _ => E') (tCons (tVar 3) (tCons (tC (V.int 0)) (tCons (tVar 0) tNil)))))
    (tSeq (tAsg (tOp (rI CDiv fun i j => V.int (i / j)) (tOp (rI CMul fun i j => V.int (i * j)) (tVar 0) (tOp (rI0 fun i j => V.int (i - j)) (tVar 0) (tC (V.int 1)))) (tC (V.int 2))) (gName 4))
    (tSeq (tIfS (tTest (tOp rEq (tVar 1) (tC (V.int 2)))) (tDrop (tCallS (spD c D_check_least) (fun _ => E') (tCons (tOp (rI0 fun i j => V.int (i + j)) (tVar 2) (tC (V.int 1))) (tCons (tVar 4) tNil)))) tNext)
    (tSeq (tDrop (tCallS (spD c D_check_most) (fun _ => E') (tCons (tVar 0) (tCons (tC (V.int 40)) tNil))))
    (tSeq (tDrop (tCallS (spD c D_check_most) (fun _ => E') (tCons (tVar 2) (tCons (tC (V.int 10000000000000000000000000000000000000000)) tNil))))
    (tSeq (tAsg (tIf (tTest (tOp rEq (tVar 1) (tC (V.int 1)))) (tOp (rI0 fun i j => V.int (i + j)) (tVar 2) (tC (V.int 1))) (tOp (rI0 fun i j => V.int (i + j)) (tOp (rI0 fun i j => V.int (i + j)) (tVar 2) (tC (V.int 1))) (tVar 4))) (gName 5))
    (tSeq (tAsg (tOp (rI0 fun i j => V.int (i + j)) (tOp (rI CMul fun i j => V.int (i * j)) (tOp (rI CDiv fun i j => V.int (i / j)) (tVar 5) (tVar 0)) (tVar 3)) (tCB rMax2F (tCons (tC (V.int 0)) (tCons (tOp (rI0 fun i j => V.int (i + j)) (tOp (rI0 fun i j => V.int (i - j)) (tVar 3) (tVar 0)) (tOp (rI (fun _ j => 0 < j) fun i j => V.int (i % j)) (tVar 5) (tVar 0))) tNil)))) (gName 6))
    (tRet (tIf (tTest (tOp rEq (tVar 1) (tC (V.int 1)))) (tVar 6) (tOp (rI0 fun i j => V.int (i - j)) (tVar 6) (tOp (rI CDiv fun i j => V.int (i / j)) (tOp (rI CMul fun i j => V.int (i * j)) (tVar 3) (tOp (rI0 fun i j => V.int (i - j)) (tVar 3) (tC (V.int 1)))) (tC (V.int 2))))))))))))))))),
    (pss_cons (ps_expr (pe_callRS (ok_check_whole T) (hr.mono (by decide)) (by rfl) T.m_check_whole T.F_check_whole.kp (passE (takes_of rfl rfl rfl rfl)) (pa_cons (pv 0) (pa_cons (pv 1) (pa_cons (pv 2) (pa_cons (pv 3) pa_nil))))))
    (pss_cons (ps_expr (pe_callRS (ok_check_least T) (hr.mono (by decide)) (by rfl) T.m_check_least T.F_check_least.kp (passE (takes_of rfl rfl rfl rfl)) (pa_cons (pv 0) (pa_cons pe_int pa_nil))))
    (pss_cons (ps_expr (pe_callRS (ok_check_one_or_two T) (hr.mono (by decide)) (by rfl) T.m_check_one_or_two T.F_check_one_or_two.kp (passE (takes_of rfl rfl rfl rfl)) (pa_cons (pv 1) pa_nil)))
    (pss_cons (ps_expr (pe_callRS (ok_check_least T) (hr.mono (by decide)) (by rfl) T.m_check_least T.F_check_least.kp (passE (takes_of rfl rfl rfl rfl)) (pa_cons (pv 2) (pa_cons pe_int pa_nil))))
    (pss_cons (ps_expr (pe_callRS (ok_check_range T) (hr.mono (by decide)) (by rfl) T.m_check_range T.F_check_range.kp (passE (takes_of rfl rfl rfl rfl)) (pa_cons (pv 3) (pa_cons pe_int (pa_cons (pv 0) pa_nil)))))
    (pss_cons (ps_asg (pe_op op_fdiv (pe_op op_mul (pv 0) (pe_op op_sub (pv 0) pe_int)) pe_int) (pg_name (i := 4) sc_row_number.nd rfl (by first | exact Or.inl rfl | exact Or.inr rfl)))
    (pss_cons (ps_if (pt_cmpR op_eq (pv 1) pe_int (nomark _)) (pss_one (ps_expr (pe_callRS (ok_check_least T) (hr.mono (by decide)) (by rfl) T.m_check_least T.F_check_least.kp (passE (takes_of rfl rfl rfl rfl)) (pa_cons (pe_op op_add (pv 2) pe_int) (pa_cons (pv 4) pa_nil))))) pss_nil)
    (pss_cons (ps_expr (pe_callRS (ok_check_most T) (hr.mono (by decide)) (by rfl) T.m_check_most T.F_check_most.kp (passE (takes_of rfl rfl rfl rfl)) (pa_cons (pv 0) (pa_cons (pe_gint (by rfl) T.c_LONGEST_LINE) pa_nil))))
    (pss_cons (ps_expr (pe_callRS (ok_check_most T) (hr.mono (by decide)) (by rfl) T.m_check_most T.F_check_most.kp (passE (takes_of rfl rfl rfl rfl)) (pa_cons (pv 2) (pa_cons (pe_gint (by rfl) T.c_GREATEST) pa_nil))))
    (pss_cons (ps_asg (pe_ifExp (pt_cmpR op_eq (pv 1) pe_int (nomark _)) (pe_op op_add (pv 2) pe_int) (pe_op op_add (pe_op op_add (pv 2) pe_int) (pv 4))) (pg_name (i := 5) sc_row_number.nd rfl (by first | exact Or.inl rfl | exact Or.inr rfl)))
    (pss_cons (ps_asg (pe_op op_add (pe_op op_mul (pe_op op_fdiv (pv 5) (pv 0)) (pv 3)) (pe_callB (call_max2 rfl) (by rfl) T.n_max (by decide +kernel) (pa_cons pe_int (pa_cons (pe_op op_add (pe_op op_sub (pv 3) (pv 0)) (pe_op op_mod (pv 5) (pv 0))) pa_nil)))) (pg_name (i := 6) sc_row_number.nd rfl (by first | exact Or.inl rfl | exact Or.inr rfl)))
    (pss_one (ps_ret (pe_ifExp (pt_cmpR op_eq (pv 1) pe_int (nomark _)) (pv 6) (pe_op op_sub (pv 6) (pe_op op_fdiv (pe_op op_mul (pv 3) (pe_op op_sub (pv 3) pe_int)) pe_int)))))))))))))))),
    (ss_seq (ss_drop (se_call (sa_cons se_var (sa_cons se_var (sa_cons se_var (sa_cons se_var sa_nil))))))
    (ss_seq (ss_drop (se_call (sa_cons se_var (sa_cons se_int sa_nil))))
    (ss_seq (ss_drop (se_call (sa_cons se_var sa_nil)))
    (ss_seq (ss_drop (se_call (sa_cons se_var (sa_cons se_int sa_nil))))
    (ss_seq (ss_drop (se_call (sa_cons se_var (sa_cons se_int (sa_cons se_var sa_nil)))))
    (ss_seq (ss_asg (se_op2 s2_div (se_op2 s2_mul se_var (se_op2 s2_sub se_var se_int)) se_int) sg_name)
    (ss_seq (ss_if (st_test (se_op2 s2_eq se_var se_int)) (ss_drop (se_call (sa_cons (se_op2 s2_add se_var se_int) (sa_cons se_var sa_nil)))) ss_next)
    (ss_seq (ss_drop (se_call (sa_cons se_var (sa_cons se_int sa_nil))))
    (ss_seq (ss_drop (se_call (sa_cons se_var (sa_cons se_int sa_nil))))
    (ss_seq (ss_asg (se_if (st_test (se_op2 s2_eq se_var se_int)) (se_op2 s2_add se_var se_int) (se_op2 s2_add (se_op2 s2_add se_var se_int) se_var)) sg_name)
    (ss_seq (ss_asg (se_op2 s2_add (se_op2 s2_mul (se_op2 s2_div se_var se_var) se_var) (se_cb sn_max2 (sa_cons se_int (sa_cons (se_op2 s2_add (se_op2 s2_sub se_var se_var) (se_op2 s2_mod se_var se_var)) sa_nil)))) sg_name)
    (ss_ret (se_if (st_test (se_op2 s2_eq se_var se_int)) se_var (se_op2 s2_sub se_var (se_op2 s2_div (se_op2 s2_mul se_var (se_op2 s2_sub se_var se_int)) se_int)))))))))))))))⟩
theorem ok_is_due (T : Txt c mg A) : FnR P w c.K mg base (L2.CX P w) 2 A.is_due (spD c (D_is_due)) :=
  fn_ss (N := Nn_is_due) (ps := ["due"]) (s := dn_is_due) T.F_is_due sc_is_due (T.F_is_due.binds (ps := ["due"]) fun _ _ _ _ _ _ us hl => match us, hl with | [_], _ => rfl) fun cdv A_ outer sh H E' hr => ⟨(tSeq (tIfS (tTest (tOp rIsNF (tVar 0) (tC V.non))) (tRet (tC (V.bl true))) tNext)
    (tSeq (tIfS (tOr (tNot (fun σ H Q => (tCB (rIsiT c.K) (tCons (tVar 0) (tCons (tTup (tCons (tC (V.ty "list")) (tCons (tC (V.ty "tuple")) tNil))) tNil))) σ H fun x H' => ∃ k, TruV c.K x H' k ∧ Q k H')) (tTest (tOp rNe (tCB (rLenS c.K) (tCons (tVar 0) tNil)) (tC (V.int 2))))) (tRet (tC (V.bl false))) tNext)
    (tRet (tAndV (tCB (rIsi c.K) (tCons (tOp (rIx c.K) (tVar 0) (tC (V.int 0))) (tCons (tC (V.ty "str")) tNil))) (tCallS (spD c D_is_integer) (fun _ => E') (tCons (tOp (rIx c.K) (tVar 0) (tC (V.int 1))) tNil)))))),
    (pss_cons (ps_if (pt_cmpR op_isN (pv 0) pe_non (nomark _)) (pss_one (ps_ret pe_bl)) pss_nil)
    (pss_cons (ps_if (PW.pt (pw_or (pt_not (pt_truth (pe_callB call_isiT (by rfl) T.n_isinstance (by decide +kernel) (pa_cons (pv 0) (pa_cons (pe_tup (pa_cons (pe_bltn (v := V.ty "list") (by rfl) T.n_list (by decide +kernel) rfl) (pa_cons (pe_bltn (v := V.ty "tuple") (by rfl) T.n_tuple (by decide +kernel) rfl) pa_nil))) pa_nil))) (by intro _; rfl))) (pw_or1 (pt_cmpR op_ne (pe_callB call_len_seq (by rfl) T.n_len (by decide +kernel) (pa_cons (pv 0) pa_nil)) pe_int (nomark _))))) (pss_one (ps_ret pe_bl)) pss_nil)
    (pss_one (ps_ret (pe_and (pe_callB call_isi (by rfl) T.n_isinstance (by decide +kernel) (pa_cons (pe_ix ix_seq (pv 0) pe_int (fun _ _ => rfl)) (pa_cons (pe_bltn (v := V.ty "str") (by rfl) T.n_str (by decide +kernel) rfl) pa_nil))) (pe_one (pe_callRS (ok_is_integer T) (hr.mono (by decide)) (by rfl) T.m_is_integer T.F_is_integer.kp (passE (takes_of rfl rfl rfl rfl)) (pa_cons (pe_ix ix_seq (pv 0) pe_int (fun _ _ => rfl)) pa_nil)))))))),
    (ss_seq (ss_if (st_test (se_op2 s2_isN se_var se_non)) (ss_ret se_bl) ss_next)
    (ss_seq (ss_if (st_or (st_not (st_tru (se_cb sn_is2 (sa_cons se_var (sa_cons (se_tup (sa_cons (se_c fun _ _ => At.ty Ty.lst) (sa_cons (se_c fun _ _ => At.ty Ty.tup) sa_nil))) sa_nil))))) (st_test (se_op2 s2_ne (se_cb sn_len (sa_cons se_var sa_nil)) se_int))) (ss_ret se_bl) ss_next)
    (ss_ret (se_and (se_cb sn_is1 (sa_cons (se_op2 s2_ix se_var se_int) (sa_cons (se_c fun _ _ => At.ty Ty.str) sa_nil))) (se_call (sa_cons (se_op2 s2_ix se_var se_int) sa_nil))))))⟩
theorem ok_due_in_range (T : Txt c mg A) : FnR P w c.K mg base (L2.CX P w) 1 A.due_in_range (spD c (D_due_in_range)) :=
  fn_ss (N := Nn_due_in_range) (ps := ["due"]) (s := dn_due_in_range) T.F_due_in_range sc_due_in_range (T.F_due_in_range.binds (ps := ["due"]) fun _ _ _ _ _ _ us hl => match us, hl with | [_], _ => rfl) fun cdv A_ outer sh H E' hr => ⟨(tRet (tOrV (tOp rIsNF (tVar 0) (tC V.non)) (tAndV (tOp (rIn c.K false) (tOp (rIx c.K) (tVar 0) (tC (V.int 0))) (tTup (tCons (tC (V.str "chips")) (tCons (tC (V.str "less")) tNil)))) (tOp (rI0 fun i j => V.bl (decide (j ≤ i))) (tOp (rIx c.K) (tVar 0) (tC (V.int 1))) (tC (V.int 0)))))),
    (pss_one (ps_ret (pe_or (pe_cmpR op_isN (pv 0) pe_non (nomark _)) (pe_one (pe_and (pe_cmpR op_in_seq (pe_ix ix_seq (pv 0) pe_int (fun _ _ => rfl)) (pe_tup (pa_cons pe_str (pa_cons pe_str pa_nil))) rfl) (pe_one (pe_cmpR op_ge (pe_ix ix_seq (pv 0) pe_int (fun _ _ => rfl)) pe_int (nomark _)))))))),
    (ss_ret (se_or (se_op2 s2_isN se_var se_non) (se_and (se_op2 s2_in (se_op2 s2_ix se_var se_int) (se_tup (sa_cons se_str (sa_cons se_str sa_nil)))) (se_op2 s2_ge (se_op2 s2_ix se_var se_int) se_int))))⟩
theorem ok_due_too_great (T : Txt c mg A) : FnR P w c.K mg base (L2.CX P w) 1 A.due_too_great (spD c (D_due_too_great)) :=
  fn_ss (N := Nn_due_too_great) (ps := ["due"]) (s := dn_due_too_great) T.F_due_too_great sc_due_too_great (T.F_due_too_great.binds (ps := ["due"]) fun _ _ _ _ _ _ us hl => match us, hl with | [_], _ => rfl) fun cdv A_ outer sh H E' hr => ⟨(tRet (tAndV (tOp rNotNF (tVar 0) (tC V.non)) (tOp (rI0 fun i j => V.bl (decide (j < i))) (tOp (rIx c.K) (tVar 0) (tC (V.int 1))) (tC (V.int 10000000000000000000000000000000000000000))))),
    (pss_one (ps_ret (pe_and (pe_cmpR op_notN (pv 0) pe_non (nomark _)) (pe_one (pe_cmpR op_gt (pe_ix ix_seq (pv 0) pe_int (fun _ _ => rfl)) (pe_gint (by rfl) T.c_GREATEST) (nomark _)))))),
    (ss_ret (se_and (se_op2 s2_notN se_var se_non) (se_op2 s2_gt (se_op2 s2_ix se_var se_int) se_int)))⟩
theorem ok_check_due (T : Txt c mg A) : FnR P w c.K mg base (L2.CX P w) 3 A.check_due (spD c (D_check_due)) :=
  fn_ss (N := Nn_check_due) (ps := ["due"]) (s := dn_check_due) T.F_check_due sc_check_due (T.F_check_due.binds (ps := ["due"]) fun _ _ _ _ _ _ us hl => match us, hl with | [_], _ => rfl) fun cdv A_ outer sh H E' hr => ⟨(tIfS (tNot (fun σ H Q => (tCallS (spD c D_is_due) (fun _ => E') (tCons (tVar 0) tNil)) σ H fun x H' => ∃ k, TruV c.K x H' k ∧ Q k H')) (fun _ σ H => E' (Value.ref (c.ec 0)) none H) tNext),
    (pss_one (ps_if (pt_not (pt_truth (pe_callRS (ok_is_due T) (hr.mono (by decide)) (by rfl) T.m_is_due T.F_is_due.kp (passE (takes_of rfl rfl rfl rfl)) (pa_cons (pv 0) pa_nil)) (by intro _; rfl))) (pss_one (ps_raise rfl (takes_of rfl rfl rfl rfl) (pmk_own PySem.F.excBase_Exception T.xE0 T.mE0 T.kE0 (raises_own T.bE0 T.tE0) (by exact rfl)))) pss_nil)),
    (ss_if (st_not (st_tru (se_call (sa_cons se_var sa_nil)))) (ss_raise (n := 0)) ss_next)⟩
theorem ok_due_at (T : Txt c mg A) : FnR P w c.K mg base (L2.CX P w) 1 A.due_at (spD c (D_due_at)) :=
  fn_ss (N := Nn_due_at) (ps := ["due", "k"]) (s := dn_due_at) T.F_due_at sc_due_at (T.F_due_at.binds (ps := ["due", "k"]) fun _ _ _ _ _ _ us hl => match us, hl with | [_, _], _ => rfl) fun cdv A_ outer sh H E' hr => ⟨(tSeq (tIfS (tTest (tOp rIsNF (tVar 0) (tC V.non))) (tRet (tOp (rI0 fun i j => V.int (i + j)) (tVar 1) (tC (V.int 1)))) tNext)
    (tSeq (tIfS (tTest (tOp rEq (tOp (rIx c.K) (tVar 0) (tC (V.int 0))) (tC (V.str "chips")))) (tRet (tCB rMin2F (tCons (tOp (rIx c.K) (tVar 0) (tC (V.int 1))) (tCons (tOp (rI0 fun i j => V.int (i + j)) (tVar 1) (tC (V.int 1))) tNil)))) tNext)
    (tRet (tCB rMax2F (tCons (tC (V.int 0)) (tCons (tOp (rI0 fun i j => V.int (i - j)) (tOp (rI0 fun i j => V.int (i + j)) (tVar 1) (tC (V.int 1))) (tOp (rIx c.K) (tVar 0) (tC (V.int 1)))) tNil)))))),
    (pss_cons (ps_if (pt_cmpR op_isN (pv 0) pe_non (nomark _)) (pss_one (ps_ret (pe_op op_add (pv 1) pe_int))) pss_nil)
    (pss_cons (ps_if (pt_cmpR op_eq (pe_ix ix_seq (pv 0) pe_int (fun _ _ => rfl)) pe_str (nomark _)) (pss_one (ps_ret (pe_callB (call_min2 rfl) (by rfl) T.n_min (by decide +kernel) (pa_cons (pe_ix ix_seq (pv 0) pe_int (fun _ _ => rfl)) (pa_cons (pe_op op_add (pv 1) pe_int) pa_nil))))) pss_nil)
    (pss_one (ps_ret (pe_callB (call_max2 rfl) (by rfl) T.n_max (by decide +kernel) (pa_cons pe_int (pa_cons (pe_op op_sub (pe_op op_add (pv 1) pe_int) (pe_ix ix_seq (pv 0) pe_int (fun _ _ => rfl))) pa_nil))))))),
    (ss_seq (ss_if (st_test (se_op2 s2_isN se_var se_non)) (ss_ret (se_op2 s2_add se_var se_int)) ss_next)
    (ss_seq (ss_if (st_test (se_op2 s2_eq (se_op2 s2_ix se_var se_int) se_str)) (ss_ret (se_cb sn_min2 (sa_cons (se_op2 s2_ix se_var se_int) (sa_cons (se_op2 s2_add se_var se_int) sa_nil)))) ss_next)
    (ss_ret (se_cb sn_max2 (sa_cons se_int (sa_cons (se_op2 s2_sub (se_op2 s2_add se_var se_int) (se_op2 s2_ix se_var se_int)) sa_nil))))))⟩
theorem ok_check_kinds (T : Txt c mg A) : FnR P w c.K mg base (L2.CX P w) 4 A.check_kinds (spD c (D_check_kinds_k09)) :=
  fn_ss (N := Nn_check_kinds) (ps := ["first", "second", "marks", "dues"]) (s := dn_check_kinds_k09) T.F_check_kinds sc_check_kinds (T.F_check_kinds.binds (ps := ["first", "second", "marks", "dues"]) fun _ _ _ _ _ _ us hl => match us, hl with | [_, _, _, _], _ => rfl) fun cdv A_ outer sh H E' hr => ⟨(tSeq (tFor (iTup c.K (tTup (tCons (tVar 0) (tCons (tVar 1) (tCons (tVar 3) tNil))))) (gName 4) (tIfS (tNot (fun σ H Q => (tCB (rIsiT c.K) (tCons (tVar 4) (tCons (tTup (tCons (tC (V.ty "list")) (tCons (tC (V.ty "tuple")) tNil))) tNil))) σ H fun x H' => ∃ k, TruV c.K x H' k ∧ Q k H')) (fun _ σ H => E' (Value.ref (c.ec 0)) none H) tNext))
    (tSeq (tFor (iTup c.K (tTup (StX.tStar c.K (tVar 0) (StX.tStar c.K (tVar 1) (tCons (tVar 2) tNil))))) (gName 4) (tDrop (tCallS (spD c D_whole_list) (fun _ => E') (tCons (tVar 4) tNil))))
    (tFor (iSeq c.K (tVar 3)) (gName 5) (tDrop (tCallS (spD c D_check_due) (fun _ => E') (tCons (tVar 5) tNil)))))),
    (pss_cons (ps_for (passes_of rfl) rfl (pi_tup (pe_tup (pa_cons (pv 0) (pa_cons (pv 1) (pa_cons (pv 3) pa_nil))))) (pg_name (i := 4) sc_check_kinds.nd rfl (by first | exact Or.inl rfl | exact Or.inr rfl)) (pss_one (ps_if (pt_not (pt_truth (pe_callB call_isiT (by rfl) T.n_isinstance (by decide +kernel) (pa_cons (pv 4) (pa_cons (pe_tup (pa_cons (pe_bltn (v := V.ty "list") (by rfl) T.n_list (by decide +kernel) rfl) (pa_cons (pe_bltn (v := V.ty "tuple") (by rfl) T.n_tuple (by decide +kernel) rfl) pa_nil))) pa_nil))) (by intro _; rfl))) (pss_one (ps_raise rfl (takes_of rfl rfl rfl rfl) (pmk_own PySem.F.excBase_Exception T.xE0 T.mE0 T.kE0 (raises_own T.bE0 T.tE0) (by exact rfl)))) pss_nil)))
    (pss_cons (ps_for (passes_of rfl) rfl (pi_tup (pe_tup (StX.pa_star (pv 0) (StX.pa_star (pv 1) (pa_cons (pv 2) pa_nil))))) (pg_name (i := 4) sc_check_kinds.nd rfl (by first | exact Or.inl rfl | exact Or.inr rfl)) (pss_one (ps_expr (pe_callRS (ok_whole_list T) (hr.mono (by decide)) (by rfl) T.m_whole_list T.F_whole_list.kp (passE (takes_of rfl rfl rfl rfl)) (pa_cons (pv 4) pa_nil)))))
    (pss_one (ps_for (passes_of rfl) rfl (pi_seq (pv 3)) (pg_name (i := 5) sc_check_kinds.nd rfl (by first | exact Or.inl rfl | exact Or.inr rfl)) (pss_one (ps_expr (pe_callRS (ok_check_due T) (hr.mono (by decide)) (by rfl) T.m_check_due T.F_check_due.kp (passE (takes_of rfl rfl rfl rfl)) (pa_cons (pv 5) pa_nil)))))))),
    (ss_seq (ss_for (si_tup (se_tup (sa_cons se_var (sa_cons se_var (sa_cons se_var sa_nil))))) sg_name (ss_if (st_not (st_tru (se_cb sn_is2 (sa_cons se_var (sa_cons (se_tup (sa_cons (se_c fun _ _ => At.ty Ty.lst) (sa_cons (se_c fun _ _ => At.ty Ty.tup) sa_nil))) sa_nil))))) (ss_raise (n := 0)) ss_next))
    (ss_seq (ss_for (si_tup (se_tup (sa_star se_var (sa_star se_var (sa_cons se_var sa_nil))))) sg_name (ss_drop (se_call (sa_cons se_var sa_nil))))
    (ss_for (si_seq se_var) sg_name (ss_drop (se_call (sa_cons se_var sa_nil))))))⟩
theorem ok_check_steps (T : Txt c mg A) : FnR P w c.K mg base (L2.CX P w) 1 A.check_steps (spD c (D_check_steps_k09)) :=
  fn_ss (N := Nn_check_steps) (ps := ["first", "second"]) (s := dn_check_steps_k09) T.F_check_steps sc_check_steps (T.F_check_steps.binds (ps := ["first", "second"]) fun _ _ _ _ _ _ us hl => match us, hl with | [_, _], _ => rfl) fun cdv A_ outer sh H E' hr => ⟨(tFor (iEnumS c.K (tCons (tVar 0) tNil)) (gTup c.K 2 (gCons (gName 2) (gCons (gName 3) gNil))) (tSeq (tFor (iTup c.K (tTup (StX.tStar c.K (tVar 3) (StX.tStar c.K (tOp (rIx c.K) (tVar 1) (tVar 2)) tNil)))) (gName 4) (tIfS (tOr (tTest (tOp (rI0 fun i j => V.bl (decide (i < j))) (tVar 4) (tC (V.int 0)))) (tTest (tOp (rI0 fun i j => V.bl (decide (j ≤ i))) (tVar 4) (tCB (rLenS c.K) (tCons (tVar 0) tNil))))) (fun _ σ H => E' (Value.ref (c.ec 2)) none H) tNext))
    (tIfS (tTest (tOp rNe (tCB (rBoolS c.K) (tCons (tVar 3) tNil)) (tCB (rBoolS c.K) (tCons (tOp (rIx c.K) (tVar 1) (tVar 2)) tNil)))) (fun _ σ H => E' (Value.ref (c.ec 2)) none H) tNext))),
    (pss_one (ps_for (passes_of rfl) rfl (pi_enumS (by rfl) T.n_enumerate (pa_cons (pv 0) pa_nil)) (pg_tup rfl (pgs_cons (pg_name (i := 2) sc_check_steps.nd rfl (by first | exact Or.inl rfl | exact Or.inr rfl)) (pgs_cons (pg_name (i := 3) sc_check_steps.nd rfl (by first | exact Or.inl rfl | exact Or.inr rfl)) pgs_nil))) (pss_cons (ps_for (passes_of rfl) rfl (pi_tup (pe_tup (StX.pa_star (pv 3) (StX.pa_star (pe_ix ix_seq (pv 1) (pv 2) (fun _ _ => rfl)) pa_nil)))) (pg_name (i := 4) sc_check_steps.nd rfl (by first | exact Or.inl rfl | exact Or.inr rfl)) (pss_one (ps_if (PW.pt (pw_or (pt_cmpR op_lt (pv 4) pe_int (nomark _)) (pw_or1 (pt_cmpR op_ge (pv 4) (pe_callB call_len_seq (by rfl) T.n_len (by decide +kernel) (pa_cons (pv 0) pa_nil)) (nomark _))))) (pss_one (ps_raise rfl (takes_of rfl rfl rfl rfl) (pmk_own PySem.F.excBase_Exception T.xE2 T.mE2 T.kE2 (raises_own T.bE2 T.tE2) (by exact rfl)))) pss_nil)))
    (pss_one (ps_if (pt_cmpR op_ne (pe_callTy call_boolS (by rfl) T.n_bool (by decide +kernel) (pa_cons (pv 3) pa_nil)) (pe_callTy call_boolS (by rfl) T.n_bool (by decide +kernel) (pa_cons (pe_ix ix_seq (pv 1) (pv 2) (fun _ _ => rfl)) pa_nil)) (nomark _)) (pss_one (ps_raise rfl (takes_of rfl rfl rfl rfl) (pmk_own PySem.F.excBase_Exception T.xE2 T.mE2 T.kE2 (raises_own T.bE2 T.tE2) (by exact rfl)))) pss_nil))))),
    (ss_for (si_enumS (sa_cons se_var sa_nil)) sg_pair (ss_seq (ss_for (si_tup (se_tup (sa_star se_var (sa_star (se_op2 s2_ix se_var se_var) sa_nil)))) sg_name (ss_if (st_or (st_test (se_op2 s2_lt se_var se_int)) (st_test (se_op2 s2_ge se_var (se_cb sn_len (sa_cons se_var sa_nil))))) (ss_raise (n := 2)) ss_next))
    (ss_if (st_test (se_op2 s2_ne (se_cb sn_boolS (sa_cons se_var sa_nil)) (se_cb sn_boolS (sa_cons (se_op2 s2_ix se_var se_var) sa_nil)))) (ss_raise (n := 2)) ss_next)))⟩
theorem ok_check_parts (T : Txt c mg A) : FnR P w c.K mg base (L2.CX P w) 5 A.check_parts (spD c (D_check_parts_k09)) :=
  fn_ss (N := Nn_check_parts) (ps := ["first", "second", "marks", "dues"]) (s := dn_check_parts_k09) T.F_check_parts sc_check_parts (T.F_check_parts.binds (ps := ["first", "second", "marks", "dues"]) fun _ _ _ _ _ _ us hl => match us, hl with | [_, _, _, _], _ => rfl) fun cdv A_ outer sh H E' hr => ⟨(tSeq (tDrop (tCallS (spD c D_check_kinds_k09) (fun _ => E') (tCons (tVar 0) (tCons (tVar 1) (tCons (tVar 2) (tCons (tVar 3) tNil))))))
    (tSeq (tAsg (tCB (rLenS c.K) (tCons (tVar 2) tNil)) (gName 4))
    (tSeq (tIfS (tOr (tTest (tOp rEq (tVar 4) (tC (V.int 0)))) (tTest (tOp (rNeD c.K) (tLst (tCons (tCB (rLenS c.K) (tCons (tVar 0) tNil)) (tCons (tCB (rLenS c.K) (tCons (tVar 1) tNil)) (tCons (tCB (rLenS c.K) (tCons (tVar 3) tNil)) tNil)))) (tOp rRep (tLst (tCons (tVar 4) tNil)) (tC (V.int 3)))))) (fun _ σ H => E' (Value.ref (c.ec 2)) none H) tNext)
    (tSeq (tDrop (tCallS (spD c D_check_steps_k09) (fun _ => E') (tCons (tVar 0) (tCons (tVar 1) tNil))))
    (tSeq (tFor (iSeq c.K (tVar 2)) (gName 5) (tIfS (tTest (tOp (rIn c.K true) (tVar 5) (tTup (tCons (tC (V.int 1)) (tCons (tC (V.int 2)) tNil))))) (fun _ σ H => E' (Value.ref (c.ec 2)) none H) tNext))
    (tSeq (tFor (iSeq c.K (tVar 3)) (gName 6) (tIfS (tNot (fun σ H Q => (tCallS (spD c D_due_in_range) (fun _ => E') (tCons (tVar 6) tNil)) σ H fun x H' => ∃ k, TruV c.K x H' k ∧ Q k H')) (fun _ σ H => E' (Value.ref (c.ec 2)) none H) tNext))
    (tSeq (tDrop (tCallS (spD c D_check_most) (fun _ => E') (tCons (tVar 4) (tCons (tC (V.int 60)) tNil))))
    (tFor (iSeq c.K (tVar 3)) (gName 6) (tIfS (fun σ H Q => (tCallS (spD c D_due_too_great) (fun _ => E') (tCons (tVar 6) tNil)) σ H fun x H' => ∃ k, TruV c.K x H' k ∧ Q k H') (fun _ σ H => E' (Value.ref (c.ec 3)) none H) tNext))))))))),
    (pss_cons (ps_expr (pe_callRS (ok_check_kinds T) (hr.mono (by decide)) (by rfl) T.m_check_kinds T.F_check_kinds.kp (passE (takes_of rfl rfl rfl rfl)) (pa_cons (pv 0) (pa_cons (pv 1) (pa_cons (pv 2) (pa_cons (pv 3) pa_nil))))))
    (pss_cons (ps_asg (pe_callB call_len_seq (by rfl) T.n_len (by decide +kernel) (pa_cons (pv 2) pa_nil)) (pg_name (i := 4) sc_check_parts.nd rfl (by first | exact Or.inl rfl | exact Or.inr rfl)))
    (pss_cons (ps_if (PW.pt (pw_or (pt_cmpR op_eq (pv 4) pe_int (nomark _)) (pw_or1 (pt_cmpR (op_neD (hr.units)) (pe_lst (pa_cons (pe_callB call_len_seq (by rfl) T.n_len (by decide +kernel) (pa_cons (pv 0) pa_nil)) (pa_cons (pe_callB call_len_seq (by rfl) T.n_len (by decide +kernel) (pa_cons (pv 1) pa_nil)) (pa_cons (pe_callB call_len_seq (by rfl) T.n_len (by decide +kernel) (pa_cons (pv 3) pa_nil)) pa_nil)))) (pe_op op_rep (pe_lst (pa_cons (pv 4) pa_nil)) pe_int) (nomark _))))) (pss_one (ps_raise rfl (takes_of rfl rfl rfl rfl) (pmk_own PySem.F.excBase_Exception T.xE2 T.mE2 T.kE2 (raises_own T.bE2 T.tE2) (by exact rfl)))) pss_nil)
    (pss_cons (ps_expr (pe_callRS (ok_check_steps T) (hr.mono (by decide)) (by rfl) T.m_check_steps T.F_check_steps.kp (passE (takes_of rfl rfl rfl rfl)) (pa_cons (pv 0) (pa_cons (pv 1) pa_nil))))
    (pss_cons (ps_for (passes_of rfl) rfl (pi_seq (pv 2)) (pg_name (i := 5) sc_check_parts.nd rfl (by first | exact Or.inl rfl | exact Or.inr rfl)) (pss_one (ps_if (pt_cmpR op_notIn_seq (pv 5) (pe_tup (pa_cons pe_int (pa_cons pe_int pa_nil))) rfl) (pss_one (ps_raise rfl (takes_of rfl rfl rfl rfl) (pmk_own PySem.F.excBase_Exception T.xE2 T.mE2 T.kE2 (raises_own T.bE2 T.tE2) (by exact rfl)))) pss_nil)))
    (pss_cons (ps_for (passes_of rfl) rfl (pi_seq (pv 3)) (pg_name (i := 6) sc_check_parts.nd rfl (by first | exact Or.inl rfl | exact Or.inr rfl)) (pss_one (ps_if (pt_not (pt_truth (pe_callRS (ok_due_in_range T) (hr.mono (by decide)) (by rfl) T.m_due_in_range T.F_due_in_range.kp (passE (takes_of rfl rfl rfl rfl)) (pa_cons (pv 6) pa_nil)) (by intro _; rfl))) (pss_one (ps_raise rfl (takes_of rfl rfl rfl rfl) (pmk_own PySem.F.excBase_Exception T.xE2 T.mE2 T.kE2 (raises_own T.bE2 T.tE2) (by exact rfl)))) pss_nil)))
    (pss_cons (ps_expr (pe_callRS (ok_check_most T) (hr.mono (by decide)) (by rfl) T.m_check_most T.F_check_most.kp (passE (takes_of rfl rfl rfl rfl)) (pa_cons (pv 4) (pa_cons (pe_gint (by rfl) T.c_MOST_STANDS) pa_nil))))
    (pss_one (ps_for (passes_of rfl) rfl (pi_seq (pv 3)) (pg_name (i := 6) sc_check_parts.nd rfl (by first | exact Or.inl rfl | exact Or.inr rfl)) (pss_one (ps_if (pt_truth (pe_callRS (ok_due_too_great T) (hr.mono (by decide)) (by rfl) T.m_due_too_great T.F_due_too_great.kp (passE (takes_of rfl rfl rfl rfl)) (pa_cons (pv 6) pa_nil)) (by intro _; rfl)) (pss_one (ps_raise rfl (takes_of rfl rfl rfl rfl) (pmk_own PySem.F.excBase_Exception T.xE3 T.mE3 T.kE3 (raises_own T.bE3 T.tE3) (by exact rfl)))) pss_nil))))))))))),
    (ss_seq (ss_drop (se_call (sa_cons se_var (sa_cons se_var (sa_cons se_var (sa_cons se_var sa_nil))))))
    (ss_seq (ss_asg (se_cb sn_len (sa_cons se_var sa_nil)) sg_name)
    (ss_seq (ss_if (st_or (st_test (se_op2 s2_eq se_var se_int)) (st_test (se_op2 s2_neD (se_new (sen_lst (sa_cons (se_cb sn_len (sa_cons se_var sa_nil)) (sa_cons (se_cb sn_len (sa_cons se_var sa_nil)) (sa_cons (se_cb sn_len (sa_cons se_var sa_nil)) sa_nil))))) (se_op2 s2_rep (se_new (sen_lst (sa_cons se_var sa_nil))) se_int)))) (ss_raise (n := 2)) ss_next)
    (ss_seq (ss_drop (se_call (sa_cons se_var (sa_cons se_var sa_nil))))
    (ss_seq (ss_for (si_seq se_var) sg_name (ss_if (st_test (se_op2 s2_in se_var (se_tup (sa_cons se_int (sa_cons se_int sa_nil))))) (ss_raise (n := 2)) ss_next))
    (ss_seq (ss_for (si_seq se_var) sg_name (ss_if (st_not (st_tru (se_call (sa_cons se_var sa_nil)))) (ss_raise (n := 2)) ss_next))
    (ss_seq (ss_drop (se_call (sa_cons se_var (sa_cons se_int sa_nil))))
    (ss_for (si_seq se_var) sg_name (ss_if (st_tru (se_call (sa_cons se_var sa_nil))) (ss_raise (n := 3)) ss_next)))))))))⟩
theorem ok_check_plain (T : Txt c mg A) : FnR P w c.K mg base (L2.CX P w) 3 A.check_plain (spD c (D_check_plain)) :=
  fn_ss (N := Nn_check_plain) (ps := ["number", "mark", "extra"]) (s := dn_check_plain) T.F_check_plain sc_check_plain (T.F_check_plain.binds (ps := ["number", "mark", "extra"]) fun _ _ _ _ _ _ us hl => match us, hl with | [_, _, _], _ => rfl) fun cdv A_ outer sh H E' hr => ⟨(tSeq (tDrop (tCallS (spD c D_check_whole) (fun _ => E') (tCons (tVar 0) (tCons (tVar 1) tNil))))
    (tSeq (tDrop (tCallS (spD c D_check_least) (fun _ => E') (tCons (tVar 0) (tCons (tC (V.int 1)) tNil))))
    (tSeq (tDrop (tCallS (spD c D_check_one_or_two) (fun _ => E') (tCons (tVar 1) tNil)))
    (tDrop (tCallS (spD c D_check_most) (fun _ => E') (tCons (tOp (rI0 fun i j => V.int (i + j)) (tVar 0) (tVar 2)) (tCons (tC (V.int 60)) tNil))))))),
    (pss_cons (ps_expr (pe_callRS (ok_check_whole T) (hr.mono (by decide)) (by rfl) T.m_check_whole T.F_check_whole.kp (passE (takes_of rfl rfl rfl rfl)) (pa_cons (pv 0) (pa_cons (pv 1) pa_nil))))
    (pss_cons (ps_expr (pe_callRS (ok_check_least T) (hr.mono (by decide)) (by rfl) T.m_check_least T.F_check_least.kp (passE (takes_of rfl rfl rfl rfl)) (pa_cons (pv 0) (pa_cons pe_int pa_nil))))
    (pss_cons (ps_expr (pe_callRS (ok_check_one_or_two T) (hr.mono (by decide)) (by rfl) T.m_check_one_or_two T.F_check_one_or_two.kp (passE (takes_of rfl rfl rfl rfl)) (pa_cons (pv 1) pa_nil)))
    (pss_one (ps_expr (pe_callRS (ok_check_most T) (hr.mono (by decide)) (by rfl) T.m_check_most T.F_check_most.kp (passE (takes_of rfl rfl rfl rfl)) (pa_cons (pe_op op_add (pv 0) (pv 2)) (pa_cons (pe_gint (by rfl) T.c_MOST_STANDS) pa_nil)))))))),
    (ss_seq (ss_drop (se_call (sa_cons se_var (sa_cons se_var sa_nil))))
    (ss_seq (ss_drop (se_call (sa_cons se_var (sa_cons se_int sa_nil))))
    (ss_seq (ss_drop (se_call (sa_cons se_var sa_nil)))
    (ss_drop (se_call (sa_cons (se_op2 s2_add se_var se_var) (sa_cons se_int sa_nil)))))))⟩
theorem ok_Web_init (T : Txt c mg A) : FnR P w c.K mg base (L2.CX P w) 6 A.Web_init (spI c A.ca.Web (D_Web_init_k09 A.ca)) :=
  init_ss (N := Nn_Web_init) (s := dn_Web_init_k09 A.ca) T.F_Web_init sc_Web_init (T.F_Web_init.binds (ps := ["self", "first", "second", "marks", "dues"]) fun _ _ _ _ _ _ us hl => match us, hl with | [_, _, _, _, _], _ => rfl) (D_Web_init_k09_is A.ca) (D_Web_init_k09_len A.ca) fun cdv A_ outer sh H E' hr => ⟨(tSeq (tDrop (tCallS (spD c D_check_parts_k09) (fun _ => E') (tCons (tVar 1) (tCons (tVar 2) (tCons (tVar 3) (tCons (tVar 4) tNil))))))
    (tSeq (tAsg (tCB (rLenS c.K) (tCons (tVar 3) tNil)) (gName 5))
    (tSeq (sFld c.K (tVar 0) (tVar 5) "_size")
    (tSeq (sFld c.K (tVar 0) (tCB (rTupleF c.K) (tCons (tLc (iSeq c.K (tVar 1)) (gName 6) tYes (tCallS (spD c D_as_stands) (fun _ => L2.E0) (tCons (tVar 6) (tCons (tVar 5) tNil))) [6]) tNil)) "_first")
    (tSeq (sFld c.K (tVar 0) (tCB (rTupleF c.K) (tCons (tLc (iSeq c.K (tVar 2)) (gName 6) tYes (tCallS (spD c D_as_stands) (fun _ => L2.E0) (tCons (tVar 6) (tCons (tVar 5) tNil))) [6]) tNil)) "_second")
    (tSeq (sFld c.K (tVar 0) (tCB (rTupleF c.K) (tCons (tVar 3) tNil)) "_marks")
    (tSeq (sFld c.K (tVar 0) (tCB (rTupleF c.K) (tCons (tLc (iSeq c.K (tVar 4)) (gName 7) tYes (tIf (tTest (tOp rIsNF (tVar 7) (tC V.non))) (tC V.non) (tCB (rTupleF c.K) (tCons (tVar 7) tNil))) [7]) tNil)) "_dues")
    (tSeq (sFld c.K (tVar 0) (tCB (rTupleF c.K) (tCons (tLc (iRng1 (tCons (tVar 5) tNil)) (gName 8) (tNot (fun σ H Q => (tOp (rIx c.K) (tVar 1) (tVar 8)) σ H fun x H' => ∃ k, TruV c.K x H' k ∧ Q k H')) (tVar 8) [8]) tNil)) "_ends")
    (tSeq (sFld c.K (tVar 0) (tCB (rTupleF c.K) (tCons (tLc (iRng1 (tCons (tVar 5) tNil)) (gName 8) (fun σ H Q => (tOp (rIx c.K) (tVar 1) (tVar 8)) σ H fun x H' => ∃ k, TruV c.K x H' k ∧ Q k H') (tVar 8) [8]) tNil)) "_moving")
    (tSeq (sFld c.K (tVar 0) (tCB (rMax c.K) (tCons (tLc (iSeq c.K (tVar 4)) (gName 7) tYes (tIf (tTest (tOp rIsNF (tVar 7) (tC V.non))) (tC (V.int 0)) (tOp (rIx c.K) (tVar 7) (tC (V.int 1)))) [7]) tNil)) "_greatest_due")
    (sFld c.K (tVar 0) (tOp (rEqD c.K) (tFld c.K (tVar 0) "_first") (tFld c.K (tVar 0) "_second")) "_even"))))))))))),
    (pss_cons (ps_expr (pe_callRS (ok_check_parts T) (hr.mono (by decide)) (by rfl) T.m_check_parts T.F_check_parts.kp (passE (takes_of rfl rfl rfl rfl)) (pa_cons (pv 1) (pa_cons (pv 2) (pa_cons (pv 3) (pa_cons (pv 4) pa_nil))))))
    (pss_cons (ps_asg (pe_callB call_len_seq (by rfl) T.n_len (by decide +kernel) (pa_cons (pv 3) pa_nil)) (pg_name (i := 5) sc_Web_init.nd rfl (by first | exact Or.inl rfl | exact Or.inr rfl)))
    (pss_cons (ps_fld (pv 0) (pv 5) rfl)
    (pss_cons (ps_fld (pv 0) (pe_callTy call_tuple_of (by rfl) T.n_tuple (by decide +kernel) (pa_cons (pe_lc (own := [("steps", 6)]) (g := gName 6) (wi := (iSeq c.K (tVar 1))) (tt := tYes) (te := (tCallS (spD c D_as_stands) (fun _ => L2.E0) (tCons (tVar 6) (tCons (tVar 5) tNil)))) rfl sc_Web_init.nd (pi_seq (pv 1)) (blkOk_by (N := Nn_Web_init) (sc := defScope s_Web_init) (by decide +kernel)) (fun _ _ _ _ _ => pg_name (i := 6) sc_Web_init.nd rfl (by first | exact Or.inl rfl | exact Or.inr rfl)) (fun _ _ _ _ _ => pts_nil) (fun _ _ _ _ _ => (pe_callRS (ok_as_stands T) (hr.mono (by decide)) (by rfl) T.m_as_stands T.F_as_stands.kp passNo (pa_cons (pv 6) (pa_cons (pv 5) pa_nil))))) pa_nil)) rfl)
    (pss_cons (ps_fld (pv 0) (pe_callTy call_tuple_of (by rfl) T.n_tuple (by decide +kernel) (pa_cons (pe_lc (own := [("steps", 6)]) (g := gName 6) (wi := (iSeq c.K (tVar 2))) (tt := tYes) (te := (tCallS (spD c D_as_stands) (fun _ => L2.E0) (tCons (tVar 6) (tCons (tVar 5) tNil)))) rfl sc_Web_init.nd (pi_seq (pv 2)) (blkOk_by (N := Nn_Web_init) (sc := defScope s_Web_init) (by decide +kernel)) (fun _ _ _ _ _ => pg_name (i := 6) sc_Web_init.nd rfl (by first | exact Or.inl rfl | exact Or.inr rfl)) (fun _ _ _ _ _ => pts_nil) (fun _ _ _ _ _ => (pe_callRS (ok_as_stands T) (hr.mono (by decide)) (by rfl) T.m_as_stands T.F_as_stands.kp passNo (pa_cons (pv 6) (pa_cons (pv 5) pa_nil))))) pa_nil)) rfl)
    (pss_cons (ps_fld (pv 0) (pe_callTy call_tuple_of (by rfl) T.n_tuple (by decide +kernel) (pa_cons (pv 3) pa_nil)) rfl)
    (pss_cons (ps_fld (pv 0) (pe_callTy call_tuple_of (by rfl) T.n_tuple (by decide +kernel) (pa_cons (pe_lc (own := [("due", 7)]) (g := gName 7) (wi := (iSeq c.K (tVar 4))) (tt := tYes) (te := (tIf (tTest (tOp rIsNF (tVar 7) (tC V.non))) (tC V.non) (tCB (rTupleF c.K) (tCons (tVar 7) tNil)))) rfl sc_Web_init.nd (pi_seq (pv 4)) (blkOk_by (N := Nn_Web_init) (sc := defScope s_Web_init) (by decide +kernel)) (fun _ _ _ _ _ => pg_name (i := 7) sc_Web_init.nd rfl (by first | exact Or.inl rfl | exact Or.inr rfl)) (fun _ _ _ _ _ => pts_nil) (fun _ _ _ _ _ => (pe_ifExp (pt_cmpR op_isN (pv 7) pe_non (nomark _)) pe_non (pe_callTy call_tuple_of (by rfl) T.n_tuple (by decide +kernel) (pa_cons (pv 7) pa_nil))))) pa_nil)) rfl)
    (pss_cons (ps_fld (pv 0) (pe_callTy call_tuple_of (by rfl) T.n_tuple (by decide +kernel) (pa_cons (pe_lc (own := [("stand", 8)]) (g := gName 8) (wi := (iRng1 (tCons (tVar 5) tNil))) (tt := (tNot (fun σ H Q => (tOp (rIx c.K) (tVar 1) (tVar 8)) σ H fun x H' => ∃ k, TruV c.K x H' k ∧ Q k H'))) (te := (tVar 8)) rfl sc_Web_init.nd (pi_range1 (by rfl) T.n_range (pa_cons (pv 5) pa_nil)) (blkOk_by (N := Nn_Web_init) (sc := defScope s_Web_init) (by decide +kernel)) (fun _ _ _ _ _ => pg_name (i := 8) sc_Web_init.nd rfl (by first | exact Or.inl rfl | exact Or.inr rfl)) (fun _ _ _ _ _ => (pts_one (pt_not (pt_truth (pe_ix ix_seq (pv 1) (pv 8) (fun _ _ => rfl)) (by intro _; rfl))))) (fun _ _ _ _ _ => (pv 8))) pa_nil)) rfl)
    (pss_cons (ps_fld (pv 0) (pe_callTy call_tuple_of (by rfl) T.n_tuple (by decide +kernel) (pa_cons (pe_lc (own := [("stand", 8)]) (g := gName 8) (wi := (iRng1 (tCons (tVar 5) tNil))) (tt := (fun σ H Q => (tOp (rIx c.K) (tVar 1) (tVar 8)) σ H fun x H' => ∃ k, TruV c.K x H' k ∧ Q k H')) (te := (tVar 8)) rfl sc_Web_init.nd (pi_range1 (by rfl) T.n_range (pa_cons (pv 5) pa_nil)) (blkOk_by (N := Nn_Web_init) (sc := defScope s_Web_init) (by decide +kernel)) (fun _ _ _ _ _ => pg_name (i := 8) sc_Web_init.nd rfl (by first | exact Or.inl rfl | exact Or.inr rfl)) (fun _ _ _ _ _ => (pts_one (pt_truth (pe_ix ix_seq (pv 1) (pv 8) (fun _ _ => rfl)) (by intro _; rfl)))) (fun _ _ _ _ _ => (pv 8))) pa_nil)) rfl)
    (pss_cons (ps_fld (pv 0) (pe_callB (cr_max rfl) (by rfl) T.n_max (by decide +kernel) (pa_cons (pe_lc (own := [("due", 7)]) (g := gName 7) (wi := (iSeq c.K (tVar 4))) (tt := tYes) (te := (tIf (tTest (tOp rIsNF (tVar 7) (tC V.non))) (tC (V.int 0)) (tOp (rIx c.K) (tVar 7) (tC (V.int 1))))) rfl sc_Web_init.nd (pi_seq (pv 4)) (blkOk_by (N := Nn_Web_init) (sc := defScope s_Web_init) (by decide +kernel)) (fun _ _ _ _ _ => pg_name (i := 7) sc_Web_init.nd rfl (by first | exact Or.inl rfl | exact Or.inr rfl)) (fun _ _ _ _ _ => pts_nil) (fun _ _ _ _ _ => (pe_ifExp (pt_cmpR op_isN (pv 7) pe_non (nomark _)) pe_int (pe_ix ix_seq (pv 7) pe_int (fun _ _ => rfl))))) pa_nil)) rfl)
    (pss_one (ps_fld (pv 0) (pe_cmpR (op_eqD (hr.units)) (pe_fld (pv 0) rfl) (pe_fld (pv 0) rfl) (nomark _)) rfl)))))))))))),
    (ss_seq (ss_drop (se_call (sa_cons se_var (sa_cons se_var (sa_cons se_var (sa_cons se_var sa_nil))))))
    (ss_seq (ss_asg (se_cb sn_len (sa_cons se_var sa_nil)) sg_name)
    (ss_seq (ss_fldO T.f_Web.cl T.a_Web__size se_var)
    (ss_seq (ss_fldO T.f_Web.cl T.a_Web__first (se_cb sn_tuple (sa_cons (se_new (sen_comp (si_seq se_var) st_true (se_call (sa_cons se_var (sa_cons se_var sa_nil))))) sa_nil)))
    (ss_seq (ss_fldO T.f_Web.cl T.a_Web__second (se_cb sn_tuple (sa_cons (se_new (sen_comp (si_seq se_var) st_true (se_call (sa_cons se_var (sa_cons se_var sa_nil))))) sa_nil)))
    (ss_seq (ss_fldO T.f_Web.cl T.a_Web__marks (se_cb sn_tuple (sa_cons se_var sa_nil)))
    (ss_seq (ss_fldO T.f_Web.cl T.a_Web__dues (se_cb sn_tuple (sa_cons (se_new (sen_comp (si_seq se_var) st_true (se_if (st_test (se_op2 s2_isN se_var se_non)) se_non (se_cb sn_tuple (sa_cons se_var sa_nil))))) sa_nil)))
    (ss_seq (ss_fldO T.f_Web.cl T.a_Web__ends (se_cb sn_tuple (sa_cons (se_new (sen_comp (si_rng1 (sa_cons se_var sa_nil)) (st_not (st_tru (se_op2 s2_ix se_var se_var))) se_var)) sa_nil)))
    (ss_seq (ss_fldO T.f_Web.cl T.a_Web__moving (se_cb sn_tuple (sa_cons (se_new (sen_comp (si_rng1 (sa_cons se_var sa_nil)) (st_tru (se_op2 s2_ix se_var se_var)) se_var)) sa_nil)))
    (ss_seq (ss_fldO T.f_Web.cl T.a_Web__greatest_due (se_cb sn_maxL (sa_cons (se_new (sen_comp (si_seq se_var) st_true (se_if (st_test (se_op2 s2_isN se_var se_non)) se_int (se_op2 s2_ix se_var se_int)))) sa_nil)))
    (ss_fldO T.f_Web.cl T.a_Web__even (se_op2 s2_eqD (se_fldO T.f_Web.cl T.a_Web__first) (se_fldO T.f_Web.cl T.a_Web__second)))))))))))))⟩
theorem ok_Web_line (T : Txt c mg A) : FnR P w c.K mg base (L2.CX P w) 8 A.Web_line (spD c (D_Web_line A.ca)) :=
  fn_ssD (N := Nn_Web_line) (ps := ["cls", "n", "mark"]) (s := dn_Web_line A.ca) T.F_Web_line sc_Web_line (fun _ _ => .int 1) (fun _ _ _ _ _ _ _ us its hl ht => match us, its, hl, ht with | [_, _, _], [_], _, _ => ⟨_, rfl, rfl⟩) (fun _ _ _ _ _ _ _ us its hl ht => match us, its, hl, ht with | [_, _], [_], _, _ => ⟨_, rfl, rfl⟩) (by decide) fun cdv A_ outer sh H E' hr => ⟨(tSeq (tDrop (tCallS (spD c D_check_plain) (fun _ => E') (tCons (tVar 1) (tCons (tVar 2) (tCons (tC (V.int 1)) tNil)))))
    (tSeq (tAsg (tLc (iRng2 (tCons (tC (V.int 1)) (tCons (tVar 1) tNil))) (gName 4) tYes (tLst (tCons (tOp (rI0 fun i j => V.int (i - j)) (tVar 4) (tC (V.int 1))) (tCons (tOp (rI0 fun i j => V.int (i + j)) (tVar 4) (tC (V.int 1))) tNil))) [4]) (gName 3))
    (tSeq (tAsg (tLst (tCons (tLst tNil) (StX.tStar c.K (tVar 3) (tCons (tLst tNil) tNil)))) (gName 5))
    (tRet (tMakeV 0 A.ca.Web (spI c A.ca.Web (D_Web_init_k09 A.ca)) E' (tCons (tVar 5) (tCons (tVar 5) (tCons (tOp rRep (tLst (tCons (tVar 2) tNil)) (tOp (rI0 fun i j => V.int (i + j)) (tVar 1) (tC (V.int 1)))) (tCons (tOp rCat (tLst (tCons (tTup (tCons (tC (V.str "chips")) (tCons (tC (V.int 0)) tNil))) tNil)) (tOp rRep (tLst (tCons (tC V.non) tNil)) (tVar 1))) tNil))))))))),
    (pss_cons (ps_expr (pe_callRS (ok_check_plain T) (hr.mono (by decide)) (by rfl) T.m_check_plain T.F_check_plain.kp (passE (takes_of rfl rfl rfl rfl)) (pa_cons (pv 1) (pa_cons (pv 2) (pa_cons pe_int pa_nil)))))
    (pss_cons (ps_setLc (i := 3) (own := [("stand", 4)]) (g := gName 4) (wi := (iRng2 (tCons (tC (V.int 1)) (tCons (tVar 1) tNil)))) (tt := tYes) (te := (tLst (tCons (tOp (rI0 fun i j => V.int (i - j)) (tVar 4) (tC (V.int 1))) (tCons (tOp (rI0 fun i j => V.int (i + j)) (tVar 4) (tC (V.int 1))) tNil)))) rfl sc_Web_line.nd rfl rfl (sw_true rfl rfl rfl (by decide +kernel)) (pi_range2 (by rfl) T.n_range (pa_cons pe_int (pa_cons (pv 1) pa_nil))) (blkOk_by (N := Nn_Web_line) (sc := defScope s_Web_line) (by decide +kernel)) (fun _ _ _ _ _ => pg_name (i := 4) sc_Web_line.nd rfl (by first | exact Or.inl rfl | exact Or.inr rfl)) (fun _ _ _ _ _ => pts_nil) (fun _ _ _ _ _ => (pe_lst (pa_cons (pe_op op_sub (pv 4) pe_int) (pa_cons (pe_op op_add (pv 4) pe_int) pa_nil)))))
    (pss_cons (ps_asg (pe_lst (pa_cons (pe_lst pa_nil) (StX.pa_star (pv 3) (pa_cons (pe_lst pa_nil) pa_nil)))) (pg_name (i := 5) sc_Web_line.nd rfl (by first | exact Or.inl rfl | exact Or.inr rfl)))
    (pss_one (ps_ret (pe_makeV (i := 0) T.mk_Web (ok_Web_init T) (hr.mono (by decide)) (fun pins σ H s e s' I h => passE (takes_of rfl rfl rfl rfl) σ pins H s e s' I h) (by rfl) (by first | exact Or.inl rfl | exact Or.inr (Or.inl rfl) | exact Or.inr (Or.inr rfl)) (pa_cons (pv 5) (pa_cons (pv 5) (pa_cons (pe_op op_rep (pe_lst (pa_cons (pv 2) pa_nil)) (pe_op op_add (pv 1) pe_int)) (pa_cons (pe_op op_cat (pe_lst (pa_cons (pe_tup (pa_cons pe_str (pa_cons pe_int pa_nil))) pa_nil)) (pe_op op_rep (pe_lst (pa_cons pe_non pa_nil)) (pv 1))) pa_nil)))))))))),
    (ss_seq (ss_drop (se_call (sa_cons se_var (sa_cons se_var (sa_cons se_int sa_nil)))))
    (ss_seq (ss_asg (se_new (sen_comp (si_rng2 (sa_cons se_int (sa_cons se_var sa_nil))) st_true (se_new (sen_lst (sa_cons (se_op2 s2_sub se_var se_int) (sa_cons (se_op2 s2_add se_var se_int) sa_nil)))))) sg_name)
    (ss_seq (ss_asg (se_new (sen_lst (sa_cons (se_new (sen_lst sa_nil)) (sa_star se_var (sa_cons (se_new (sen_lst sa_nil)) sa_nil))))) sg_name)
    (ss_ret (se_makeV (sa_cons se_var (sa_cons se_var (sa_cons (se_op2 s2_rep (se_new (sen_lst (sa_cons se_var sa_nil))) (se_op2 s2_add se_var se_int)) (sa_cons (se_op2 s2_cat (se_new (sen_lst (sa_cons (se_tup (sa_cons se_str (sa_cons se_int sa_nil))) sa_nil))) (se_op2 s2_rep (se_new (sen_lst (sa_cons se_non sa_nil))) se_var)) sa_nil)))))))))⟩
theorem ok_check_web (T : Txt c mg A) : FnR P w c.K mg base (L2.CX P w) 1 A.check_web (spD c (D_check_web A.ca)) :=
  fn_ss (N := Nn_check_web) (ps := ["thing"]) (s := dn_check_web A.ca) T.F_check_web sc_check_web (T.F_check_web.binds (ps := ["thing"]) fun _ _ _ _ _ _ us hl => match us, hl with | [_], _ => rfl) fun cdv A_ outer sh H E' hr => ⟨(tIfS (tNot (fun σ H Q => (tCB (rIsi c.K) (tCons (tVar 0) (tCons (tC (V.ref A.ca.Web)) tNil))) σ H fun x H' => ∃ k, TruV c.K x H' k ∧ Q k H')) (fun _ σ H => E' (Value.ref (c.ec 0)) none H) tNext),
    (pss_one (ps_if (pt_not (pt_truth (pe_callB call_isi (by rfl) T.n_isinstance (by decide +kernel) (pa_cons (pv 0) (pa_cons (pe_glob (by rfl) T.m_Web rfl) pa_nil))) (by intro _; rfl))) (pss_one (ps_raise rfl (takes_of rfl rfl rfl rfl) (pmk_own PySem.F.excBase_Exception T.xE0 T.mE0 T.kE0 (raises_own T.bE0 T.tE0) (by exact rfl)))) pss_nil)),
    (ss_if (st_not (st_tru (se_cb (sn_isC T.f_Web) (sa_cons se_var (sa_cons (se_c fun _ _ => At.cls A.ca.Web) sa_nil))))) (ss_raise (n := 0)) ss_next)⟩
theorem ok_half_of (T : Txt c mg A) : FnR P w c.K mg base (L2.CX P w) 1 A.half_of (spD c (D_half_of)) :=
  fn_ss (N := Nn_half_of) (ps := ["mark", "x", "y"]) (s := dn_half_of) T.F_half_of sc_half_of (T.F_half_of.binds (ps := ["mark", "x", "y"]) fun _ _ _ _ _ _ us hl => match us, hl with | [_, _, _], _ => rfl) fun cdv A_ outer sh H E' hr => ⟨(tSeq (tIfS (tTest (tOp rEq (tVar 0) (tC (V.int 1)))) (tRet (tOp (rI CDiv fun i j => V.int (i / j)) (tOp (rI0 fun i j => V.int (i + j)) (tVar 1) (tCB rMax2F (tCons (tVar 1) (tCons (tVar 2) tNil)))) (tC (V.int 2)))) tNext)
    (tRet (tOp (rI CDiv fun i j => V.int (i / j)) (tOp (rI0 fun i j => V.int (i + j)) (tOp (rI0 fun i j => V.int (i + j)) (tCB rMin2F (tCons (tVar 1) (tCons (tVar 2) tNil))) (tVar 2)) (tC (V.int 1))) (tC (V.int 2))))),
    (pss_cons (ps_if (pt_cmpR op_eq (pv 0) pe_int (nomark _)) (pss_one (ps_ret (pe_op op_fdiv (pe_op op_add (pv 1) (pe_callB (call_max2 rfl) (by rfl) T.n_max (by decide +kernel) (pa_cons (pv 1) (pa_cons (pv 2) pa_nil)))) pe_int))) pss_nil)
    (pss_one (ps_ret (pe_op op_fdiv (pe_op op_add (pe_op op_add (pe_callB (call_min2 rfl) (by rfl) T.n_min (by decide +kernel) (pa_cons (pv 1) (pa_cons (pv 2) pa_nil))) (pv 2)) pe_int) pe_int)))),
    (ss_seq (ss_if (st_test (se_op2 s2_eq se_var se_int)) (ss_ret (se_op2 s2_div (se_op2 s2_add se_var (se_cb sn_max2 (sa_cons se_var (sa_cons se_var sa_nil)))) se_int)) ss_next)
    (ss_ret (se_op2 s2_div (se_op2 s2_add (se_op2 s2_add (se_cb sn_min2 (sa_cons se_var (sa_cons se_var sa_nil))) se_var) se_int) se_int)))⟩
theorem ok_dues_at (T : Txt c mg A) : FnR P w c.K mg base (L2.CX P w) 3 A.dues_at (spD c (D_dues_at A.ca)) :=
  fn_ss (N := Nn_dues_at) (ps := ["web", "k"]) (s := dn_dues_at A.ca) T.F_dues_at sc_dues_at (T.F_dues_at.binds (ps := ["web", "k"]) fun _ _ _ _ _ _ us hl => match us, hl with | [_, _], _ => rfl) fun cdv A_ outer sh H E' hr => ⟨(tRet (tCB (rTupleF c.K) (tCons (tLc (iTup c.K (tProp A.ca.Web (getSp A.ca.Web "_dues") [] L2.E0 (tVar 0))) (gName 2) tYes (tCallS (spD c D_due_at) (fun _ => L2.E0) (tCons (tVar 2) (tCons (tVar 1) tNil))) [2]) tNil))),
    (pss_one (ps_ret (pe_callTy call_tuple_of (by rfl) T.n_tuple (by decide +kernel) (pa_cons (pe_lc (own := [("due", 2)]) (g := gName 2) (wi := (iTup c.K (tProp A.ca.Web (getSp A.ca.Web "_dues") [] L2.E0 (tVar 0)))) (tt := tYes) (te := (tCallS (spD c D_due_at) (fun _ => L2.E0) (tCons (tVar 2) (tCons (tVar 1) tNil)))) rfl sc_dues_at.nd (pi_tup (pe_prop (pv 0) T.f_Web.cl T.p_Web_dues (getter_of T.F_Web_dues gsc_Web_dues rfl rfl T.f_Web.cl T.a_Web__dues) (hr.mono (by decide)) (T.F_Web_dues.binds (ps := ["self"]) fun _ _ _ _ _ _ us hl => match us, hl with | [_], _ => rfl) .nil passL rfl)) (blkOk_by (N := Nn_dues_at) (sc := defScope s_dues_at) (by decide +kernel)) (fun _ _ _ _ _ => pg_name (i := 2) sc_dues_at.nd rfl (by first | exact Or.inl rfl | exact Or.inr rfl)) (fun _ _ _ _ _ => pts_nil) (fun _ _ _ _ _ => (pe_callRS (ok_due_at T) (hr.mono (by decide)) (by rfl) T.m_due_at T.F_due_at.kp passNo (pa_cons (pv 2) (pa_cons (pv 1) pa_nil))))) pa_nil)))),
    (ss_ret (se_cb sn_tuple (sa_cons (se_new (sen_comp (si_tup (se_prop se_var)) st_true (se_call (sa_cons se_var (sa_cons se_var sa_nil))))) sa_nil)))⟩
theorem ok_bits_of (T : Txt c mg A) : FnR P w c.K mg base (L2.CX P w) 1 A.bits_of (spD c (D_bits_of)) :=
  fn_ss (N := Nn_bits_of) (ps := ["stands"]) (s := dn_bits_of) T.F_bits_of sc_bits_of (T.F_bits_of.binds (ps := ["stands"]) fun _ _ _ _ _ _ us hl => match us, hl with | [_], _ => rfl) fun cdv A_ outer sh H E' hr => ⟨(tRet (tCB (rSum c.K) (tCons (tLc (iSeq c.K (tVar 0)) (gName 1) tYes (tOp (rI CPow fun i j => V.int (i * 2 ^ j.toNat)) (tC (V.int 1)) (tVar 1)) [1]) tNil))),
    (pss_one (ps_ret (pe_callB (cr_sum rfl) (by rfl) T.n_sum (by decide +kernel) (pa_cons (pe_lc (own := [("stand", 1)]) (g := gName 1) (wi := (iSeq c.K (tVar 0))) (tt := tYes) (te := (tOp (rI CPow fun i j => V.int (i * 2 ^ j.toNat)) (tC (V.int 1)) (tVar 1))) rfl sc_bits_of.nd (pi_seq (pv 0)) (blkOk_by (N := Nn_bits_of) (sc := defScope s_bits_of) (by decide +kernel)) (fun _ _ _ _ _ => pg_name (i := 1) sc_bits_of.nd rfl (by first | exact Or.inl rfl | exact Or.inr rfl)) (fun _ _ _ _ _ => pts_nil) (fun _ _ _ _ _ => (pe_op op_shl pe_int (pv 1)))) pa_nil)))),
    (ss_ret (se_cb sn_sum (sa_cons (se_new (sen_comp (si_seq se_var) st_true (se_op2 s2_shl se_int se_var))) sa_nil)))⟩
theorem ok_stands_of (T : Txt c mg A) : FnR P w c.K mg base (L2.CX P w) 3 A.stands_of (spD c (D_stands_of A.ca)) :=
  fn_ss (N := Nn_stands_of) (ps := ["bits"]) (s := dn_stands_of A.ca) T.F_stands_of sc_stands_of (T.F_stands_of.binds (ps := ["bits"]) fun _ _ _ _ _ _ us hl => match us, hl with | [_], _ => rfl) fun cdv A_ outer sh H E' hr => ⟨(tRet (tCB (rTupleF c.K) (tCons (tLc (iRng1 (tCons (tBits (tVar 0)) tNil)) (gName 1) (fun σ H Q => (tOp (rI0 fun i j => V.int (Builtin.bitAnd i j)) (tOp (rI (fun _ j => 0 ≤ j) fun i j => V.int (i / 2 ^ j.toNat)) (tVar 0) (tVar 1)) (tC (V.int 1))) σ H fun x H' => ∃ k, TruV c.K x H' k ∧ Q k H') (tVar 1) [1]) tNil))),
    (pss_one (ps_ret (pe_callTy call_tuple_of (by rfl) T.n_tuple (by decide +kernel) (pa_cons (pe_lc (own := [("stand", 1)]) (g := gName 1) (wi := (iRng1 (tCons (tBits (tVar 0)) tNil))) (tt := (fun σ H Q => (tOp (rI0 fun i j => V.int (Builtin.bitAnd i j)) (tOp (rI (fun _ j => 0 ≤ j) fun i j => V.int (i / 2 ^ j.toNat)) (tVar 0) (tVar 1)) (tC (V.int 1))) σ H fun x H' => ∃ k, TruV c.K x H' k ∧ Q k H')) (te := (tVar 1)) rfl sc_stands_of.nd (pi_range1 (by rfl) T.n_range (pa_cons (pe_bits (pv 0)) pa_nil)) (blkOk_by (N := Nn_stands_of) (sc := defScope s_stands_of) (by decide +kernel)) (fun _ _ _ _ _ => pg_name (i := 1) sc_stands_of.nd rfl (by first | exact Or.inl rfl | exact Or.inr rfl)) (fun _ _ _ _ _ => (pts_one (pt_truth (pe_op op_and (pe_op op_shr (pv 0) (pv 1)) pe_int) (by intro _; rfl)))) (fun _ _ _ _ _ => (pv 1))) pa_nil)))),
    (ss_ret (se_cb sn_tuple (sa_cons (se_new (sen_comp (si_rng1 (sa_cons (se_bits se_var) sa_nil)) (st_tru (se_op2 s2_and (se_op2 s2_shr se_var se_var) se_int)) se_var)) sa_nil)))⟩
theorem ok_Heightslook (T : Txt c mg A) : FnR P w c.K mg base (L2.CX P w) 3 A.Heightslook (spD c (D_Heightslook A.ca)) :=
  fn_ss (N := Nn_Heightslook) (ps := ["self"]) (s := dn_Heightslook A.ca) T.F_Heightslook sc_Heightslook (T.F_Heightslook.binds (ps := ["self"]) fun _ _ _ _ _ _ us hl => match us, hl with | [_], _ => rfl) fun cdv A_ outer sh H E' hr => ⟨(tSeq (tAsg tDNewK (gName 1))
    (tSeq (tFor (iEnum c.K (tCons (tFld c.K (tVar 0) "_row") tNil)) (gTup c.K 2 (gCons (gName 2) (gCons (gName 3) gNil))) (sDPut (tVar 1) (tVar 3) (tOp (rI0 fun i j => V.int (Builtin.bitOr i j)) (tDGet2 (tVar 1) (tVar 3) (tC (V.int 0))) (tOp (rI CPow fun i j => V.int (i * 2 ^ j.toNat)) (tC (V.int 1)) (tVar 2)))))
    (tFor (iTup c.K (tFld c.K (tVar 0) "_moving")) (gName 2) (tSeq (tAsg (tOp (rIx c.K) (tFld c.K (tVar 0) "_firsts") (tVar 2)) (gName 4))
    (tSeq (tIfS (tNot (fun σ H Q => (tOp (rI0 fun i j => V.int (Builtin.bitAnd i j)) (tVar 4) (tDGet2 (tVar 1) (tOp (rIx c.K) (tFld c.K (tVar 0) "_lows") (tVar 2)) (tC (V.int 0)))) σ H fun x H' => ∃ k, TruV c.K x H' k ∧ Q k H')) (tAugS (tFld c.K (tVar 0) "_lows") (tVar 2) (tC (V.int 1)) (rIxL c.K) (ipI fun i j => i + j) rSetL) tNext)
    (tSeq (tAsg (tOp (rI0 fun i j => V.int (Builtin.bitAnd i j)) (tVar 4) (tDGet2 (tVar 1) (tOp (rIx c.K) (tFld c.K (tVar 0) "_lows") (tVar 2)) (tC (V.int 0)))) (gSub (tFld c.K (tVar 0) "_low_stands") (tVar 2) rSetL))
    (tSeq (tAsg (tOp (rIx c.K) (tFld c.K (tVar 0) "_seconds") (tVar 2)) (gName 5))
    (tSeq (tIfS (fun σ H Q => (tOp (rI0 fun i j => V.int (Builtin.bitAnd i j)) (tVar 5) (tDGet2 (tVar 1) (tOp (rI0 fun i j => V.int (i + j)) (tOp (rIx c.K) (tFld c.K (tVar 0) "_highs") (tVar 2)) (tC (V.int 1))) (tC (V.int 0)))) σ H fun x H' => ∃ k, TruV c.K x H' k ∧ Q k H') (tAugS (tFld c.K (tVar 0) "_highs") (tVar 2) (tC (V.int 1)) (rIxL c.K) (ipI fun i j => i + j) rSetL) tNext)
    (tAsg (tOp (rI0 fun i j => V.int (Builtin.bitAnd i j)) (tVar 5) (tDGet2 (tVar 1) (tOp (rIx c.K) (tFld c.K (tVar 0) "_highs") (tVar 2)) (tC (V.int 0)))) (gSub (tFld c.K (tVar 0) "_high_stands") (tVar 2) rSetL)))))))))),
    (pss_cons (ps_asg pe_dnewK (pg_name (i := 1) sc_Heightslook.nd rfl (by first | exact Or.inl rfl | exact Or.inr rfl)))
    (pss_cons (ps_for (passes_of rfl) rfl (pi_enum (by rfl) T.n_enumerate (pa_cons (pe_fld (pv 0) rfl) pa_nil)) (pg_tup rfl (pgs_cons (pg_name (i := 2) sc_Heightslook.nd rfl (by first | exact Or.inl rfl | exact Or.inr rfl)) (pgs_cons (pg_name (i := 3) sc_Heightslook.nd rfl (by first | exact Or.inl rfl | exact Or.inr rfl)) pgs_nil))) (pss_one (ps_dput (Nat.lt_of_le_of_lt (Nat.add_le_add_left (by decide) _) hr.units) (pv 1) (pv 3) (pe_op op_or (pe_dget2 (Nat.lt_of_le_of_lt (Nat.add_le_add_left (by decide) _) hr.units) (pv 1) (pv 3) pe_int ⟨rfl, by rfl, by rfl, by rfl⟩) (pe_op op_shl pe_int (pv 2))) rfl)))
    (pss_one (ps_for (passes_of rfl) rfl (pi_tup (pe_fld (pv 0) rfl)) (pg_name (i := 2) sc_Heightslook.nd rfl (by first | exact Or.inl rfl | exact Or.inr rfl)) (pss_cons (ps_asg (pe_ix ix_seq (pe_fld (pv 0) rfl) (pv 2) (fun _ _ => rfl)) (pg_name (i := 4) sc_Heightslook.nd rfl (by first | exact Or.inl rfl | exact Or.inr rfl)))
    (pss_cons (ps_if (pt_not (pt_truth (pe_op op_and (pv 4) (pe_dget2 (Nat.lt_of_le_of_lt (Nat.add_le_add_left (by decide) _) hr.units) (pv 1) (pe_ix ix_seq (pe_fld (pv 0) rfl) (pv 2) (fun _ _ => rfl)) pe_int ⟨rfl, by rfl, by rfl, by rfl⟩)) (by intro _; rfl))) (pss_one (ps_augS (pe_fld (pv 0) rfl) (pv 2) pget_list pe_int ip_add set_list)) pss_nil)
    (pss_cons (ps_asg (pe_op op_and (pv 4) (pe_dget2 (Nat.lt_of_le_of_lt (Nat.add_le_add_left (by decide) _) hr.units) (pv 1) (pe_ix ix_seq (pe_fld (pv 0) rfl) (pv 2) (fun _ _ => rfl)) pe_int ⟨rfl, by rfl, by rfl, by rfl⟩)) (pg_sub (pe_fld (pv 0) rfl) (pv 2) set_list))
    (pss_cons (ps_asg (pe_ix ix_seq (pe_fld (pv 0) rfl) (pv 2) (fun _ _ => rfl)) (pg_name (i := 5) sc_Heightslook.nd rfl (by first | exact Or.inl rfl | exact Or.inr rfl)))
    (pss_cons (ps_if (pt_truth (pe_op op_and (pv 5) (pe_dget2 (Nat.lt_of_le_of_lt (Nat.add_le_add_left (by decide) _) hr.units) (pv 1) (pe_op op_add (pe_ix ix_seq (pe_fld (pv 0) rfl) (pv 2) (fun _ _ => rfl)) pe_int) pe_int ⟨rfl, by rfl, by rfl, by rfl⟩)) (by intro _; rfl)) (pss_one (ps_augS (pe_fld (pv 0) rfl) (pv 2) pget_list pe_int ip_add set_list)) pss_nil)
    (pss_one (ps_asg (pe_op op_and (pv 5) (pe_dget2 (Nat.lt_of_le_of_lt (Nat.add_le_add_left (by decide) _) hr.units) (pv 1) (pe_ix ix_seq (pe_fld (pv 0) rfl) (pv 2) (fun _ _ => rfl)) pe_int ⟨rfl, by rfl, by rfl, by rfl⟩)) (pg_sub (pe_fld (pv 0) rfl) (pv 2) set_list)))))))))))),
    (ss_seq (ss_asg se_dnewM sg_name)
    (ss_seq (ss_forM (si_enumM (se_fldM T.f_Heights.cl T.a_Heights__row se_var)) sg_pair (ss_dputM se_var se_var (se_op2 s2_or (se_dget2 se_var se_var se_int) (se_op2 s2_shl se_int se_var))))
    (ss_for (si_tup (se_fldM T.f_Heights.cl T.a_Heights__moving se_var)) sg_name (ss_seq (ss_asg (se_ixM (se_fldM T.f_Heights.cl T.a_Heights__firsts se_var) se_var) sg_name)
    (ss_seq (ss_if (st_not (st_tru (se_op2 s2_and se_var (se_dget2 se_var (se_ixM (se_fldM T.f_Heights.cl T.a_Heights__lows se_var) se_var) se_int)))) (ss_augM (se_fldM T.f_Heights.cl T.a_Heights__lows se_var) se_var se_int) ss_next)
    (ss_seq (ss_putM (se_fldM T.f_Heights.cl T.a_Heights__low_stands se_var) se_var (se_op2 s2_and se_var (se_dget2 se_var (se_ixM (se_fldM T.f_Heights.cl T.a_Heights__lows se_var) se_var) se_int)))
    (ss_seq (ss_asg (se_ixM (se_fldM T.f_Heights.cl T.a_Heights__seconds se_var) se_var) sg_name)
    (ss_seq (ss_if (st_tru (se_op2 s2_and se_var (se_dget2 se_var (se_op2 s2_add (se_ixM (se_fldM T.f_Heights.cl T.a_Heights__highs se_var) se_var) se_int) se_int))) (ss_augM (se_fldM T.f_Heights.cl T.a_Heights__highs se_var) se_var se_int) ss_next)
    (ss_putM (se_fldM T.f_Heights.cl T.a_Heights__high_stands se_var) se_var (se_op2 s2_and se_var (se_dget2 se_var (se_ixM (se_fldM T.f_Heights.cl T.a_Heights__highs se_var) se_var) se_int)))))))))))⟩
theorem ok_Heightsleading_to (T : Txt c mg A) : FnR P w c.K mg base (L2.CX P w) 2 A.Heightsleading_to (spD c (D_Heightsleading_to A.ca)) :=
  fn_ss (N := Nn_Heightsleading_to) (ps := ["self", "stand"]) (s := dn_Heightsleading_to A.ca) T.F_Heightsleading_to sc_Heightsleading_to (T.F_Heightsleading_to.binds (ps := ["self", "stand"]) fun _ _ _ _ _ _ us hl => match us, hl with | [_, _], _ => rfl) fun cdv A_ outer sh H E' hr => ⟨(tRet (tCallS (spD c D_bits_of) (fun _ => E') (tCons (tLc (iTup c.K (tFld c.K (tVar 0) "_moving")) (gName 2) (fun σ H Q => (tOp (rI0 fun i j => V.int (Builtin.bitAnd i j)) (tOp (rI (fun _ j => 0 ≤ j) fun i j => V.int (i / 2 ^ j.toNat)) (tOp (rI0 fun i j => V.int (Builtin.bitOr i j)) (tOp (rIx c.K) (tFld c.K (tVar 0) "_firsts") (tVar 2)) (tOp (rIx c.K) (tFld c.K (tVar 0) "_seconds") (tVar 2))) (tVar 1)) (tC (V.int 1))) σ H fun x H' => ∃ k, TruV c.K x H' k ∧ Q k H') (tVar 2) [2]) tNil))),
    (pss_one (ps_ret (pe_callRS (ok_bits_of T) (hr.mono (by decide)) (by rfl) T.m_bits_of T.F_bits_of.kp (passE (takes_of rfl rfl rfl rfl)) (pa_cons (pe_lc (own := [("place", 2)]) (g := gName 2) (wi := (iTup c.K (tFld c.K (tVar 0) "_moving"))) (tt := (fun σ H Q => (tOp (rI0 fun i j => V.int (Builtin.bitAnd i j)) (tOp (rI (fun _ j => 0 ≤ j) fun i j => V.int (i / 2 ^ j.toNat)) (tOp (rI0 fun i j => V.int (Builtin.bitOr i j)) (tOp (rIx c.K) (tFld c.K (tVar 0) "_firsts") (tVar 2)) (tOp (rIx c.K) (tFld c.K (tVar 0) "_seconds") (tVar 2))) (tVar 1)) (tC (V.int 1))) σ H fun x H' => ∃ k, TruV c.K x H' k ∧ Q k H')) (te := (tVar 2)) rfl sc_Heightsleading_to.nd (pi_tup (pe_fld (pv 0) rfl)) (blkOk_by (N := Nn_Heightsleading_to) (sc := defScope s_Heightsleading_to) (by decide +kernel)) (fun _ _ _ _ _ => pg_name (i := 2) sc_Heightsleading_to.nd rfl (by first | exact Or.inl rfl | exact Or.inr rfl)) (fun _ _ _ _ _ => (pts_one (pt_truth (pe_op op_and (pe_op op_shr (pe_op op_or (pe_ix ix_seq (pe_fld (pv 0) rfl) (pv 2) (fun _ _ => rfl)) (pe_ix ix_seq (pe_fld (pv 0) rfl) (pv 2) (fun _ _ => rfl))) (pv 1)) pe_int) (by intro _; rfl)))) (fun _ _ _ _ _ => (pv 2))) pa_nil)))),
    (ss_ret (se_call (sa_cons (se_new (sen_comp (si_tup (se_fldM T.f_Heights.cl T.a_Heights__moving se_var)) (st_tru (se_op2 s2_and (se_op2 s2_shr (se_op2 s2_or (se_ixM (se_fldM T.f_Heights.cl T.a_Heights__firsts se_var) se_var) (se_ixM (se_fldM T.f_Heights.cl T.a_Heights__seconds se_var) se_var)) se_var) se_int)) se_var)) sa_nil)))⟩
theorem ok_Heights_init (T : Txt c mg A) : FnR P w c.K mg base (L2.CX P w) 5 A.Heights_init (spD c (D_Heights_init A.ca)) :=
  fn_ss (N := Nn_Heights_init) (ps := ["self", "web", "row"]) (s := dn_Heights_init A.ca) T.F_Heights_init sc_Heights_init (T.F_Heights_init.binds (ps := ["self", "web", "row"]) fun _ _ _ _ _ _ us hl => match us, hl with | [_, _, _], _ => rfl) fun cdv A_ outer sh H E' hr => ⟨(tSeq (sFld c.K (tVar 0) (tProp A.ca.Web (getSp A.ca.Web "_marks") [] L2.E0 (tVar 1)) "_marks")
    (tSeq (sFld c.K (tVar 0) (tProp A.ca.Web (getSp A.ca.Web "_moving") [] L2.E0 (tVar 1)) "_moving")
    (tSeq (sFld c.K (tVar 0) (tCB (rListF c.K) (tCons (tVar 2) tNil)) "_row")
    (tSeq (sFld c.K (tVar 0) (tLc (iTup c.K (tProp A.ca.Web (getSp A.ca.Web "_first") [] L2.E0 (tVar 1))) (gName 3) tYes (tCallS (spD c D_bits_of) (fun _ => L2.E0) (tCons (tVar 3) tNil)) [3]) "_firsts")
    (tSeq (sFld c.K (tVar 0) (tLc (iTup c.K (tProp A.ca.Web (getSp A.ca.Web "_second") [] L2.E0 (tVar 1))) (gName 3) tYes (tCallS (spD c D_bits_of) (fun _ => L2.E0) (tCons (tVar 3) tNil)) [3]) "_seconds")
    (tSeq (sFld c.K (tVar 0) (tLc (iRng1 (tCons (tProp A.ca.Web (getSp A.ca.Web "_size") [] L2.E0 (tVar 1)) tNil)) (gName 4) tYes (tMethRS A.ca.Heights "_leading_to" (spD c (D_Heightsleading_to A.ca)) (fun _ => L2.E0) (tVar 0) (tCons (tVar 4) tNil)) [4]) "_before")
    (tSeq (sFld c.K (tVar 0) (tLc (iTup c.K (tProp A.ca.Web (getSp A.ca.Web "_first") [] L2.E0 (tVar 1))) (gName 3) tYes (tCKw (rMinD c.K) (tCons (tLc (iTup c.K (tVar 3)) (gName 5) tYes (tOp (rIx c.K) (tVar 2) (tVar 5)) [5]) tNil) (tCons (tC (V.int 0)) tNil)) [3]) "_lows")
    (tSeq (sFld c.K (tVar 0) (tLc (iTup c.K (tProp A.ca.Web (getSp A.ca.Web "_second") [] L2.E0 (tVar 1))) (gName 3) tYes (tCKw (rMaxD c.K) (tCons (tLc (iTup c.K (tVar 3)) (gName 5) tYes (tOp (rIx c.K) (tVar 2) (tVar 5)) [5]) tNil) (tCons (tC (V.int 0)) tNil)) [3]) "_highs")
    (tSeq (sFld c.K (tVar 0) (tOp rRep (tLst (tCons (tC (V.int 0)) tNil)) (tProp A.ca.Web (getSp A.ca.Web "_size") [] L2.E0 (tVar 1))) "_low_stands")
    (tSeq (sFld c.K (tVar 0) (tOp rRep (tLst (tCons (tC (V.int 0)) tNil)) (tProp A.ca.Web (getSp A.ca.Web "_size") [] L2.E0 (tVar 1))) "_high_stands")
    (tDrop (tMethR A.ca.Heights "_look" (spD c (D_Heightslook A.ca)) E' (tVar 0) tNil)))))))))))),
    (pss_cons (ps_fld (pv 0) (pe_prop (pv 1) T.f_Web.cl T.p_Web_marks (getter_of T.F_Web_marks gsc_Web_marks rfl rfl T.f_Web.cl T.a_Web__marks) (hr.mono (by decide)) (T.F_Web_marks.binds (ps := ["self"]) fun _ _ _ _ _ _ us hl => match us, hl with | [_], _ => rfl) .nil passL rfl) rfl)
    (pss_cons (ps_fld (pv 0) (pe_prop (pv 1) T.f_Web.cl T.p_Web_moving (getter_of T.F_Web_moving gsc_Web_moving rfl rfl T.f_Web.cl T.a_Web__moving) (hr.mono (by decide)) (T.F_Web_moving.binds (ps := ["self"]) fun _ _ _ _ _ _ us hl => match us, hl with | [_], _ => rfl) .nil passL rfl) rfl)
    (pss_cons (ps_fld (pv 0) (pe_callTy call_list_of (by rfl) T.n_list (by decide +kernel) (pa_cons (pv 2) pa_nil)) rfl)
    (pss_cons (ps_fld (pv 0) (pe_lc (own := [("steps", 3)]) (g := gName 3) (wi := (iTup c.K (tProp A.ca.Web (getSp A.ca.Web "_first") [] L2.E0 (tVar 1)))) (tt := tYes) (te := (tCallS (spD c D_bits_of) (fun _ => L2.E0) (tCons (tVar 3) tNil))) rfl sc_Heights_init.nd (pi_tup (pe_prop (pv 1) T.f_Web.cl T.p_Web_first (getter_of T.F_Web_first gsc_Web_first rfl rfl T.f_Web.cl T.a_Web__first) (hr.mono (by decide)) (T.F_Web_first.binds (ps := ["self"]) fun _ _ _ _ _ _ us hl => match us, hl with | [_], _ => rfl) .nil passL rfl)) (blkOk_by (N := Nn_Heights_init) (sc := defScope s_Heights_init) (by decide +kernel)) (fun _ _ _ _ _ => pg_name (i := 3) sc_Heights_init.nd rfl (by first | exact Or.inl rfl | exact Or.inr rfl)) (fun _ _ _ _ _ => pts_nil) (fun _ _ _ _ _ => (pe_callRS (ok_bits_of T) (hr.mono (by decide)) (by rfl) T.m_bits_of T.F_bits_of.kp passNo (pa_cons (pv 3) pa_nil)))) rfl)
    (pss_cons (ps_fld (pv 0) (pe_lc (own := [("steps", 3)]) (g := gName 3) (wi := (iTup c.K (tProp A.ca.Web (getSp A.ca.Web "_second") [] L2.E0 (tVar 1)))) (tt := tYes) (te := (tCallS (spD c D_bits_of) (fun _ => L2.E0) (tCons (tVar 3) tNil))) rfl sc_Heights_init.nd (pi_tup (pe_prop (pv 1) T.f_Web.cl T.p_Web_second (getter_of T.F_Web_second gsc_Web_second rfl rfl T.f_Web.cl T.a_Web__second) (hr.mono (by decide)) (T.F_Web_second.binds (ps := ["self"]) fun _ _ _ _ _ _ us hl => match us, hl with | [_], _ => rfl) .nil passL rfl)) (blkOk_by (N := Nn_Heights_init) (sc := defScope s_Heights_init) (by decide +kernel)) (fun _ _ _ _ _ => pg_name (i := 3) sc_Heights_init.nd rfl (by first | exact Or.inl rfl | exact Or.inr rfl)) (fun _ _ _ _ _ => pts_nil) (fun _ _ _ _ _ => (pe_callRS (ok_bits_of T) (hr.mono (by decide)) (by rfl) T.m_bits_of T.F_bits_of.kp passNo (pa_cons (pv 3) pa_nil)))) rfl)
    (pss_cons (ps_fld (pv 0) (pe_lc (own := [("stand", 4)]) (g := gName 4) (wi := (iRng1 (tCons (tProp A.ca.Web (getSp A.ca.Web "_size") [] L2.E0 (tVar 1)) tNil))) (tt := tYes) (te := (tMethRS A.ca.Heights "_leading_to" (spD c (D_Heightsleading_to A.ca)) (fun _ => L2.E0) (tVar 0) (tCons (tVar 4) tNil))) rfl sc_Heights_init.nd (pi_range1 (by rfl) T.n_range (pa_cons (pe_prop (pv 1) T.f_Web.cl T.p_Web_size (getter_of T.F_Web_size gsc_Web_size rfl rfl T.f_Web.cl T.a_Web__size) (hr.mono (by decide)) (T.F_Web_size.binds (ps := ["self"]) fun _ _ _ _ _ _ us hl => match us, hl with | [_], _ => rfl) .nil passL rfl) pa_nil)) (blkOk_by (N := Nn_Heights_init) (sc := defScope s_Heights_init) (by decide +kernel)) (fun _ _ _ _ _ => pg_name (i := 4) sc_Heights_init.nd rfl (by first | exact Or.inl rfl | exact Or.inr rfl)) (fun _ _ _ _ _ => pts_nil) (fun _ _ _ _ _ => (pe_methRS (pv 0) T.f_Heights.cl ⟨T.sp_Heightsleading_to, T.fn_Heightsleading_to, T.F_Heightsleading_to.kp⟩ (ok_Heightsleading_to T) (hr.mono (by decide)) passNo (pa_cons (pv 4) pa_nil)))) rfl)
    (pss_cons (ps_fld (pv 0) (pe_lc (own := [("steps", 3)]) (g := gName 3) (wi := (iTup c.K (tProp A.ca.Web (getSp A.ca.Web "_first") [] L2.E0 (tVar 1)))) (tt := tYes) (te := (tCKw (rMinD c.K) (tCons (tLc (iTup c.K (tVar 3)) (gName 5) tYes (tOp (rIx c.K) (tVar 2) (tVar 5)) [5]) tNil) (tCons (tC (V.int 0)) tNil))) rfl sc_Heights_init.nd (pi_tup (pe_prop (pv 1) T.f_Web.cl T.p_Web_first (getter_of T.F_Web_first gsc_Web_first rfl rfl T.f_Web.cl T.a_Web__first) (hr.mono (by decide)) (T.F_Web_first.binds (ps := ["self"]) fun _ _ _ _ _ _ us hl => match us, hl with | [_], _ => rfl) .nil passL rfl)) (blkOk_by (N := Nn_Heights_init) (sc := defScope s_Heights_init) (by decide +kernel)) (fun _ _ _ _ _ => pg_name (i := 3) sc_Heights_init.nd rfl (by first | exact Or.inl rfl | exact Or.inr rfl)) (fun _ _ _ _ _ => pts_nil) (fun _ _ _ _ _ => (pe_callBK (cr_minD rfl) (by rfl) T.n_min (by decide +kernel) (pa_cons (pe_lc (own := [("step", 5)]) (g := gName 5) (wi := (iTup c.K (tVar 3))) (tt := tYes) (te := (tOp (rIx c.K) (tVar 2) (tVar 5))) rfl sc_Heights_init.nd (pi_tup (pv 3)) (blkOk_by (by kernel_rfl)) (fun _ _ _ _ _ => pg_name (i := 5) sc_Heights_init.nd rfl (by first | exact Or.inl rfl | exact Or.inr rfl)) (fun _ _ _ _ _ => pts_nil) (fun _ _ _ _ _ => (pe_ix ix_seq (pv 2) (pv 5) (fun _ _ => rfl)))) pa_nil) (pk_cons pe_int pk_nil)))) rfl)
    (pss_cons (ps_fld (pv 0) (pe_lc (own := [("steps", 3)]) (g := gName 3) (wi := (iTup c.K (tProp A.ca.Web (getSp A.ca.Web "_second") [] L2.E0 (tVar 1)))) (tt := tYes) (te := (tCKw (rMaxD c.K) (tCons (tLc (iTup c.K (tVar 3)) (gName 5) tYes (tOp (rIx c.K) (tVar 2) (tVar 5)) [5]) tNil) (tCons (tC (V.int 0)) tNil))) rfl sc_Heights_init.nd (pi_tup (pe_prop (pv 1) T.f_Web.cl T.p_Web_second (getter_of T.F_Web_second gsc_Web_second rfl rfl T.f_Web.cl T.a_Web__second) (hr.mono (by decide)) (T.F_Web_second.binds (ps := ["self"]) fun _ _ _ _ _ _ us hl => match us, hl with | [_], _ => rfl) .nil passL rfl)) (blkOk_by (N := Nn_Heights_init) (sc := defScope s_Heights_init) (by decide +kernel)) (fun _ _ _ _ _ => pg_name (i := 3) sc_Heights_init.nd rfl (by first | exact Or.inl rfl | exact Or.inr rfl)) (fun _ _ _ _ _ => pts_nil) (fun _ _ _ _ _ => (pe_callBK (cr_maxD rfl) (by rfl) T.n_max (by decide +kernel) (pa_cons (pe_lc (own := [("step", 5)]) (g := gName 5) (wi := (iTup c.K (tVar 3))) (tt := tYes) (te := (tOp (rIx c.K) (tVar 2) (tVar 5))) rfl sc_Heights_init.nd (pi_tup (pv 3)) (blkOk_by (by kernel_rfl)) (fun _ _ _ _ _ => pg_name (i := 5) sc_Heights_init.nd rfl (by first | exact Or.inl rfl | exact Or.inr rfl)) (fun _ _ _ _ _ => pts_nil) (fun _ _ _ _ _ => (pe_ix ix_seq (pv 2) (pv 5) (fun _ _ => rfl)))) pa_nil) (pk_cons pe_int pk_nil)))) rfl)
    (pss_cons (ps_fld (pv 0) (pe_op op_rep (pe_lst (pa_cons pe_int pa_nil)) (pe_prop (pv 1) T.f_Web.cl T.p_Web_size (getter_of T.F_Web_size gsc_Web_size rfl rfl T.f_Web.cl T.a_Web__size) (hr.mono (by decide)) (T.F_Web_size.binds (ps := ["self"]) fun _ _ _ _ _ _ us hl => match us, hl with | [_], _ => rfl) .nil passL rfl)) rfl)
    (pss_cons (ps_fld (pv 0) (pe_op op_rep (pe_lst (pa_cons pe_int pa_nil)) (pe_prop (pv 1) T.f_Web.cl T.p_Web_size (getter_of T.F_Web_size gsc_Web_size rfl rfl T.f_Web.cl T.a_Web__size) (hr.mono (by decide)) (T.F_Web_size.binds (ps := ["self"]) fun _ _ _ _ _ _ us hl => match us, hl with | [_], _ => rfl) .nil passL rfl)) rfl)
    (pss_one (ps_expr (pe_methN (pv 0) T.f_Heights.cl ⟨T.sp_Heightslook, T.fn_Heightslook, T.F_Heightslook.kp⟩ (ok_Heightslook T) (hr.mono (by decide)) (fun pins σ H s e s' I h => passE (takes_of rfl rfl rfl rfl) σ pins H s e s' I h)))))))))))))),
    (ss_seq (ss_fldM T.f_Heights.cl T.a_Heights__marks se_var (se_prop se_var))
    (ss_seq (ss_fldM T.f_Heights.cl T.a_Heights__moving se_var (se_prop se_var))
    (ss_seq (ss_fldM T.f_Heights.cl T.a_Heights__row se_var (se_newM (sen_list (sa_cons se_var sa_nil))))
    (ss_seq (ss_fldM T.f_Heights.cl T.a_Heights__firsts se_var (se_new (sen_comp (si_tup (se_prop se_var)) st_true (se_call (sa_cons se_var sa_nil)))))
    (ss_seq (ss_fldM T.f_Heights.cl T.a_Heights__seconds se_var (se_new (sen_comp (si_tup (se_prop se_var)) st_true (se_call (sa_cons se_var sa_nil)))))
    (ss_seq (ss_fldM T.f_Heights.cl T.a_Heights__before se_var (se_new (sen_comp (si_rng1 (sa_cons (se_prop se_var) sa_nil)) st_true (se_methMRS se_var (sa_cons se_var sa_nil)))))
    (ss_seq (ss_fldM T.f_Heights.cl T.a_Heights__lows se_var (se_newM (sen_comp (si_tup (se_prop se_var)) st_true (se_ckw sn_minD (sa_cons (se_new (sen_comp (si_tup se_var) st_true (se_ixM se_var se_var))) sa_nil) (sa_cons se_int sa_nil)))))
    (ss_seq (ss_fldM T.f_Heights.cl T.a_Heights__highs se_var (se_newM (sen_comp (si_tup (se_prop se_var)) st_true (se_ckw sn_maxD (sa_cons (se_new (sen_comp (si_tup se_var) st_true (se_ixM se_var se_var))) sa_nil) (sa_cons se_int sa_nil)))))
    (ss_seq (ss_fldM T.f_Heights.cl T.a_Heights__low_stands se_var (se_newM (sen_rep (se_new (sen_lst (sa_cons se_int sa_nil))) (se_prop se_var))))
    (ss_seq (ss_fldM T.f_Heights.cl T.a_Heights__high_stands se_var (se_newM (sen_rep (se_new (sen_lst (sa_cons se_int sa_nil))) (se_prop se_var))))
    (ss_drop (se_methM se_var sa_nil))))))))))))⟩
theorem ok_Heights_told (T : Txt c mg A) : FnR P w c.K mg base (L2.CX P w) 1 A.Heights_told (spD c (D_Heights_told A.ca)) :=
  fn_ss (N := Nn_Heights_told) (ps := ["self"]) (s := dn_Heights_told A.ca) T.F_Heights_told sc_Heights_told (T.F_Heights_told.binds (ps := ["self"]) fun _ _ _ _ _ _ us hl => match us, hl with | [_], _ => rfl) fun cdv A_ outer sh H E' hr => ⟨(tRet (tCB (rTupleF c.K) (tCons (tFld c.K (tVar 0) "_row") tNil))),
    (pss_one (ps_ret (pe_callTy call_tuple_of (by rfl) T.n_tuple (by decide +kernel) (pa_cons (pe_fld (pv 0) rfl) pa_nil)))),
    (ss_ret (se_tupM (se_fldM T.f_Heights.cl T.a_Heights__row se_var)))⟩
theorem ok_Heights_lift (T : Txt c mg A) : FnR P w c.K mg base (L2.CX P w) 5 A.Heights_lift (spD c (D_Heights_lift A.ca)) :=
  fn_ss (N := Nn_Heights_lift) (ps := ["self", "stands"]) (s := dn_Heights_lift A.ca) T.F_Heights_lift sc_Heights_lift (T.F_Heights_lift.binds (ps := ["self", "stands"]) fun _ _ _ _ _ _ us hl => match us, hl with | [_, _], _ => rfl) fun cdv A_ outer sh H E' hr => ⟨(tSeq (tFor (iTup c.K (tCallS (spD c (D_stands_of A.ca)) (fun _ => E') (tCons (tVar 1) tNil))) (gName 2) (tAugS (tFld c.K (tVar 0) "_row") (tVar 2) (tC (V.int 1)) (rIxL c.K) (ipI fun i j => i + j) rSetL))
    (tDrop (tMethR A.ca.Heights "_look" (spD c (D_Heightslook A.ca)) E' (tVar 0) tNil))),
    (pss_cons (ps_for (passes_of rfl) rfl (pi_tup (pe_callRS (ok_stands_of T) (hr.mono (by decide)) (by rfl) T.m_stands_of T.F_stands_of.kp (passE (takes_of rfl rfl rfl rfl)) (pa_cons (pv 1) pa_nil))) (pg_name (i := 2) sc_Heights_lift.nd rfl (by first | exact Or.inl rfl | exact Or.inr rfl)) (pss_one (ps_augS (pe_fld (pv 0) rfl) (pv 2) pget_list pe_int ip_add set_list)))
    (pss_one (ps_expr (pe_methN (pv 0) T.f_Heights.cl ⟨T.sp_Heightslook, T.fn_Heightslook, T.F_Heightslook.kp⟩ (ok_Heightslook T) (hr.mono (by decide)) (fun pins σ H s e s' I h => passE (takes_of rfl rfl rfl rfl) σ pins H s e s' I h))))),
    (ss_seq (ss_for (si_tup (se_call (sa_cons se_var sa_nil))) sg_name (ss_augM (se_fldM T.f_Heights.cl T.a_Heights__row se_var) se_var se_int))
    (ss_drop (se_methM se_var sa_nil)))⟩
theorem ok_Heights_below (T : Txt c mg A) : FnR P w c.K mg base (L2.CX P w) 2 A.Heights_below (spD c (D_Heights_below A.ca)) :=
  fn_ss (N := Nn_Heights_below) (ps := ["self", "most"]) (s := dn_Heights_below A.ca) T.F_Heights_below sc_Heights_below (T.F_Heights_below.binds (ps := ["self", "most"]) fun _ _ _ _ _ _ us hl => match us, hl with | [_, _], _ => rfl) fun cdv A_ outer sh H E' hr => ⟨(tRet (tCallS (spD c D_bits_of) (fun _ => E') (tCons (tLc (iEnum c.K (tCons (tFld c.K (tVar 0) "_row") tNil)) (gTup c.K 2 (gCons (gName 2) (gCons (gName 3) gNil))) (tTest (tOp (rI0 fun i j => V.bl (decide (i < j))) (tVar 3) (tOp (rIx c.K) (tVar 1) (tVar 2)))) (tVar 2) [2, 3]) tNil))),
    (pss_one (ps_ret (pe_callRS (ok_bits_of T) (hr.mono (by decide)) (by rfl) T.m_bits_of T.F_bits_of.kp (passE (takes_of rfl rfl rfl rfl)) (pa_cons (pe_lc (own := [("stand", 2), ("part", 3)]) (g := (gTup c.K 2 (gCons (gName 2) (gCons (gName 3) gNil)))) (wi := (iEnum c.K (tCons (tFld c.K (tVar 0) "_row") tNil))) (tt := (tTest (tOp (rI0 fun i j => V.bl (decide (i < j))) (tVar 3) (tOp (rIx c.K) (tVar 1) (tVar 2))))) (te := (tVar 2)) rfl sc_Heights_below.nd (pi_enum (by rfl) T.n_enumerate (pa_cons (pe_fld (pv 0) rfl) pa_nil)) (blkOk_by (N := Nn_Heights_below) (sc := defScope s_Heights_below) (by decide +kernel)) (fun _ _ _ _ _ => pg_tup rfl (pgs_cons (pg_name (i := 2) sc_Heights_below.nd rfl (by first | exact Or.inl rfl | exact Or.inr rfl)) (pgs_cons (pg_name (i := 3) sc_Heights_below.nd rfl (by first | exact Or.inl rfl | exact Or.inr rfl)) pgs_nil))) (fun _ _ _ _ _ => (pts_one (pt_cmpR op_lt (pv 3) (pe_ix ix_seq (pv 1) (pv 2) (fun _ _ => rfl)) (nomark _)))) (fun _ _ _ _ _ => (pv 2))) pa_nil)))),
    (ss_ret (se_call (sa_cons (se_new (sen_comp2M (si_enumM (se_fldM T.f_Heights.cl T.a_Heights__row se_var)) (st_test (se_op2 s2_lt se_var (se_ixM se_var se_var))) se_var)) sa_nil)))⟩
theorem ok_Heightsraised_price (T : Txt c mg A) : FnR P w c.K mg base (L2.CX P w) 2 A.Heightsraised_price (spD c (D_Heightsraised_price A.ca)) :=
  fn_ss (N := Nn_Heightsraised_price) (ps := ["self", "stand", "raised"]) (s := dn_Heightsraised_price A.ca) T.F_Heightsraised_price sc_Heightsraised_price (T.F_Heightsraised_price.binds (ps := ["self", "stand", "raised"]) fun _ _ _ _ _ _ us hl => match us, hl with | [_, _, _], _ => rfl) fun cdv A_ outer sh H E' hr => ⟨(tSeq (tAsg (tOp (rIx c.K) (tFld c.K (tVar 0) "_lows") (tVar 1)) (gName 3))
    (tSeq (tIfS (tNot (fun σ H Q => (tOp (rI0 fun i j => V.int (Builtin.bitAnd i j)) (tOp (rIx c.K) (tFld c.K (tVar 0) "_low_stands") (tVar 1)) (tUn (rU fun i => V.int (Builtin.bitNot i)) (tVar 2))) σ H fun x H' => ∃ k, TruV c.K x H' k ∧ Q k H')) (tAug 3 (tC (V.int 1)) (ipI fun i j => i + j)) tNext)
    (tSeq (tAsg (tOp (rIx c.K) (tFld c.K (tVar 0) "_highs") (tVar 1)) (gName 4))
    (tSeq (tIfS (fun σ H Q => (tOp (rI0 fun i j => V.int (Builtin.bitAnd i j)) (tOp (rIx c.K) (tFld c.K (tVar 0) "_high_stands") (tVar 1)) (tVar 2)) σ H fun x H' => ∃ k, TruV c.K x H' k ∧ Q k H') (tAug 4 (tC (V.int 1)) (ipI fun i j => i + j)) tNext)
    (tRet (tCallS (spD c D_half_of) (fun _ => E') (tCons (tOp (rIx c.K) (tFld c.K (tVar 0) "_marks") (tVar 1)) (tCons (tVar 3) (tCons (tVar 4) tNil))))))))),
    (pss_cons (ps_asg (pe_ix ix_seq (pe_fld (pv 0) rfl) (pv 1) (fun _ _ => rfl)) (pg_name (i := 3) sc_Heightsraised_price.nd rfl (by first | exact Or.inl rfl | exact Or.inr rfl)))
    (pss_cons (ps_if (pt_not (pt_truth (pe_op op_and (pe_ix ix_seq (pe_fld (pv 0) rfl) (pv 1) (fun _ _ => rfl)) (pe_un un_inv (pv 2))) (by intro _; rfl))) (pss_one (ps_aug (i := 3) sc_Heightsraised_price.nd rfl (by first | exact Or.inl rfl | exact Or.inr rfl) pe_int ip_add)) pss_nil)
    (pss_cons (ps_asg (pe_ix ix_seq (pe_fld (pv 0) rfl) (pv 1) (fun _ _ => rfl)) (pg_name (i := 4) sc_Heightsraised_price.nd rfl (by first | exact Or.inl rfl | exact Or.inr rfl)))
    (pss_cons (ps_if (pt_truth (pe_op op_and (pe_ix ix_seq (pe_fld (pv 0) rfl) (pv 1) (fun _ _ => rfl)) (pv 2)) (by intro _; rfl)) (pss_one (ps_aug (i := 4) sc_Heightsraised_price.nd rfl (by first | exact Or.inl rfl | exact Or.inr rfl) pe_int ip_add)) pss_nil)
    (pss_one (ps_ret (pe_callRS (ok_half_of T) (hr.mono (by decide)) (by rfl) T.m_half_of T.F_half_of.kp (passE (takes_of rfl rfl rfl rfl)) (pa_cons (pe_ix ix_seq (pe_fld (pv 0) rfl) (pv 1) (fun _ _ => rfl)) (pa_cons (pv 3) (pa_cons (pv 4) pa_nil)))))))))),
    (ss_seq (ss_asg (se_ixM (se_fldM T.f_Heights.cl T.a_Heights__lows se_var) se_var) sg_name)
    (ss_seq (ss_if (st_not (st_tru (se_op2 s2_and (se_ixM (se_fldM T.f_Heights.cl T.a_Heights__low_stands se_var) se_var) (se_op1 s1_inv se_var)))) (ss_aug se_int) ss_next)
    (ss_seq (ss_asg (se_ixM (se_fldM T.f_Heights.cl T.a_Heights__highs se_var) se_var) sg_name)
    (ss_seq (ss_if (st_tru (se_op2 s2_and (se_ixM (se_fldM T.f_Heights.cl T.a_Heights__high_stands se_var) se_var) se_var)) (ss_aug se_int) ss_next)
    (ss_ret (se_call (sa_cons (se_ixM (se_fldM T.f_Heights.cl T.a_Heights__marks se_var) se_var) (sa_cons se_var (sa_cons se_var sa_nil)))))))))⟩
theorem ok_Heightsleavers (T : Txt c mg A) : FnR P w c.K mg base (L2.CX P w) 4 A.Heightsleavers (spD c (D_Heightsleavers A.ca)) :=
  fn_ss (N := Nn_Heightsleavers) (ps := ["self", "raised", "asked"]) (s := dn_Heightsleavers A.ca) T.F_Heightsleavers sc_Heightsleavers (T.F_Heightsleavers.binds (ps := ["self", "raised", "asked"]) fun _ _ _ _ _ _ us hl => match us, hl with | [_, _, _], _ => rfl) fun cdv A_ outer sh H E' hr => ⟨(tSeq (tAsg (tC (V.int 0)) (gName 3))
    (tSeq (tFor (iTup c.K (tFld c.K (tVar 0) "_moving")) (gName 4) (tIfS (tAnd (fun σ H Q => (tOp (rI0 fun i j => V.int (Builtin.bitAnd i j)) (tOp (rI (fun _ j => 0 ≤ j) fun i j => V.int (i / 2 ^ j.toNat)) (tVar 2) (tVar 4)) (tC (V.int 1))) σ H fun x H' => ∃ k, TruV c.K x H' k ∧ Q k H') (tTest (tOp (rI0 fun i j => V.bl (decide (i ≤ j))) (tMethR A.ca.Heights "_raised_price" (spD c (D_Heightsraised_price A.ca)) E' (tVar 0) (tCons (tVar 4) (tCons (tVar 1) tNil))) (tOp (rIx c.K) (tFld c.K (tVar 0) "_row") (tVar 4))))) (tAsg (tOp (rI0 fun i j => V.int (Builtin.bitOr i j)) (tVar 3) (tOp (rI CPow fun i j => V.int (i * 2 ^ j.toNat)) (tC (V.int 1)) (tVar 4))) (gName 3)) tNext))
    (tRet (tVar 3)))),
    (pss_cons (ps_asg pe_int (pg_name (i := 3) sc_Heightsleavers.nd rfl (by first | exact Or.inl rfl | exact Or.inr rfl)))
    (pss_cons (ps_for (passes_of rfl) rfl (pi_tup (pe_fld (pv 0) rfl)) (pg_name (i := 4) sc_Heightsleavers.nd rfl (by first | exact Or.inl rfl | exact Or.inr rfl)) (pss_one (ps_if (PW.pt (pw_and (pt_truth (pe_op op_and (pe_op op_shr (pv 2) (pv 4)) pe_int) (by intro _; rfl)) (pw_and1 (pt_cmpR op_le (pe_methR (pv 0) T.f_Heights.cl ⟨T.sp_Heightsraised_price, T.fn_Heightsraised_price, T.F_Heightsraised_price.kp⟩ (ok_Heightsraised_price T) (hr.mono (by decide)) (fun pins σ H s e s' I h => passE (takes_of rfl rfl rfl rfl) σ pins H s e s' I h) (pa_cons (pv 4) (pa_cons (pv 1) pa_nil))) (pe_ix ix_seq (pe_fld (pv 0) rfl) (pv 4) (fun _ _ => rfl)) (nomark _))))) (pss_one (ps_asg (pe_op op_or (pv 3) (pe_op op_shl pe_int (pv 4))) (pg_name (i := 3) sc_Heightsleavers.nd rfl (by first | exact Or.inl rfl | exact Or.inr rfl)))) pss_nil)))
    (pss_one (ps_ret (pv 3))))),
    (ss_seq (ss_asg se_int sg_name)
    (ss_seq (ss_for (si_tup (se_fldM T.f_Heights.cl T.a_Heights__moving se_var)) sg_name (ss_if (st_and (st_tru (se_op2 s2_and (se_op2 s2_shr se_var se_var) se_int)) (st_test (se_op2 s2_le (se_methM se_var (sa_cons se_var (sa_cons se_var sa_nil))) (se_ixM (se_fldM T.f_Heights.cl T.a_Heights__row se_var) se_var)))) (ss_asg (se_op2 s2_or se_var (se_op2 s2_shl se_int se_var)) sg_name) ss_next))
    (ss_ret se_var)))⟩
theorem ok_Heights_leaving (T : Txt c mg A) : FnR P w c.K mg base (L2.CX P w) 6 A.Heights_leaving (spD c (D_Heights_leaving A.ca)) :=
  fn_ssD (N := Nn_Heights_leaving) (ps := ["self", "left", "lifted"]) (s := dn_Heights_leaving A.ca) T.F_Heights_leaving sc_Heights_leaving (fun _ _ => .int 0) (fun _ _ _ _ _ _ _ us its hl ht => match us, its, hl, ht with | [_, _, _], [_], _, _ => ⟨_, rfl, rfl⟩) (fun _ _ _ _ _ _ _ us its hl ht => match us, its, hl, ht with | [_, _], [_], _, _ => ⟨_, rfl, rfl⟩) (by decide) fun cdv A_ outer sh H E' hr => ⟨(tSeq (tAsg (tLst tNil) (gName 3))
    (tSeq (tAsg (tMethR A.ca.Heights "_leavers" (spD c (D_Heightsleavers A.ca)) E' (tVar 0) (tCons (tOp (rI0 fun i j => V.int (Builtin.bitOr i j)) (tVar 1) (tVar 2)) (tCons (tVar 1) tNil))) (gName 4))
    (tSeq (tWhile (fun σ H Q => (tVar 4) σ H fun x H' => ∃ k, TruV c.K x H' k ∧ Q k H') (tSeq (tDrop (tBM c.K "list" rAppend (tVar 3) (tCons (tVar 4) tNil)))
    (tSeq (tAsg (tOp (rI0 fun i j => V.int (Builtin.bitAnd i j)) (tVar 1) (tUn (rU fun i => V.int (Builtin.bitNot i)) (tVar 4))) (gName 1))
    (tSeq (tAsg (tC (V.int 0)) (gName 5))
    (tSeq (tFor (iTup c.K (tCallS (spD c (D_stands_of A.ca)) (fun _ => E') (tCons (tVar 4) tNil))) (gName 6) (tAsg (tOp (rI0 fun i j => V.int (Builtin.bitOr i j)) (tVar 5) (tOp (rIx c.K) (tFld c.K (tVar 0) "_before") (tVar 6))) (gName 5)))
    (tAsg (tMethR A.ca.Heights "_leavers" (spD c (D_Heightsleavers A.ca)) E' (tVar 0) (tCons (tOp (rI0 fun i j => V.int (Builtin.bitOr i j)) (tVar 1) (tVar 2)) (tCons (tOp (rI0 fun i j => V.int (Builtin.bitAnd i j)) (tVar 1) (tVar 5)) tNil))) (gName 4)))))))
    (tRet (tVar 3))))),
    (pss_cons (ps_asg (pe_lst pa_nil) (pg_name (i := 3) sc_Heights_leaving.nd rfl (by first | exact Or.inl rfl | exact Or.inr rfl)))
    (pss_cons (ps_asg (pe_methR (pv 0) T.f_Heights.cl ⟨T.sp_Heightsleavers, T.fn_Heightsleavers, T.F_Heightsleavers.kp⟩ (ok_Heightsleavers T) (hr.mono (by decide)) (fun pins σ H s e s' I h => passE (takes_of rfl rfl rfl rfl) σ pins H s e s' I h) (pa_cons (pe_op op_or (pv 1) (pv 2)) (pa_cons (pv 1) pa_nil))) (pg_name (i := 4) sc_Heights_leaving.nd rfl (by first | exact Or.inl rfl | exact Or.inr rfl)))
    (pss_cons (ps_while (passes_of rfl) (pt_truth (pv 4) (by intro _; rfl)) (pss_cons (ps_expr (pe_bm PySem.F.plainAttrs_list PySem.F.slot_list_append PySem.F.type_list_append mt_append (pv 3) (pa_cons (pv 4) pa_nil)))
    (pss_cons (ps_asg (pe_op op_and (pv 1) (pe_un un_inv (pv 4))) (pg_name (i := 1) sc_Heights_leaving.nd rfl (by first | exact Or.inl rfl | exact Or.inr rfl)))
    (pss_cons (ps_asg pe_int (pg_name (i := 5) sc_Heights_leaving.nd rfl (by first | exact Or.inl rfl | exact Or.inr rfl)))
    (pss_cons (ps_for (passes_of rfl) rfl (pi_tup (pe_callRS (ok_stands_of T) (hr.mono (by decide)) (by rfl) T.m_stands_of T.F_stands_of.kp (passE (takes_of rfl rfl rfl rfl)) (pa_cons (pv 4) pa_nil))) (pg_name (i := 6) sc_Heights_leaving.nd rfl (by first | exact Or.inl rfl | exact Or.inr rfl)) (pss_one (ps_asg (pe_op op_or (pv 5) (pe_ix ix_seq (pe_fld (pv 0) rfl) (pv 6) (fun _ _ => rfl))) (pg_name (i := 5) sc_Heights_leaving.nd rfl (by first | exact Or.inl rfl | exact Or.inr rfl)))))
    (pss_one (ps_asg (pe_methR (pv 0) T.f_Heights.cl ⟨T.sp_Heightsleavers, T.fn_Heightsleavers, T.F_Heightsleavers.kp⟩ (ok_Heightsleavers T) (hr.mono (by decide)) (fun pins σ H s e s' I h => passE (takes_of rfl rfl rfl rfl) σ pins H s e s' I h) (pa_cons (pe_op op_or (pv 1) (pv 2)) (pa_cons (pe_op op_and (pv 1) (pv 5)) pa_nil))) (pg_name (i := 4) sc_Heights_leaving.nd rfl (by first | exact Or.inl rfl | exact Or.inr rfl)))))))))
    (pss_one (ps_ret (pv 3)))))),
    (ss_seq (ss_own (sen_lst sa_nil))
    (ss_seq (ss_asg (se_methM se_var (sa_cons (se_op2 s2_or se_var se_var) (sa_cons se_var sa_nil))) sg_name)
    (ss_seq (ss_while (st_tru se_var) (ss_seq (ss_append se_var)
    (ss_seq (ss_asg (se_op2 s2_and se_var (se_op1 s1_inv se_var)) sg_name)
    (ss_seq (ss_asg se_int sg_name)
    (ss_seq (ss_for (si_tup (se_call (sa_cons se_var sa_nil))) sg_name (ss_asg (se_op2 s2_or se_var (se_ixM (se_fldM T.f_Heights.cl T.a_Heights__before se_var) se_var)) sg_name))
    (ss_asg (se_methM se_var (sa_cons (se_op2 s2_or se_var se_var) (sa_cons (se_op2 s2_and se_var se_var) sa_nil))) sg_name))))))
    (ss_give (i := 3) (ss_ret se_var)))))⟩
theorem ok_Heights_staying (T : Txt c mg A) : FnR P w c.K mg base (L2.CX P w) 8 A.Heights_staying (spD c (D_Heights_staying A.ca)) :=
  fn_ss (N := Nn_Heights_staying) (ps := ["self", "left", "lifted"]) (s := dn_Heights_staying A.ca) T.F_Heights_staying sc_Heights_staying (T.F_Heights_staying.binds (ps := ["self", "left", "lifted"]) fun _ _ _ _ _ _ us hl => match us, hl with | [_, _, _], _ => rfl) fun cdv A_ outer sh H E' hr => ⟨(tSeq (tFor (iList c.K (tMethR A.ca.Heights "leaving" (spD c (D_Heights_leaving A.ca)) E' (tVar 0) (tCons (tVar 1) (tCons (tVar 2) tNil)))) (gName 3) (tAsg (tOp (rI0 fun i j => V.int (Builtin.bitAnd i j)) (tVar 1) (tUn (rU fun i => V.int (Builtin.bitNot i)) (tVar 3))) (gName 1)))
    (tRet (tVar 1))),
    (pss_cons (ps_for (passes_of rfl) rfl (pi_list (pe_methR (pv 0) T.f_Heights.cl ⟨T.sp_Heights_leaving, T.fn_Heights_leaving, T.F_Heights_leaving.kp⟩ (ok_Heights_leaving T) (hr.mono (by decide)) (fun pins σ H s e s' I h => passE (takes_of rfl rfl rfl rfl) σ pins H s e s' I h) (pa_cons (pv 1) (pa_cons (pv 2) pa_nil)))) (pg_name (i := 3) sc_Heights_staying.nd rfl (by first | exact Or.inl rfl | exact Or.inr rfl)) (pss_one (ps_asg (pe_op op_and (pv 1) (pe_un un_inv (pv 3))) (pg_name (i := 1) sc_Heights_staying.nd rfl (by first | exact Or.inl rfl | exact Or.inr rfl)))))
    (pss_one (ps_ret (pv 1)))),
    (ss_seq (ss_for (si_list (se_methM se_var (sa_cons se_var (sa_cons se_var sa_nil)))) sg_name (ss_asg (se_op2 s2_and se_var (se_op1 s1_inv se_var)) sg_name))
    (ss_ret se_var))⟩
theorem ok_lift_once (T : Txt c mg A) : FnR P w c.K mg base (L2.CX P w) 10 A.lift_once (spD c (D_lift_once A.ca)) :=
  fn_ss (N := Nn_lift_once) (ps := ["web", "k", "heights"]) (s := dn_lift_once A.ca) T.F_lift_once sc_lift_once (T.F_lift_once.binds (ps := ["web", "k", "heights"]) fun _ _ _ _ _ _ us hl => match us, hl with | [_, _, _], _ => rfl) fun cdv A_ outer sh H E' hr => ⟨(tDrop (tMethR A.ca.Heights "lift" (spD c (D_Heights_lift A.ca)) E' (tVar 2) (tCons (tMethR A.ca.Heights "staying" (spD c (D_Heights_staying A.ca)) E' (tVar 2) (tCons (tMethR A.ca.Heights "below" (spD c (D_Heights_below A.ca)) E' (tVar 2) (tCons (tCallS (spD c (D_dues_at A.ca)) (fun _ => E') (tCons (tVar 0) (tCons (tVar 1) tNil))) tNil)) (tCons (tC (V.int 0)) tNil))) tNil))),
    (pss_one (ps_expr (pe_methR (pv 2) T.f_Heights.cl ⟨T.sp_Heights_lift, T.fn_Heights_lift, T.F_Heights_lift.kp⟩ (ok_Heights_lift T) (hr.mono (by decide)) (fun pins σ H s e s' I h => passE (takes_of rfl rfl rfl rfl) σ pins H s e s' I h) (pa_cons (pe_methR (pv 2) T.f_Heights.cl ⟨T.sp_Heights_staying, T.fn_Heights_staying, T.F_Heights_staying.kp⟩ (ok_Heights_staying T) (hr.mono (by decide)) (fun pins σ H s e s' I h => passE (takes_of rfl rfl rfl rfl) σ pins H s e s' I h) (pa_cons (pe_methR (pv 2) T.f_Heights.cl ⟨T.sp_Heights_below, T.fn_Heights_below, T.F_Heights_below.kp⟩ (ok_Heights_below T) (hr.mono (by decide)) (fun pins σ H s e s' I h => passE (takes_of rfl rfl rfl rfl) σ pins H s e s' I h) (pa_cons (pe_callRS (ok_dues_at T) (hr.mono (by decide)) (by rfl) T.m_dues_at T.F_dues_at.kp (passE (takes_of rfl rfl rfl rfl)) (pa_cons (pv 0) (pa_cons (pv 1) pa_nil))) pa_nil)) (pa_cons pe_int pa_nil))) pa_nil)))),
    (ss_drop (se_methM se_var (sa_cons (se_methM se_var (sa_cons (se_methM se_var (sa_cons (se_call (sa_cons se_var (sa_cons se_var sa_nil))) sa_nil)) (sa_cons se_int sa_nil))) sa_nil)))⟩
theorem ok_numbers_at (T : Txt c mg A) : FnR P w c.K mg base (L2.CX P w) 11 A.numbers_at (spD c (D_numbers_at A.ca)) :=
  fn_frm (f := I_numbers_at A.ca) (fn_ss (N := Nn_numbers_at) (ps := ["web", "k"]) (s := dn_numbers_at A.ca) T.F_numbers_at sc_numbers_at (T.F_numbers_at.binds (ps := ["web", "k"]) fun _ _ _ _ _ _ us hl => match us, hl with | [_, _], _ => rfl) fun cdv A_ outer sh H E' hr => ⟨(tSeq (tAsg (StX.tMakeR A.ca.Heights (spD c (D_Heights_init A.ca)) E' (tCons (tVar 0) (tCons (tOp rRep (tLst (tCons (tC (V.int 0)) tNil)) (tProp A.ca.Web (getSp A.ca.Web "_size") [] L2.E0 (tVar 0))) tNil))) (gName 2))
    (tSeq (tFor (iRng1 (tCons (tOp (rI0 fun i j => V.int (i + j)) (tVar 1) (tC (V.int 1))) tNil)) (gName 3) (tDrop (tCallS (spD c (D_lift_once A.ca)) (fun _ => E') (tCons (tVar 0) (tCons (tVar 3) (tCons (tVar 2) tNil))))))
    (tRet (tMethR A.ca.Heights "told" (spD c (D_Heights_told A.ca)) E' (tVar 2) tNil)))),
    (pss_cons (ps_asg (StX.pe_makeR T.mk_Heights (ok_Heights_init T) (hr.mono (by decide)) (by rfl) T.m_Heights (fun pins σ H s e s' I h => passE (takes_of rfl rfl rfl rfl) σ pins H s e s' I h) (pa_cons (pv 0) (pa_cons (pe_op op_rep (pe_lst (pa_cons pe_int pa_nil)) (pe_prop (pv 0) T.f_Web.cl T.p_Web_size (getter_of T.F_Web_size gsc_Web_size rfl rfl T.f_Web.cl T.a_Web__size) (hr.mono (by decide)) (T.F_Web_size.binds (ps := ["self"]) fun _ _ _ _ _ _ us hl => match us, hl with | [_], _ => rfl) .nil passL rfl)) pa_nil))) (pg_name (i := 2) sc_numbers_at.nd rfl (by first | exact Or.inl rfl | exact Or.inr rfl)))
    (pss_cons (ps_for (passes_of rfl) rfl (pi_range1 (by rfl) T.n_range (pa_cons (pe_op op_add (pv 1) pe_int) pa_nil)) (pg_name (i := 3) sc_numbers_at.nd rfl (by first | exact Or.inl rfl | exact Or.inr rfl)) (pss_one (ps_expr (pe_callRS (ok_lift_once T) (hr.mono (by decide)) (by rfl) T.m_lift_once T.F_lift_once.kp (passE (takes_of rfl rfl rfl rfl)) (pa_cons (pv 0) (pa_cons (pv 3) (pa_cons (pv 2) pa_nil)))))))
    (pss_one (ps_ret (pe_methN (pv 2) T.f_Heights.cl ⟨T.sp_Heights_told, T.fn_Heights_told, T.F_Heights_told.kp⟩ (ok_Heights_told T) (hr.mono (by decide)) (fun pins σ H s e s' I h => passE (takes_of rfl rfl rfl rfl) σ pins H s e s' I h)))))),
    (ss_seq (ss_asg (se_makeM (sa_cons se_var (sa_cons (se_op2 s2_rep (se_new (sen_lst (sa_cons se_int sa_nil))) (se_prop se_var)) sa_nil))) sg_name)
    (ss_seq (ss_for (si_rng1 (sa_cons (se_op2 s2_add se_var se_int) sa_nil)) sg_name (ss_drop (se_call (sa_cons se_var (sa_cons se_var (sa_cons se_var sa_nil))))))
    (ss_ret (se_methM se_var sa_nil))))⟩)
theorem ok_check_chips (T : Txt c mg A) : FnR P w c.K mg base (L2.CX P w) 3 A.check_chips (spD c (D_check_chips A.ca)) :=
  fn_ss (N := Nn_check_chips) (ps := ["web", "k", "most"]) (s := dn_check_chips A.ca) T.F_check_chips sc_check_chips (T.F_check_chips.binds (ps := ["web", "k", "most"]) fun _ _ _ _ _ _ us hl => match us, hl with | [_, _, _], _ => rfl) fun cdv A_ outer sh H E' hr => ⟨(tSeq (tDrop (tCallS (spD c (D_check_web A.ca)) (fun _ => E') (tCons (tVar 0) tNil)))
    (tSeq (tDrop (tCallS (spD c D_check_whole) (fun _ => E') (tCons (tVar 1) tNil)))
    (tSeq (tDrop (tCallS (spD c D_check_least) (fun _ => E') (tCons (tVar 1) (tCons (tC (V.int 0)) tNil))))
    (tDrop (tCallS (spD c D_check_most) (fun _ => E') (tCons (tVar 1) (tCons (tVar 2) tNil))))))),
    (pss_cons (ps_expr (pe_callRS (ok_check_web T) (hr.mono (by decide)) (by rfl) T.m_check_web T.F_check_web.kp (passE (takes_of rfl rfl rfl rfl)) (pa_cons (pv 0) pa_nil)))
    (pss_cons (ps_expr (pe_callRS (ok_check_whole T) (hr.mono (by decide)) (by rfl) T.m_check_whole T.F_check_whole.kp (passE (takes_of rfl rfl rfl rfl)) (pa_cons (pv 1) pa_nil)))
    (pss_cons (ps_expr (pe_callRS (ok_check_least T) (hr.mono (by decide)) (by rfl) T.m_check_least T.F_check_least.kp (passE (takes_of rfl rfl rfl rfl)) (pa_cons (pv 1) (pa_cons pe_int pa_nil))))
    (pss_one (ps_expr (pe_callRS (ok_check_most T) (hr.mono (by decide)) (by rfl) T.m_check_most T.F_check_most.kp (passE (takes_of rfl rfl rfl rfl)) (pa_cons (pv 1) (pa_cons (pv 2) pa_nil)))))))),
    (ss_seq (ss_drop (se_call (sa_cons se_var sa_nil)))
    (ss_seq (ss_drop (se_call (sa_cons se_var sa_nil)))
    (ss_seq (ss_drop (se_call (sa_cons se_var (sa_cons se_int sa_nil))))
    (ss_drop (se_call (sa_cons se_var (sa_cons se_var sa_nil)))))))⟩
theorem ok_number_row (T : Txt c mg A) : FnR P w c.K mg base (L2.CX P w) 12 A.number_row (spD c (D_number_row A.ca)) :=
  fn_ss (N := Nn_number_row) (ps := ["web", "k"]) (s := dn_number_row A.ca) T.F_number_row sc_number_row (T.F_number_row.binds (ps := ["web", "k"]) fun _ _ _ _ _ _ us hl => match us, hl with | [_, _], _ => rfl) fun cdv A_ outer sh H E' hr => ⟨(tSeq (tDrop (tCallS (spD c (D_check_chips A.ca)) (fun _ => E') (tCons (tVar 0) (tCons (tVar 1) (tCons (tC (V.int 5000)) tNil)))))
    (tRet (tCallS (spD c (D_numbers_at A.ca)) (fun _ => E') (tCons (tVar 0) (tCons (tVar 1) tNil))))),
    (pss_cons (ps_expr (pe_callRS (ok_check_chips T) (hr.mono (by decide)) (by rfl) T.m_check_chips T.F_check_chips.kp (passE (takes_of rfl rfl rfl rfl)) (pa_cons (pv 0) (pa_cons (pv 1) (pa_cons (pe_gint (by rfl) T.c_MOST_CHIPS) pa_nil)))))
    (pss_one (ps_ret (pe_callRS (ok_numbers_at T) (hr.mono (by decide)) (by rfl) T.m_numbers_at T.F_numbers_at.kp (passE (takes_of rfl rfl rfl rfl)) (pa_cons (pv 0) (pa_cons (pv 1) pa_nil)))))),
    (ss_seq (ss_drop (se_call (sa_cons se_var (sa_cons se_var (sa_cons se_int sa_nil)))))
    (ss_ret (se_call (sa_cons se_var (sa_cons se_var sa_nil)))))⟩
theorem ok_law_draw (T : Txt c mg A) : FnR P w c.K mg base (L2.CX P w) 6 A.law_draw (spD c (D_law_draw)) :=
  fn_ss (N := Nn_law_draw) (ps := ["_law_pot_here", "_law_many"]) (s := dn_law_draw) T.F_law_draw sc_law_draw (T.F_law_draw.binds (ps := ["_law_pot_here", "_law_many"]) fun _ _ _ _ _ _ us hl => match us, hl with | [_, _], _ => rfl) fun cdv A_ outer sh H E' hr => ⟨(tSeq (tIfS (tTest (tOp rEq (tCB (rLenS c.K) (tCons (tVar 0) tNil)) (tC (V.int 0)))) (tRet (tC (V.int 0))) tNext)
    (tRet (tOp (rI (fun _ j => 0 < j) fun i j => V.int (i % j)) (tCB rIntF (tCons (tBM0 c.K "list" rPop (tVar 0)) tNil)) (tVar 1)))),
    (pss_cons (ps_if (pt_cmpR op_eq (pe_callB call_len_seq (by rfl) T.n_len PySem.boot_len (pa_cons (pv 0) pa_nil)) pe_int (nomark _)) (pss_one (ps_ret pe_int)) pss_nil)
    (pss_one (ps_ret (pe_op op_mod (pe_callTy call_int1 (by rfl) T.n_int (by decide +kernel) (pa_cons (pe_bm0 PySem.F.plainAttrs_list PySem.F.slot_list_pop PySem.F.type_list_pop mt_pop (pv 0)) pa_nil)) (pv 1))))),
    (ss_seq (ss_if (st_test (se_op2 s2_eq (se_lenp T.pl se_var) se_int)) (ss_ret se_int) ss_next)
    (ss_ret (se_op2 s2_mod (se_cb sn_int (sa_cons (se_pop T.pl se_var) sa_nil)) se_var)))⟩
theorem ok_law_whole (T : Txt c mg A) : FnR P w c.K mg base (L2.CX P w) 6 A.law_whole (spD c (D_is_integer)) :=
  fn_ss (N := Nn_law_whole) (ps := ["_law_thing"]) (s := dn_is_integer) T.F_law_whole sc_law_whole (T.F_law_whole.binds (ps := ["_law_thing"]) fun _ _ _ _ _ _ us hl => match us, hl with | [_], _ => rfl) fun cdv A_ outer sh H E' hr => ⟨(tRet (tAndV (tCB (rIsi c.K) (tCons (tVar 0) (tCons (tC (V.ty "int")) tNil))) (tNotV (tCB (rIsi c.K) (tCons (tVar 0) (tCons (tC (V.ty "bool")) tNil)))))),
    (pss_one (ps_ret (pe_and (pe_callB call_isi (by rfl) T.n_isinstance (by decide +kernel) (pa_cons (pv 0) (pa_cons (pe_bltn (v := V.ty "int") (by rfl) T.n_int (by decide +kernel) rfl) pa_nil))) (pe_one (pe_not (pe_callB call_isi (by rfl) T.n_isinstance (by decide +kernel) (pa_cons (pv 0) (pa_cons (pe_bltn (v := V.ty "bool") (by rfl) T.n_bool (by decide +kernel) rfl) pa_nil)))))))),
    (ss_ret (se_and (se_cb sn_is1 (sa_cons se_var (sa_cons (se_c fun _ _ => At.ty Ty.int) sa_nil))) (se_not (se_cb sn_is1 (sa_cons se_var (sa_cons (se_c fun _ _ => At.ty Ty.bl) sa_nil))))))⟩
theorem ok_law_is_row (T : Txt c mg A) : FnR P w c.K mg base (L2.CX P w) 7 A.law_is_row (spD c (D_law_is_row)) :=
  fn_ss (N := Nn_law_is_row) (ps := ["_law_thing", "_law_size"]) (s := dn_law_is_row) T.F_law_is_row sc_law_is_row (T.F_law_is_row.binds (ps := ["_law_thing", "_law_size"]) fun _ _ _ _ _ _ us hl => match us, hl with | [_, _], _ => rfl) fun cdv A_ outer sh H E' hr => ⟨(tSeq (tIfS (tOr (tNot (fun σ H Q => (tCB (rIsi c.K) (tCons (tVar 0) (tCons (tC (V.ty "tuple")) tNil))) σ H fun x H' => ∃ k, TruV c.K x H' k ∧ Q k H')) (tTest (tOp rNe (tCB (rLenS c.K) (tCons (tVar 0) tNil)) (tVar 1)))) (tRet (tC (V.bl false))) tNext)
    (tSeq (tFor (iTup c.K (tVar 0)) (gName 2) (tIfS (tNot (fun σ H Q => (tCallS (spD c D_is_integer) (fun _ => E') (tCons (tVar 2) tNil)) σ H fun x H' => ∃ k, TruV c.K x H' k ∧ Q k H')) (tRet (tC (V.bl false))) tNext))
    (tRet (tC (V.bl true))))),
    (pss_cons (ps_if (PW.pt (pw_or (pt_not (pt_truth (pe_callB call_isi (by rfl) T.n_isinstance (by decide +kernel) (pa_cons (pv 0) (pa_cons (pe_bltn (v := V.ty "tuple") (by rfl) T.n_tuple (by decide +kernel) rfl) pa_nil))) (by intro _; rfl))) (pw_or1 (pt_cmpR op_ne (pe_callB call_len_seq (by rfl) T.n_len (by decide +kernel) (pa_cons (pv 0) pa_nil)) (pv 1) (nomark _))))) (pss_one (ps_ret pe_bl)) pss_nil)
    (pss_cons (ps_for (passes_of rfl) rfl (pi_tup (pv 0)) (pg_name (i := 2) sc_law_is_row.nd rfl (by first | exact Or.inl rfl | exact Or.inr rfl)) (pss_one (ps_if (pt_not (pt_truth (pe_callRS (ok_law_whole T) (hr.mono (by decide)) (by rfl) T.m_law_whole T.F_law_whole.kp (passE (takes_of rfl rfl rfl rfl)) (pa_cons (pv 2) pa_nil)) (by intro _; rfl))) (pss_one (ps_ret pe_bl)) pss_nil)))
    (pss_one (ps_ret pe_bl)))),
    (ss_seq (ss_if (st_or (st_not (st_tru (se_cb sn_is1 (sa_cons se_var (sa_cons (se_c fun _ _ => At.ty Ty.tup) sa_nil))))) (st_test (se_op2 s2_ne (se_cb sn_len (sa_cons se_var sa_nil)) se_var))) (ss_ret se_bl) ss_next)
    (ss_seq (ss_for (si_tup se_var) sg_name (ss_if (st_not (st_tru (se_call (sa_cons se_var sa_nil)))) (ss_ret se_bl) ss_next))
    (ss_ret se_bl)))⟩
theorem ok_law_due_at (T : Txt c mg A) : FnR P w c.K mg base (L2.CX P w) 6 A.law_due_at (spD c (D_due_at)) :=
  fn_ss (N := Nn_law_due_at) (ps := ["_law_due", "_law_k"]) (s := dn_due_at) T.F_law_due_at sc_law_due_at (T.F_law_due_at.binds (ps := ["_law_due", "_law_k"]) fun _ _ _ _ _ _ us hl => match us, hl with | [_, _], _ => rfl) fun cdv A_ outer sh H E' hr => ⟨(tSeq (tIfS (tTest (tOp rIsNF (tVar 0) (tC V.non))) (tRet (tOp (rI0 fun i j => V.int (i + j)) (tVar 1) (tC (V.int 1)))) tNext)
    (tSeq (tIfS (tTest (tOp rEq (tOp (rIx c.K) (tVar 0) (tC (V.int 0))) (tC (V.str "chips")))) (tRet (tCB rMin2F (tCons (tOp (rIx c.K) (tVar 0) (tC (V.int 1))) (tCons (tOp (rI0 fun i j => V.int (i + j)) (tVar 1) (tC (V.int 1))) tNil)))) tNext)
    (tRet (tCB rMax2F (tCons (tC (V.int 0)) (tCons (tOp (rI0 fun i j => V.int (i - j)) (tOp (rI0 fun i j => V.int (i + j)) (tVar 1) (tC (V.int 1))) (tOp (rIx c.K) (tVar 0) (tC (V.int 1)))) tNil)))))),
    (pss_cons (ps_if (pt_cmpR op_isN (pv 0) pe_non (nomark _)) (pss_one (ps_ret (pe_op op_add (pv 1) pe_int))) pss_nil)
    (pss_cons (ps_if (pt_cmpR op_eq (pe_ix ix_seq (pv 0) pe_int (fun _ _ => rfl)) pe_str (nomark _)) (pss_one (ps_ret (pe_callB (call_min2 rfl) (by rfl) T.n_min (by decide +kernel) (pa_cons (pe_ix ix_seq (pv 0) pe_int (fun _ _ => rfl)) (pa_cons (pe_op op_add (pv 1) pe_int) pa_nil))))) pss_nil)
    (pss_one (ps_ret (pe_callB (call_max2 rfl) (by rfl) T.n_max (by decide +kernel) (pa_cons pe_int (pa_cons (pe_op op_sub (pe_op op_add (pv 1) pe_int) (pe_ix ix_seq (pv 0) pe_int (fun _ _ => rfl))) pa_nil))))))),
    (ss_seq (ss_if (st_test (se_op2 s2_isN se_var se_non)) (ss_ret (se_op2 s2_add se_var se_int)) ss_next)
    (ss_seq (ss_if (st_test (se_op2 s2_eq (se_op2 s2_ix se_var se_int) se_str)) (ss_ret (se_cb sn_min2 (sa_cons (se_op2 s2_ix se_var se_int) (sa_cons (se_op2 s2_add se_var se_int) sa_nil)))) ss_next)
    (ss_ret (se_cb sn_max2 (sa_cons se_int (sa_cons (se_op2 s2_sub (se_op2 s2_add se_var se_int) (se_op2 s2_ix se_var se_int)) sa_nil))))))⟩
theorem ok_law_half (T : Txt c mg A) : FnR P w c.K mg base (L2.CX P w) 6 A.law_half (spD c (D_half_of)) :=
  fn_ss (N := Nn_law_half) (ps := ["_law_mark", "_law_x", "_law_y"]) (s := dn_half_of) T.F_law_half sc_law_half (T.F_law_half.binds (ps := ["_law_mark", "_law_x", "_law_y"]) fun _ _ _ _ _ _ us hl => match us, hl with | [_, _, _], _ => rfl) fun cdv A_ outer sh H E' hr => ⟨(tSeq (tIfS (tTest (tOp rEq (tVar 0) (tC (V.int 1)))) (tRet (tOp (rI CDiv fun i j => V.int (i / j)) (tOp (rI0 fun i j => V.int (i + j)) (tVar 1) (tCB rMax2F (tCons (tVar 1) (tCons (tVar 2) tNil)))) (tC (V.int 2)))) tNext)
    (tRet (tOp (rI CDiv fun i j => V.int (i / j)) (tOp (rI0 fun i j => V.int (i + j)) (tOp (rI0 fun i j => V.int (i + j)) (tCB rMin2F (tCons (tVar 1) (tCons (tVar 2) tNil))) (tVar 2)) (tC (V.int 1))) (tC (V.int 2))))),
    (pss_cons (ps_if (pt_cmpR op_eq (pv 0) pe_int (nomark _)) (pss_one (ps_ret (pe_op op_fdiv (pe_op op_add (pv 1) (pe_callB (call_max2 rfl) (by rfl) T.n_max (by decide +kernel) (pa_cons (pv 1) (pa_cons (pv 2) pa_nil)))) pe_int))) pss_nil)
    (pss_one (ps_ret (pe_op op_fdiv (pe_op op_add (pe_op op_add (pe_callB (call_min2 rfl) (by rfl) T.n_min (by decide +kernel) (pa_cons (pv 1) (pa_cons (pv 2) pa_nil))) (pv 2)) pe_int) pe_int)))),
    (ss_seq (ss_if (st_test (se_op2 s2_eq se_var se_int)) (ss_ret (se_op2 s2_div (se_op2 s2_add se_var (se_cb sn_max2 (sa_cons se_var (sa_cons se_var sa_nil)))) se_int)) ss_next)
    (ss_ret (se_op2 s2_div (se_op2 s2_add (se_op2 s2_add (se_cb sn_min2 (sa_cons se_var (sa_cons se_var sa_nil))) se_var) se_int) se_int)))⟩
theorem ok_law_low (T : Txt c mg A) : FnR P w c.K mg base (L2.CX P w) 6 A.law_low (spD c (D_law_low)) :=
  fn_ss (N := Nn_law_low) (ps := ["_law_web", "_law_row", "_law_stand"]) (s := dn_law_low) T.F_law_low sc_law_low (T.F_law_low.binds (ps := ["_law_web", "_law_row", "_law_stand"]) fun _ _ _ _ _ _ us hl => match us, hl with | [_, _, _], _ => rfl) fun cdv A_ outer sh H E' hr => ⟨(tRet (tCB (rMin c.K) (tCons (tLc (iList c.K (tOp (rIx c.K) (tOp (rIx c.K) (tVar 0) (tC (V.int 0))) (tVar 2))) (gName 3) tYes (tOp (rIx c.K) (tVar 1) (tVar 3)) [3]) tNil))),
    (pss_one (ps_ret (pe_callB (cr_min rfl) (by rfl) T.n_min (by decide +kernel) (pa_cons (pe_lc (own := [("_law_step", 3)]) (g := gName 3) (wi := (iList c.K (tOp (rIx c.K) (tOp (rIx c.K) (tVar 0) (tC (V.int 0))) (tVar 2)))) (tt := tYes) (te := (tOp (rIx c.K) (tVar 1) (tVar 3))) rfl sc_law_low.nd (pi_list (pe_ix ix_seq (pe_ix ix_seq (pv 0) pe_int (fun _ _ => rfl)) (pv 2) (fun _ _ => rfl))) (blkOk_by (N := Nn_law_low) (sc := defScope s_law_low) (by decide +kernel)) (fun _ _ _ _ _ => pg_name (i := 3) sc_law_low.nd rfl (by first | exact Or.inl rfl | exact Or.inr rfl)) (fun _ _ _ _ _ => pts_nil) (fun _ _ _ _ _ => (pe_ix ix_seq (pv 1) (pv 3) (fun _ _ => rfl)))) pa_nil)))),
    (ss_ret (se_cb sn_minL (sa_cons (se_new (sen_comp (si_list (se_op2 s2_ix (se_op2 s2_ix se_var se_int) se_var)) st_true (se_op2 s2_ix se_var se_var))) sa_nil)))⟩
theorem ok_law_high (T : Txt c mg A) : FnR P w c.K mg base (L2.CX P w) 6 A.law_high (spD c (D_law_high)) :=
  fn_ss (N := Nn_law_high) (ps := ["_law_web", "_law_row", "_law_stand"]) (s := dn_law_high) T.F_law_high sc_law_high (T.F_law_high.binds (ps := ["_law_web", "_law_row", "_law_stand"]) fun _ _ _ _ _ _ us hl => match us, hl with | [_, _, _], _ => rfl) fun cdv A_ outer sh H E' hr => ⟨(tRet (tCB (rMax c.K) (tCons (tLc (iList c.K (tOp (rIx c.K) (tOp (rIx c.K) (tVar 0) (tC (V.int 1))) (tVar 2))) (gName 3) tYes (tOp (rIx c.K) (tVar 1) (tVar 3)) [3]) tNil))),
    (pss_one (ps_ret (pe_callB (cr_max rfl) (by rfl) T.n_max (by decide +kernel) (pa_cons (pe_lc (own := [("_law_step", 3)]) (g := gName 3) (wi := (iList c.K (tOp (rIx c.K) (tOp (rIx c.K) (tVar 0) (tC (V.int 1))) (tVar 2)))) (tt := tYes) (te := (tOp (rIx c.K) (tVar 1) (tVar 3))) rfl sc_law_high.nd (pi_list (pe_ix ix_seq (pe_ix ix_seq (pv 0) pe_int (fun _ _ => rfl)) (pv 2) (fun _ _ => rfl))) (blkOk_by (N := Nn_law_high) (sc := defScope s_law_high) (by decide +kernel)) (fun _ _ _ _ _ => pg_name (i := 3) sc_law_high.nd rfl (by first | exact Or.inl rfl | exact Or.inr rfl)) (fun _ _ _ _ _ => pts_nil) (fun _ _ _ _ _ => (pe_ix ix_seq (pv 1) (pv 3) (fun _ _ => rfl)))) pa_nil)))),
    (ss_ret (se_cb sn_maxL (sa_cons (se_new (sen_comp (si_list (se_op2 s2_ix (se_op2 s2_ix se_var se_int) se_var)) st_true (se_op2 s2_ix se_var se_var))) sa_nil)))⟩
theorem ok_law_price (T : Txt c mg A) : FnR P w c.K mg base (L2.CX P w) 7 A.law_price (spD c (D_law_price)) :=
  fn_ss (N := Nn_law_price) (ps := ["_law_web", "_law_k", "_law_row", "_law_stand"]) (s := dn_law_price) T.F_law_price sc_law_price (T.F_law_price.binds (ps := ["_law_web", "_law_k", "_law_row", "_law_stand"]) fun _ _ _ _ _ _ us hl => match us, hl with | [_, _, _, _], _ => rfl) fun cdv A_ outer sh H E' hr => ⟨(tSeq (tIfS (tTest (tOp rEq (tCB (rLenS c.K) (tCons (tOp (rIx c.K) (tOp (rIx c.K) (tVar 0) (tC (V.int 0))) (tVar 3)) tNil)) (tC (V.int 0)))) (tRet (tOp (rI0 fun i j => V.int (i + j)) (tVar 1) (tC (V.int 1)))) tNext)
    (tRet (tCallS (spD c D_half_of) (fun _ => E') (tCons (tOp (rIx c.K) (tOp (rIx c.K) (tVar 0) (tC (V.int 2))) (tVar 3)) (tCons (tCallS (spD c D_law_low) (fun _ => E') (tCons (tVar 0) (tCons (tVar 2) (tCons (tVar 3) tNil)))) (tCons (tCallS (spD c D_law_high) (fun _ => E') (tCons (tVar 0) (tCons (tVar 2) (tCons (tVar 3) tNil)))) tNil)))))),
    (pss_cons (ps_if (pt_cmpR op_eq (pe_callB call_len_seq (by rfl) T.n_len (by decide +kernel) (pa_cons (pe_ix ix_seq (pe_ix ix_seq (pv 0) pe_int (fun _ _ => rfl)) (pv 3) (fun _ _ => rfl)) pa_nil)) pe_int (nomark _)) (pss_one (ps_ret (pe_op op_add (pv 1) pe_int))) pss_nil)
    (pss_one (ps_ret (pe_callRS (ok_law_half T) (hr.mono (by decide)) (by rfl) T.m_law_half T.F_law_half.kp (passE (takes_of rfl rfl rfl rfl)) (pa_cons (pe_ix ix_seq (pe_ix ix_seq (pv 0) pe_int (fun _ _ => rfl)) (pv 3) (fun _ _ => rfl)) (pa_cons (pe_callRS (ok_law_low T) (hr.mono (by decide)) (by rfl) T.m_law_low T.F_law_low.kp (passE (takes_of rfl rfl rfl rfl)) (pa_cons (pv 0) (pa_cons (pv 2) (pa_cons (pv 3) pa_nil)))) (pa_cons (pe_callRS (ok_law_high T) (hr.mono (by decide)) (by rfl) T.m_law_high T.F_law_high.kp (passE (takes_of rfl rfl rfl rfl)) (pa_cons (pv 0) (pa_cons (pv 2) (pa_cons (pv 3) pa_nil)))) pa_nil))))))),
    (ss_seq (ss_if (st_test (se_op2 s2_eq (se_cb sn_len (sa_cons (se_op2 s2_ix (se_op2 s2_ix se_var se_int) se_var) sa_nil)) se_int)) (ss_ret (se_op2 s2_add se_var se_int)) ss_next)
    (ss_ret (se_call (sa_cons (se_op2 s2_ix (se_op2 s2_ix se_var se_int) se_var) (sa_cons (se_call (sa_cons se_var (sa_cons se_var (sa_cons se_var sa_nil)))) (sa_cons (se_call (sa_cons se_var (sa_cons se_var (sa_cons se_var sa_nil)))) sa_nil))))))⟩
theorem ok_law_fall (T : Txt c mg A) : FnR P w c.K mg base (L2.CX P w) 8 A.law_fall (spD c (D_law_fall)) :=
  fn_ss (N := Nn_law_fall) (ps := ["_law_web", "_law_k", "_law_row"]) (s := dn_law_fall) T.F_law_fall sc_law_fall (T.F_law_fall.binds (ps := ["_law_web", "_law_k", "_law_row"]) fun _ _ _ _ _ _ us hl => match us, hl with | [_, _, _], _ => rfl) fun cdv A_ outer sh H E' hr => ⟨(tSeq (tAsg (tLc (iRng1 (tCons (tCB (rLenS c.K) (tCons (tVar 2) tNil)) tNil)) (gName 4) (tTest (tOp (rI0 fun i j => V.bl (decide (i < j))) (tOp (rIx c.K) (tVar 2) (tVar 4)) (tCallS (spD c D_due_at) (fun _ => L2.E0) (tCons (tOp (rIx c.K) (tOp (rIx c.K) (tVar 0) (tC (V.int 3))) (tVar 4)) (tCons (tVar 1) tNil))))) (tVar 4) [4]) (gName 3))
    (tSeq (tAsg (tLc (iList c.K (tVar 2)) (gName 4) tYes (tC (V.int 0)) [4]) (gName 5))
    (tSeq (tFor (iRng1 (tCons (tCB (rLenS c.K) (tCons (tVar 2) tNil)) tNil)) (gName 6) (tSeq (tAsg (tLc (iRng1 (tCons (tCB (rLenS c.K) (tCons (tVar 2) tNil)) tNil)) (gName 4) tYes (tOp (rI0 fun i j => V.int (i + j)) (tOp (rIx c.K) (tVar 2) (tVar 4)) (tCB rIntF (tCons (tOp (rIn c.K false) (tVar 4) (tVar 3)) tNil))) [4]) (gName 7))
    (tSeq (tAsg (tLc (iList c.K (tVar 3)) (gName 4) (tTest (tOp (rI0 fun i j => V.bl (decide (i ≤ j))) (tCallS (spD c D_law_price) (fun _ => L2.E0) (tCons (tVar 0) (tCons (tVar 1) (tCons (tVar 7) (tCons (tVar 4) tNil))))) (tOp (rIx c.K) (tVar 2) (tVar 4)))) (tVar 4) [4]) (gName 8))
    (tSeq (tFor (iList c.K (tVar 8)) (gName 4) (tAsg (tOp (rI0 fun i j => V.int (i + j)) (tVar 6) (tC (V.int 1))) (gSub (tVar 5) (tVar 4) rSetL)))
    (tAsg (tLc (iList c.K (tVar 3)) (gName 4) (tTest (tOp (rIn c.K true) (tVar 4) (tVar 8))) (tVar 4) [4]) (gName 3))))))
    (tRet (tLst (tCons (tVar 5) (tCons (tVar 3) tNil))))))),
    (pss_cons (ps_asg (pe_lc (own := [("_law_stand", 4)]) (g := gName 4) (wi := (iRng1 (tCons (tCB (rLenS c.K) (tCons (tVar 2) tNil)) tNil))) (tt := (tTest (tOp (rI0 fun i j => V.bl (decide (i < j))) (tOp (rIx c.K) (tVar 2) (tVar 4)) (tCallS (spD c D_due_at) (fun _ => L2.E0) (tCons (tOp (rIx c.K) (tOp (rIx c.K) (tVar 0) (tC (V.int 3))) (tVar 4)) (tCons (tVar 1) tNil)))))) (te := (tVar 4)) rfl sc_law_fall.nd (pi_range1 (by rfl) T.n_range (pa_cons (pe_callB call_len_seq (by rfl) T.n_len (by decide +kernel) (pa_cons (pv 2) pa_nil)) pa_nil)) (blkOk_by (N := Nn_law_fall) (sc := defScope s_law_fall) (by decide +kernel)) (fun _ _ _ _ _ => pg_name (i := 4) sc_law_fall.nd rfl (by first | exact Or.inl rfl | exact Or.inr rfl)) (fun _ _ _ _ _ => (pts_one (pt_cmpR op_lt (pe_ix ix_seq (pv 2) (pv 4) (fun _ _ => rfl)) (pe_callRS (ok_law_due_at T) (hr.mono (by decide)) (by rfl) T.m_law_due_at T.F_law_due_at.kp passNo (pa_cons (pe_ix ix_seq (pe_ix ix_seq (pv 0) pe_int (fun _ _ => rfl)) (pv 4) (fun _ _ => rfl)) (pa_cons (pv 1) pa_nil))) (nomark _)))) (fun _ _ _ _ _ => (pv 4))) (pg_name (i := 3) sc_law_fall.nd rfl (by first | exact Or.inl rfl | exact Or.inr rfl)))
    (pss_cons (ps_setLc (i := 5) (own := [("_law_stand", 4)]) (g := gName 4) (wi := (iList c.K (tVar 2))) (tt := tYes) (te := (tC (V.int 0))) rfl sc_law_fall.nd rfl rfl (sw_true rfl rfl rfl (by decide +kernel)) (pi_list (pv 2)) (blkOk_by (N := Nn_law_fall) (sc := defScope s_law_fall) (by decide +kernel)) (fun _ _ _ _ _ => pg_name (i := 4) sc_law_fall.nd rfl (by first | exact Or.inl rfl | exact Or.inr rfl)) (fun _ _ _ _ _ => pts_nil) (fun _ _ _ _ _ => pe_int))
    (pss_cons (ps_for (passes_of rfl) rfl (pi_range1 (by rfl) T.n_range (pa_cons (pe_callB call_len_seq (by rfl) T.n_len (by decide +kernel) (pa_cons (pv 2) pa_nil)) pa_nil)) (pg_name (i := 6) sc_law_fall.nd rfl (by first | exact Or.inl rfl | exact Or.inr rfl)) (pss_cons (ps_asg (pe_lc (own := [("_law_stand", 4)]) (g := gName 4) (wi := (iRng1 (tCons (tCB (rLenS c.K) (tCons (tVar 2) tNil)) tNil))) (tt := tYes) (te := (tOp (rI0 fun i j => V.int (i + j)) (tOp (rIx c.K) (tVar 2) (tVar 4)) (tCB rIntF (tCons (tOp (rIn c.K false) (tVar 4) (tVar 3)) tNil)))) rfl sc_law_fall.nd (pi_range1 (by rfl) T.n_range (pa_cons (pe_callB call_len_seq (by rfl) T.n_len (by decide +kernel) (pa_cons (pv 2) pa_nil)) pa_nil)) (blkOk_by (N := Nn_law_fall) (sc := defScope s_law_fall) (by decide +kernel)) (fun _ _ _ _ _ => pg_name (i := 4) sc_law_fall.nd rfl (by first | exact Or.inl rfl | exact Or.inr rfl)) (fun _ _ _ _ _ => pts_nil) (fun _ _ _ _ _ => (pe_op op_add (pe_ix ix_seq (pv 2) (pv 4) (fun _ _ => rfl)) (pe_callTy call_int1 (by rfl) T.n_int (by decide +kernel) (pa_cons (pe_cmpR op_in_seq (pv 4) (pv 3) rfl) pa_nil))))) (pg_name (i := 7) sc_law_fall.nd rfl (by first | exact Or.inl rfl | exact Or.inr rfl)))
    (pss_cons (ps_asg (pe_lc (own := [("_law_stand", 4)]) (g := gName 4) (wi := (iList c.K (tVar 3))) (tt := (tTest (tOp (rI0 fun i j => V.bl (decide (i ≤ j))) (tCallS (spD c D_law_price) (fun _ => L2.E0) (tCons (tVar 0) (tCons (tVar 1) (tCons (tVar 7) (tCons (tVar 4) tNil))))) (tOp (rIx c.K) (tVar 2) (tVar 4))))) (te := (tVar 4)) rfl sc_law_fall.nd (pi_list (pv 3)) (blkOk_by (N := Nn_law_fall) (sc := defScope s_law_fall) (by decide +kernel)) (fun _ _ _ _ _ => pg_name (i := 4) sc_law_fall.nd rfl (by first | exact Or.inl rfl | exact Or.inr rfl)) (fun _ _ _ _ _ => (pts_one (pt_cmpR op_le (pe_callRS (ok_law_price T) (hr.mono (by decide)) (by rfl) T.m_law_price T.F_law_price.kp passNo (pa_cons (pv 0) (pa_cons (pv 1) (pa_cons (pv 7) (pa_cons (pv 4) pa_nil))))) (pe_ix ix_seq (pv 2) (pv 4) (fun _ _ => rfl)) (nomark _)))) (fun _ _ _ _ _ => (pv 4))) (pg_name (i := 8) sc_law_fall.nd rfl (by first | exact Or.inl rfl | exact Or.inr rfl)))
    (pss_cons (ps_for (passes_of rfl) rfl (pi_list (pv 8)) (pg_name (i := 4) sc_law_fall.nd rfl (by first | exact Or.inl rfl | exact Or.inr rfl)) (pss_one (ps_asg (pe_op op_add (pv 6) pe_int) (pg_sub (pv 5) (pv 4) set_list))))
    (pss_one (ps_asg (pe_lc (own := [("_law_stand", 4)]) (g := gName 4) (wi := (iList c.K (tVar 3))) (tt := (tTest (tOp (rIn c.K true) (tVar 4) (tVar 8)))) (te := (tVar 4)) rfl sc_law_fall.nd (pi_list (pv 3)) (blkOk_by (N := Nn_law_fall) (sc := defScope s_law_fall) (by decide +kernel)) (fun _ _ _ _ _ => pg_name (i := 4) sc_law_fall.nd rfl (by first | exact Or.inl rfl | exact Or.inr rfl)) (fun _ _ _ _ _ => (pts_one (pt_cmpR op_notIn_seq (pv 4) (pv 8) rfl))) (fun _ _ _ _ _ => (pv 4))) (pg_name (i := 3) sc_law_fall.nd rfl (by first | exact Or.inl rfl | exact Or.inr rfl))))))))
    (pss_one (ps_ret (pe_lst (pa_cons (pv 5) (pa_cons (pv 3) pa_nil)))))))),
    (ss_seq (ss_asg (se_new (sen_comp (si_rng1 (sa_cons (se_cb sn_len (sa_cons se_var sa_nil)) sa_nil)) (st_test (se_op2 s2_lt (se_op2 s2_ix se_var se_var) (se_call (sa_cons (se_op2 s2_ix (se_op2 s2_ix se_var se_int) se_var) (sa_cons se_var sa_nil))))) se_var)) sg_name)
    (ss_seq (ss_own (sen_comp (si_list se_var) st_true se_int))
    (ss_seq (ss_for (si_rng1 (sa_cons (se_cb sn_len (sa_cons se_var sa_nil)) sa_nil)) sg_name (ss_seq (ss_asg (se_new (sen_comp (si_rng1 (sa_cons (se_cb sn_len (sa_cons se_var sa_nil)) sa_nil)) st_true (se_op2 s2_add (se_op2 s2_ix se_var se_var) (se_cb sn_int (sa_cons (se_op2 s2_in se_var se_var) sa_nil))))) sg_name)
    (ss_seq (ss_asg (se_new (sen_comp (si_list se_var) (st_test (se_op2 s2_le (se_call (sa_cons se_var (sa_cons se_var (sa_cons se_var (sa_cons se_var sa_nil))))) (se_op2 s2_ix se_var se_var))) se_var)) sg_name)
    (ss_seq (ss_for (si_list se_var) sg_name (ss_put (se_op2 s2_add se_var se_int) se_var))
    (ss_asg (se_new (sen_comp (si_list se_var) (st_test (se_op2 s2_in se_var se_var)) se_var)) sg_name)))))
    (ss_give (i := 5) (ss_ret (se_new (sen_lst (sa_cons se_var (sa_cons se_var sa_nil)))))))))⟩
theorem ok_law_true_row (T : Txt c mg A) : FnR P w c.K mg base (L2.CX P w) 9 A.law_true_row (spD c (D_law_true_row)) :=
  fn_ss (N := Nn_law_true_row) (ps := ["_law_web", "_law_k", "_law_row"]) (s := dn_law_true_row) T.F_law_true_row sc_law_true_row (T.F_law_true_row.binds (ps := ["_law_web", "_law_k", "_law_row"]) fun _ _ _ _ _ _ us hl => match us, hl with | [_, _, _], _ => rfl) fun cdv A_ outer sh H E' hr => ⟨(tSeq (tFor (iRng1 (tCons (tCB (rLenS c.K) (tCons (tVar 2) tNil)) tNil)) (gName 3) (tSeq (tIfS (tOr (tTest (tOp (rI0 fun i j => V.bl (decide (i < j))) (tOp (rIx c.K) (tVar 2) (tVar 3)) (tC (V.int 0)))) (tTest (tOp (rI0 fun i j => V.bl (decide (j < i))) (tOp (rIx c.K) (tVar 2) (tVar 3)) (tCallS (spD c D_due_at) (fun _ => E') (tCons (tOp (rIx c.K) (tOp (rIx c.K) (tVar 0) (tC (V.int 3))) (tVar 3)) (tCons (tVar 1) tNil)))))) (tRet (tC (V.bl false))) tNext)
    (tIfS (tTest (tOp (rI0 fun i j => V.bl (decide (j < i))) (tOp (rIx c.K) (tVar 2) (tVar 3)) (tCallS (spD c D_law_price) (fun _ => E') (tCons (tVar 0) (tCons (tVar 1) (tCons (tVar 2) (tCons (tVar 3) tNil))))))) (tRet (tC (V.bl false))) tNext)))
    (tRet (tOp rEq (tCB (rLenS c.K) (tCons (tOp (rIx c.K) (tCallS (spD c D_law_fall) (fun _ => E') (tCons (tVar 0) (tCons (tVar 1) (tCons (tVar 2) tNil)))) (tC (V.int 1))) tNil)) (tC (V.int 0))))),
    (pss_cons (ps_for (passes_of rfl) rfl (pi_range1 (by rfl) T.n_range (pa_cons (pe_callB call_len_seq (by rfl) T.n_len (by decide +kernel) (pa_cons (pv 2) pa_nil)) pa_nil)) (pg_name (i := 3) sc_law_true_row.nd rfl (by first | exact Or.inl rfl | exact Or.inr rfl)) (pss_cons (ps_if (PW.pt (pw_or (pt_cmpR op_lt (pe_ix ix_seq (pv 2) (pv 3) (fun _ _ => rfl)) pe_int (nomark _)) (pw_or1 (pt_cmpR op_gt (pe_ix ix_seq (pv 2) (pv 3) (fun _ _ => rfl)) (pe_callRS (ok_law_due_at T) (hr.mono (by decide)) (by rfl) T.m_law_due_at T.F_law_due_at.kp (passE (takes_of rfl rfl rfl rfl)) (pa_cons (pe_ix ix_seq (pe_ix ix_seq (pv 0) pe_int (fun _ _ => rfl)) (pv 3) (fun _ _ => rfl)) (pa_cons (pv 1) pa_nil))) (nomark _))))) (pss_one (ps_ret pe_bl)) pss_nil)
    (pss_one (ps_if (pt_cmpR op_gt (pe_ix ix_seq (pv 2) (pv 3) (fun _ _ => rfl)) (pe_callRS (ok_law_price T) (hr.mono (by decide)) (by rfl) T.m_law_price T.F_law_price.kp (passE (takes_of rfl rfl rfl rfl)) (pa_cons (pv 0) (pa_cons (pv 1) (pa_cons (pv 2) (pa_cons (pv 3) pa_nil))))) (nomark _)) (pss_one (ps_ret pe_bl)) pss_nil))))
    (pss_one (ps_ret (pe_cmpR op_eq (pe_callB call_len_seq (by rfl) T.n_len (by decide +kernel) (pa_cons (pe_ix ix_seq (pe_callRS (ok_law_fall T) (hr.mono (by decide)) (by rfl) T.m_law_fall T.F_law_fall.kp (passE (takes_of rfl rfl rfl rfl)) (pa_cons (pv 0) (pa_cons (pv 1) (pa_cons (pv 2) pa_nil)))) pe_int (fun _ _ => rfl)) pa_nil)) pe_int (nomark _))))),
    (ss_seq (ss_for (si_rng1 (sa_cons (se_cb sn_len (sa_cons se_var sa_nil)) sa_nil)) sg_name (ss_seq (ss_if (st_or (st_test (se_op2 s2_lt (se_op2 s2_ix se_var se_var) se_int)) (st_test (se_op2 s2_gt (se_op2 s2_ix se_var se_var) (se_call (sa_cons (se_op2 s2_ix (se_op2 s2_ix se_var se_int) se_var) (sa_cons se_var sa_nil)))))) (ss_ret se_bl) ss_next)
    (ss_if (st_test (se_op2 s2_gt (se_op2 s2_ix se_var se_var) (se_call (sa_cons se_var (sa_cons se_var (sa_cons se_var (sa_cons se_var sa_nil))))))) (ss_ret se_bl) ss_next)))
    (ss_ret (se_op2 s2_eq (se_cb sn_len (sa_cons (se_op2 s2_ix (se_call (sa_cons se_var (sa_cons se_var (sa_cons se_var sa_nil)))) se_int) sa_nil)) se_int)))⟩
theorem ok_law_line (T : Txt c mg A) : FnR P w c.K mg base (L2.CX P w) 6 A.law_line (spD c (D_law_line)) :=
  fn_ss (N := Nn_law_line) (ps := ["_law_n", "_law_mark"]) (s := dn_law_line) T.F_law_line sc_law_line (T.F_law_line.binds (ps := ["_law_n", "_law_mark"]) fun _ _ _ _ _ _ us hl => match us, hl with | [_, _], _ => rfl) fun cdv A_ outer sh H E' hr => ⟨(tSeq (tAsg (tLst (tCons (tLst tNil) tNil)) (gName 2))
    (tSeq (tFor (iRng2 (tCons (tC (V.int 1)) (tCons (tVar 0) tNil))) (gName 3) (tDrop (tBM c.K "list" rAppend (tVar 2) (tCons (tLst (tCons (tOp (rI0 fun i j => V.int (i - j)) (tVar 3) (tC (V.int 1))) (tCons (tOp (rI0 fun i j => V.int (i + j)) (tVar 3) (tC (V.int 1))) tNil))) tNil))))
    (tSeq (tDrop (tBM c.K "list" rAppend (tVar 2) (tCons (tLst tNil) tNil)))
    (tSeq (tAsg (tOp rCat (tLst (tCons (tTup (tCons (tC (V.str "chips")) (tCons (tC (V.int 0)) tNil))) tNil)) (tLc (iRng1 (tCons (tVar 0) tNil)) (gName 3) tYes (tC V.non) [3])) (gName 4))
    (tRet (tLst (tCons (tVar 2) (tCons (tLc (iList c.K (tVar 2)) (gName 5) tYes (tCB (rListF c.K) (tCons (tVar 5) tNil)) [5]) (tCons (tLc (iRng1 (tCons (tOp (rI0 fun i j => V.int (i + j)) (tVar 0) (tC (V.int 1))) tNil)) (gName 3) tYes (tVar 1) [3]) (tCons (tVar 4) tNil)))))))))),
    (pss_cons (ps_asg (pe_lst (pa_cons (pe_lst pa_nil) pa_nil)) (pg_name (i := 2) sc_law_line.nd rfl (by first | exact Or.inl rfl | exact Or.inr rfl)))
    (pss_cons (ps_for (passes_of rfl) rfl (pi_range2 (by rfl) T.n_range (pa_cons pe_int (pa_cons (pv 0) pa_nil))) (pg_name (i := 3) sc_law_line.nd rfl (by first | exact Or.inl rfl | exact Or.inr rfl)) (pss_one (ps_expr (pe_bm PySem.F.plainAttrs_list PySem.F.slot_list_append PySem.F.type_list_append mt_append (pv 2) (pa_cons (pe_lst (pa_cons (pe_op op_sub (pv 3) pe_int) (pa_cons (pe_op op_add (pv 3) pe_int) pa_nil))) pa_nil)))))
    (pss_cons (ps_expr (pe_bm PySem.F.plainAttrs_list PySem.F.slot_list_append PySem.F.type_list_append mt_append (pv 2) (pa_cons (pe_lst pa_nil) pa_nil)))
    (pss_cons (ps_asg (pe_op op_cat (pe_lst (pa_cons (pe_tup (pa_cons pe_str (pa_cons pe_int pa_nil))) pa_nil)) (pe_lc (own := [("_law_stand", 3)]) (g := gName 3) (wi := (iRng1 (tCons (tVar 0) tNil))) (tt := tYes) (te := (tC V.non)) rfl sc_law_line.nd (pi_range1 (by rfl) T.n_range (pa_cons (pv 0) pa_nil)) (blkOk_by (N := Nn_law_line) (sc := defScope s_law_line) (by decide +kernel)) (fun _ _ _ _ _ => pg_name (i := 3) sc_law_line.nd rfl (by first | exact Or.inl rfl | exact Or.inr rfl)) (fun _ _ _ _ _ => pts_nil) (fun _ _ _ _ _ => pe_non))) (pg_name (i := 4) sc_law_line.nd rfl (by first | exact Or.inl rfl | exact Or.inr rfl)))
    (pss_one (ps_ret (pe_lst (pa_cons (pv 2) (pa_cons (pe_lc (own := [("_law_lot", 5)]) (g := gName 5) (wi := (iList c.K (tVar 2))) (tt := tYes) (te := (tCB (rListF c.K) (tCons (tVar 5) tNil))) rfl sc_law_line.nd (pi_list (pv 2)) (blkOk_by (N := Nn_law_line) (sc := defScope s_law_line) (by decide +kernel)) (fun _ _ _ _ _ => pg_name (i := 5) sc_law_line.nd rfl (by first | exact Or.inl rfl | exact Or.inr rfl)) (fun _ _ _ _ _ => pts_nil) (fun _ _ _ _ _ => (pe_callTy call_list_of (by rfl) T.n_list (by decide +kernel) (pa_cons (pv 5) pa_nil)))) (pa_cons (pe_lc (own := [("_law_stand", 3)]) (g := gName 3) (wi := (iRng1 (tCons (tOp (rI0 fun i j => V.int (i + j)) (tVar 0) (tC (V.int 1))) tNil))) (tt := tYes) (te := (tVar 1)) rfl sc_law_line.nd (pi_range1 (by rfl) T.n_range (pa_cons (pe_op op_add (pv 0) pe_int) pa_nil)) (blkOk_by (N := Nn_law_line) (sc := defScope s_law_line) (by decide +kernel)) (fun _ _ _ _ _ => pg_name (i := 3) sc_law_line.nd rfl (by first | exact Or.inl rfl | exact Or.inr rfl)) (fun _ _ _ _ _ => pts_nil) (fun _ _ _ _ _ => (pv 1))) (pa_cons (pv 4) pa_nil))))))))))),
    (ss_seq (ss_own (sen_lst (sa_cons (se_new (sen_lst sa_nil)) sa_nil)))
    (ss_seq (ss_for (si_rng2 (sa_cons se_int (sa_cons se_var sa_nil))) sg_name (ss_append (se_new (sen_lst (sa_cons (se_op2 s2_sub se_var se_int) (sa_cons (se_op2 s2_add se_var se_int) sa_nil))))))
    (ss_seq (ss_append (se_new (sen_lst sa_nil)))
    (ss_seq (ss_asg (se_op2 s2_cat (se_new (sen_lst (sa_cons (se_tup (sa_cons se_str (sa_cons se_int sa_nil))) sa_nil))) (se_new (sen_comp (si_rng1 (sa_cons se_var sa_nil)) st_true se_non))) sg_name)
    (ss_give (i := 2) (ss_ret (se_new (sen_lst (sa_cons se_var (sa_cons (se_new (sen_comp (si_list se_var) st_true (se_new (sen_list (sa_cons se_var sa_nil))))) (sa_cons (se_new (sen_comp (si_rng1 (sa_cons (se_op2 s2_add se_var se_int) sa_nil)) st_true se_var)) (sa_cons se_var sa_nil))))))))))))⟩
theorem ok_law_distance (T : Txt c mg A) : FnR P w c.K mg base (L2.CX P w) 6 A.law_distance (spD c (D_law_distance)) :=
  fn_ss (N := Nn_law_distance) (ps := ["_law_n", "_law_mark", "_law_k", "_law_row"]) (s := dn_law_distance) T.F_law_distance sc_law_distance (T.F_law_distance.binds (ps := ["_law_n", "_law_mark", "_law_k", "_law_row"]) fun _ _ _ _ _ _ us hl => match us, hl with | [_, _, _, _], _ => rfl) fun cdv A_ outer sh H E' hr => ⟨(tSeq (tFor (iRng1 (tCons (tOp (rI0 fun i j => V.int (i + j)) (tVar 0) (tC (V.int 1))) tNil)) (gName 4) (tSeq (tAsg (tOp (rI0 fun i j => V.int (i - j)) (tOp (rI CMul fun i j => V.int (i * j)) (tVar 0) (tOp (rIx c.K) (tVar 3) (tVar 4))) (tOp (rI CMul fun i j => V.int (i * j)) (tVar 4) (tOp (rI0 fun i j => V.int (i + j)) (tVar 2) (tC (V.int 1))))) (gName 5))
    (tSeq (tIfS (tAnd (tTest (tOp rEq (tVar 1) (tC (V.int 1)))) (tOr (tTest (tOp (rI0 fun i j => V.bl (decide (j < i))) (tVar 5) (tC (V.int 0)))) (tTest (tOp (rI0 fun i j => V.bl (decide (i < j))) (tOp (rI CMul fun i j => V.int (i * j)) (tC (V.int 4)) (tVar 5)) (tOp (rI0 fun i j => V.int (i - j)) (tC (V.int 0)) (tOp (rI CMul fun i j => V.int (i * j)) (tVar 0) (tVar 0))))))) (tRet (tC (V.bl false))) tNext)
    (tIfS (tAnd (tTest (tOp rEq (tVar 1) (tC (V.int 2)))) (tOr (tTest (tOp (rI0 fun i j => V.bl (decide (i < j))) (tVar 5) (tC (V.int 0)))) (tTest (tOp (rI0 fun i j => V.bl (decide (j < i))) (tOp (rI CMul fun i j => V.int (i * j)) (tC (V.int 2)) (tVar 5)) (tOp (rI CMul fun i j => V.int (i * j)) (tOp (rI CMul fun i j => V.int (i * j)) (tVar 0) (tVar 4)) (tOp (rI0 fun i j => V.int (i - j)) (tVar 0) (tVar 4))))))) (tRet (tC (V.bl false))) tNext))))
    (tRet (tC (V.bl true)))),
    (pss_cons (ps_for (passes_of rfl) rfl (pi_range1 (by rfl) T.n_range (pa_cons (pe_op op_add (pv 0) pe_int) pa_nil)) (pg_name (i := 4) sc_law_distance.nd rfl (by first | exact Or.inl rfl | exact Or.inr rfl)) (pss_cons (ps_asg (pe_op op_sub (pe_op op_mul (pv 0) (pe_ix ix_seq (pv 3) (pv 4) (fun _ _ => rfl))) (pe_op op_mul (pv 4) (pe_op op_add (pv 2) pe_int))) (pg_name (i := 5) sc_law_distance.nd rfl (by first | exact Or.inl rfl | exact Or.inr rfl)))
    (pss_cons (ps_if (PW.pt (pw_and (pt_cmpR op_eq (pv 1) pe_int (nomark _)) (pw_and1 (PW.pt (pw_or (pt_cmpR op_gt (pv 5) pe_int (nomark _)) (pw_or1 (pt_cmpR op_lt (pe_op op_mul pe_int (pv 5)) (pe_op op_sub pe_int (pe_op op_mul (pv 0) (pv 0))) (nomark _)))))))) (pss_one (ps_ret pe_bl)) pss_nil)
    (pss_one (ps_if (PW.pt (pw_and (pt_cmpR op_eq (pv 1) pe_int (nomark _)) (pw_and1 (PW.pt (pw_or (pt_cmpR op_lt (pv 5) pe_int (nomark _)) (pw_or1 (pt_cmpR op_gt (pe_op op_mul pe_int (pv 5)) (pe_op op_mul (pe_op op_mul (pv 0) (pv 4)) (pe_op op_sub (pv 0) (pv 4))) (nomark _)))))))) (pss_one (ps_ret pe_bl)) pss_nil)))))
    (pss_one (ps_ret pe_bl))),
    (ss_seq (ss_for (si_rng1 (sa_cons (se_op2 s2_add se_var se_int) sa_nil)) sg_name (ss_seq (ss_asg (se_op2 s2_sub (se_op2 s2_mul se_var (se_op2 s2_ix se_var se_var)) (se_op2 s2_mul se_var (se_op2 s2_add se_var se_int))) sg_name)
    (ss_seq (ss_if (st_and (st_test (se_op2 s2_eq se_var se_int)) (st_or (st_test (se_op2 s2_gt se_var se_int)) (st_test (se_op2 s2_lt (se_op2 s2_mul se_int se_var) (se_op2 s2_sub se_int (se_op2 s2_mul se_var se_var)))))) (ss_ret se_bl) ss_next)
    (ss_if (st_and (st_test (se_op2 s2_eq se_var se_int)) (st_or (st_test (se_op2 s2_lt se_var se_int)) (st_test (se_op2 s2_gt (se_op2 s2_mul se_int se_var) (se_op2 s2_mul (se_op2 s2_mul se_var se_var) (se_op2 s2_sub se_var se_var)))))) (ss_ret se_bl) ss_next))))
    (ss_ret se_bl))⟩
theorem ok_law_numbers_right (T : Txt c mg A) : FnR P w c.K mg base (L2.CX P w) 13 A.law_numbers_right (spD c (D_law_numbers_right A.ca)) :=
  fn_ss (N := Nn_law_numbers_right) (ps := ["_law_n", "_law_mark", "_law_k"]) (s := dn_law_numbers_right A.ca) T.F_law_numbers_right sc_law_numbers_right (T.F_law_numbers_right.binds (ps := ["_law_n", "_law_mark", "_law_k"]) fun _ _ _ _ _ _ us hl => match us, hl with | [_, _, _], _ => rfl) fun cdv A_ outer sh H E' hr => ⟨(tSeq (tAsg (tLst tNil) (gName 3))
    (tSeq (tFor (iRng1 (tCons (tOp (rI0 fun i j => V.int (i + j)) (tVar 0) (tC (V.int 1))) tNil)) (gName 4) (tSeq (tAsg (tCallS (spD c D_row_number) (fun _ => E') (tCons (tVar 0) (tCons (tVar 1) (tCons (tVar 2) (tCons (tVar 4) tNil))))) (gName 5))
    (tSeq (tIfS (tNot (fun σ H Q => (tCallS (spD c D_is_integer) (fun _ => E') (tCons (tVar 5) tNil)) σ H fun x H' => ∃ k, TruV c.K x H' k ∧ Q k H')) (tRet (tC (V.bl false))) tNext)
    (tDrop (tBM c.K "list" rAppend (tVar 3) (tCons (tVar 5) tNil))))))
    (tSeq (tIfS (tOr (tNot (fun σ H Q => (tCallS (spD c D_law_true_row) (fun _ => E') (tCons (tCallS (spD c D_law_line) (fun _ => E') (tCons (tVar 0) (tCons (tVar 1) tNil))) (tCons (tVar 2) (tCons (tVar 3) tNil)))) σ H fun x H' => ∃ k, TruV c.K x H' k ∧ Q k H')) (tNot (fun σ H Q => (tCallS (spD c D_law_distance) (fun _ => E') (tCons (tVar 0) (tCons (tVar 1) (tCons (tVar 2) (tCons (tVar 3) tNil))))) σ H fun x H' => ∃ k, TruV c.K x H' k ∧ Q k H'))) (tRet (tC (V.bl false))) tNext)
    (tSeq (tIfS (tTest (tOp (rI0 fun i j => V.bl (decide (i ≤ j))) (tVar 2) (tC (V.int 20)))) (tSeq (tAsg (tCallS (spD c (D_number_row A.ca)) (fun _ => E') (tCons (ClX.tCMeth A.ca.Web (spD c (D_Web_line A.ca)) E' (tC (V.ref A.ca.Web)) (tCons (tVar 0) (tCons (tVar 1) tNil))) (tCons (tVar 2) tNil))) (gName 6))
    (tRet (tAndV (tCallS (spD c D_law_is_row) (fun _ => E') (tCons (tVar 6) (tCons (tOp (rI0 fun i j => V.int (i + j)) (tVar 0) (tC (V.int 1))) tNil))) (tOp (rEqD c.K) (tCB (rListF c.K) (tCons (tVar 6) tNil)) (tVar 3))))) tNext)
    (tRet (tC (V.bl true))))))),
    (pss_cons (ps_asg (pe_lst pa_nil) (pg_name (i := 3) sc_law_numbers_right.nd rfl (by first | exact Or.inl rfl | exact Or.inr rfl)))
    (pss_cons (ps_for (passes_of rfl) rfl (pi_range1 (by rfl) T.n_range (pa_cons (pe_op op_add (pv 0) pe_int) pa_nil)) (pg_name (i := 4) sc_law_numbers_right.nd rfl (by first | exact Or.inl rfl | exact Or.inr rfl)) (pss_cons (ps_asg (pe_callRS (ok_row_number T) (hr.mono (by decide)) (by rfl) T.m_row_number T.F_row_number.kp (passE (takes_of rfl rfl rfl rfl)) (pa_cons (pv 0) (pa_cons (pv 1) (pa_cons (pv 2) (pa_cons (pv 4) pa_nil))))) (pg_name (i := 5) sc_law_numbers_right.nd rfl (by first | exact Or.inl rfl | exact Or.inr rfl)))
    (pss_cons (ps_if (pt_not (pt_truth (pe_callRS (ok_law_whole T) (hr.mono (by decide)) (by rfl) T.m_law_whole T.F_law_whole.kp (passE (takes_of rfl rfl rfl rfl)) (pa_cons (pv 5) pa_nil)) (by intro _; rfl))) (pss_one (ps_ret pe_bl)) pss_nil)
    (pss_one (ps_expr (pe_bm PySem.F.plainAttrs_list PySem.F.slot_list_append PySem.F.type_list_append mt_append (pv 3) (pa_cons (pv 5) pa_nil)))))))
    (pss_cons (ps_if (PW.pt (pw_or (pt_not (pt_truth (pe_callRS (ok_law_true_row T) (hr.mono (by decide)) (by rfl) T.m_law_true_row T.F_law_true_row.kp (passE (takes_of rfl rfl rfl rfl)) (pa_cons (pe_callRS (ok_law_line T) (hr.mono (by decide)) (by rfl) T.m_law_line T.F_law_line.kp (passE (takes_of rfl rfl rfl rfl)) (pa_cons (pv 0) (pa_cons (pv 1) pa_nil))) (pa_cons (pv 2) (pa_cons (pv 3) pa_nil)))) (by intro _; rfl))) (pw_or1 (pt_not (pt_truth (pe_callRS (ok_law_distance T) (hr.mono (by decide)) (by rfl) T.m_law_distance T.F_law_distance.kp (passE (takes_of rfl rfl rfl rfl)) (pa_cons (pv 0) (pa_cons (pv 1) (pa_cons (pv 2) (pa_cons (pv 3) pa_nil))))) (by intro _; rfl)))))) (pss_one (ps_ret pe_bl)) pss_nil)
    (pss_cons (ps_if (pt_cmpR op_le (pv 2) pe_int (nomark _)) (pss_cons (ps_asg (pe_callRS (ok_number_row T) (hr.mono (by decide)) (by rfl) T.m_number_row T.F_number_row.kp (passE (takes_of rfl rfl rfl rfl)) (pa_cons (ClX.pe_cmeth (pe_glob (by rfl) T.m_Web rfl) T.cr_Web T.cm_Web_line (ok_Web_line T) (hr.mono (by decide)) (fun pins σ H s e s' I h => passE (takes_of rfl rfl rfl rfl) σ pins H s e s' I h) (pa_cons (pv 0) (pa_cons (pv 1) pa_nil))) (pa_cons (pv 2) pa_nil))) (pg_name (i := 6) sc_law_numbers_right.nd rfl (by first | exact Or.inl rfl | exact Or.inr rfl)))
    (pss_one (ps_ret (pe_and (pe_callRS (ok_law_is_row T) (hr.mono (by decide)) (by rfl) T.m_law_is_row T.F_law_is_row.kp (passE (takes_of rfl rfl rfl rfl)) (pa_cons (pv 6) (pa_cons (pe_op op_add (pv 0) pe_int) pa_nil))) (pe_one (pe_cmpR (op_eqD (hr.units)) (pe_callTy call_list_of (by rfl) T.n_list (by decide +kernel) (pa_cons (pv 6) pa_nil)) (pv 3) (nomark _))))))) pss_nil)
    (pss_one (ps_ret pe_bl)))))),
    (ss_seq (ss_own (sen_lst sa_nil))
    (ss_seq (ss_for (si_rng1 (sa_cons (se_op2 s2_add se_var se_int) sa_nil)) sg_name (ss_seq (ss_asg (se_call (sa_cons se_var (sa_cons se_var (sa_cons se_var (sa_cons se_var sa_nil))))) sg_name)
    (ss_seq (ss_if (st_not (st_tru (se_call (sa_cons se_var sa_nil)))) (ss_ret se_bl) ss_next)
    (ss_append se_var))))
    (ss_seq (ss_give (i := 3) (ss_if (st_or (st_not (st_tru (se_call (sa_cons (se_call (sa_cons se_var (sa_cons se_var sa_nil))) (sa_cons se_var (sa_cons se_var sa_nil)))))) (st_not (st_tru (se_call (sa_cons se_var (sa_cons se_var (sa_cons se_var (sa_cons se_var sa_nil)))))))) (ss_ret se_bl) ss_next))
    (ss_seq (ss_if (st_test (se_op2 s2_le se_var se_int)) (ss_seq (ss_asg (se_call (sa_cons (se_cmeth (sa_cons se_var (sa_cons se_var sa_nil))) (sa_cons se_var sa_nil))) sg_name)
    (ss_ret (se_and (se_call (sa_cons se_var (sa_cons (se_op2 s2_add se_var se_int) sa_nil))) (se_op2 s2_eqD (se_new (sen_list (sa_cons se_var sa_nil))) se_var)))) ss_next)
    (ss_ret se_bl)))))⟩
def tb_law_refusal (c : Cfg) (w : World) (A : Adr) (W : WX) : TS := (tDrop (tCallS (spD c D_row_number) (fun σ cls d H => W cls d σ H) (tCons (tVar 0) (tCons (tVar 1) (tCons (tVar 2) (tCons (tVar 3) tNil))))))
theorem se_tb_law_refusal (T : Txt c mg A) (W : WX) : SS c (fun σ cls d H => W cls d σ H) (tb_law_refusal c w A W) ((sdrop (mcall D_row_number (acons (mvar 0) (acons (mvar 1) (acons (mvar 2) (acons (mvar 3) anil))))))) := (ss_drop (se_call (sa_cons se_var (sa_cons se_var (sa_cons se_var (sa_cons se_var sa_nil))))))
theorem ok_law_refusal (T : Txt c mg A) : FnR P w c.K mg base (L2.CX P w) 6 A.law_refusal (spD c (D_law_refusal)) :=
  fn_ss (N := Nn_law_refusal) (ps := ["_law_n", "_law_mark", "_law_k", "_law_stand"]) (s := dn_law_refusal) T.F_law_refusal sc_law_refusal (T.F_law_refusal.binds (ps := ["_law_n", "_law_mark", "_law_k", "_law_stand"]) fun _ _ _ _ _ _ us hl => match us, hl with | [_, _, _, _], _ => rfl) fun cdv A_ outer sh H E' hr => ⟨(tSeq (tAsg (tC (V.str "none")) (gName 4))
    (tSeq (fun D σ H => tb_law_refusal c w A (wMany c.K (fun cls d σ H => (fun _ => E') σ cls d H) D [(Value.ref (c.ec 0), fun _ _ _ => (tAsg (tC (V.str "kind")) (gName 4))), (Value.ref (c.ec 1), fun _ _ _ => (tAsg (tC (V.str "number")) (gName 4))), (Value.ref (c.ec 3), fun _ _ _ => (tAsg (tC (V.str "much")) (gName 4))), (Value.ref A.x_PurseError, fun _ _ _ => (tAsg (tC (V.str "other")) (gName 4)))]) D σ H)
    (tRet (tVar 4)))),
    (pss_cons (ps_asg pe_str (pg_name (i := 4) sc_law_refusal.nd rfl (by first | exact Or.inl rfl | exact Or.inr rfl)))
    (pss_cons (ps_try_many (l := [(Value.ref (c.ec 0), fun _ _ _ => (tAsg (tC (V.str "kind")) (gName 4))), (Value.ref (c.ec 1), fun _ _ _ => (tAsg (tC (V.str "number")) (gName 4))), (Value.ref (c.ec 3), fun _ _ _ => (tAsg (tC (V.str "much")) (gName 4))), (Value.ref A.x_PurseError, fun _ _ _ => (tAsg (tC (V.str "other")) (gName 4)))]) (tb := tb_law_refusal c w A) rfl rfl (takes_of rfl rfl rfl rfl) (fun W pn xe tk _ => (pss_one (ps_expr (pe_callRS (ok_row_number T) (hr.mono (by decide)) (by rfl) T.m_row_number T.F_row_number.kp (fun σ => passAt tk σ) (pa_cons (pv 0) (pa_cons (pv 1) (pa_cons (pv 2) (pa_cons (pv 3) pa_nil)))))))) (HdsOk.cons (by exact ⟨rfl, by decide, .inl T.mE0⟩) (fun a oe cls d pn _ _ => (pss_one (ps_asg pe_str (pg_name (i := 4) sc_law_refusal.nd rfl (by first | exact Or.inl rfl | exact Or.inr rfl))))) (HdsOk.cons (by exact ⟨rfl, by decide, .inl T.mE1⟩) (fun a oe cls d pn _ _ => (pss_one (ps_asg pe_str (pg_name (i := 4) sc_law_refusal.nd rfl (by first | exact Or.inl rfl | exact Or.inr rfl))))) (HdsOk.cons (by exact ⟨rfl, by decide, .inl T.mE3⟩) (fun a oe cls d pn _ _ => (pss_one (ps_asg pe_str (pg_name (i := 4) sc_law_refusal.nd rfl (by first | exact Or.inl rfl | exact Or.inr rfl))))) (HdsOk.cons (by exact ⟨rfl, by decide, .inl T.mX_PurseError⟩) (fun a oe cls d pn _ _ => (pss_one (ps_asg pe_str (pg_name (i := 4) sc_law_refusal.nd rfl (by first | exact Or.inl rfl | exact Or.inr rfl))))) HdsOk.nil)))))
    (pss_one (ps_ret (pv 4))))),
    (ss_seq (ss_asg se_str sg_name)
    (ss_seq (ss_tryC (B := 4) (tb := tb_law_refusal c w A) T.apart (fun W => se_tb_law_refusal T W) (SuitesC.cons (by decide) (fun _ _ _ => (ss_asg se_str sg_name)) (SuitesC.cons (by decide) (fun _ _ _ => (ss_asg se_str sg_name)) (SuitesC.cons (by decide) (fun _ _ _ => (ss_asg se_str sg_name)) SuitesC.fin))))
    (ss_ret se_var)))⟩
theorem ok_law_refused (T : Txt c mg A) : FnR P w c.K mg base (L2.CX P w) 7 A.law_refused (spD c (D_law_refused_k50)) :=
  fn_ss (N := Nn_law_refused) (ps := ["_law_n", "_law_pot_here"]) (s := dn_law_refused_k50) T.F_law_refused sc_law_refused (T.F_law_refused.binds (ps := ["_law_n", "_law_pot_here"]) fun _ _ _ _ _ _ us hl => match us, hl with | [_, _], _ => rfl) fun cdv A_ outer sh H E' hr => ⟨(tSeq (tAsg (tOp (rI CDiv fun i j => V.int (i / j)) (tOp (rI CMul fun i j => V.int (i * j)) (tVar 0) (tOp (rI0 fun i j => V.int (i - j)) (tVar 0) (tC (V.int 1)))) (tC (V.int 2))) (gName 2))
    (tSeq (tAsg (tLst (tCons (tCallS (spD c D_law_refusal) (fun _ => E') (tCons (tC (V.int 0)) (tCons (tC (V.int 1)) (tCons (tC (V.int 5)) (tCons (tC (V.int 0)) tNil))))) (tCons (tCallS (spD c D_law_refusal) (fun _ => E') (tCons (tVar 0) (tCons (tC (V.int 3)) (tCons (tC (V.int 5)) (tCons (tC (V.int 0)) tNil))))) (tCons (tCallS (spD c D_law_refusal) (fun _ => E') (tCons (tVar 0) (tCons (tC (V.int 1)) (tCons (tUn (rU fun i => V.int (-i)) (tC (V.int 1))) (tCons (tC (V.int 0)) tNil))))) tNil)))) (gName 3))
    (tSeq (tDrop (tBM c.K "list" rAppend (tVar 3) (tCons (tCallS (spD c D_law_refusal) (fun _ => E') (tCons (tVar 0) (tCons (tC (V.int 1)) (tCons (tC (V.int 5)) (tCons (tOp (rI0 fun i j => V.int (i + j)) (tVar 0) (tC (V.int 1))) tNil))))) tNil)))
    (tSeq (tDrop (tBM c.K "list" rAppend (tVar 3) (tCons (tCallS (spD c D_law_refusal) (fun _ => E') (tCons (tVar 0) (tCons (tC (V.int 1)) (tCons (tC (V.int 5)) (tCons (tOp (rI0 fun i j => V.int (i - j)) (tUn (rU fun i => V.int (-i)) (tC (V.int 1))) (tCallS (spD c D_law_draw) (fun _ => E') (tCons (tVar 1) (tCons (tC (V.int 3)) tNil)))) tNil))))) tNil)))
    (tSeq (tDrop (tBM c.K "list" rAppend (tVar 3) (tCons (tCallS (spD c D_law_refusal) (fun _ => E') (tCons (tVar 0) (tCons (tC (V.bl true)) (tCons (tC (V.int 5)) (tCons (tC (V.int 0)) tNil))))) tNil)))
    (tSeq (tDrop (tBM c.K "list" rAppend (tVar 3) (tCons (tCallS (spD c D_law_refusal) (fun _ => E') (tCons (tC (V.int 41)) (tCons (tC (V.int 1)) (tCons (tC (V.int 5)) (tCons (tC (V.int 3)) tNil))))) tNil)))
    (tSeq (tDrop (tBM c.K "list" rAppend (tVar 3) (tCons (tCallS (spD c D_law_refusal) (fun _ => E') (tCons (tVar 0) (tCons (tC (V.int 1)) (tCons (tOp (rI0 fun i j => V.int (i + j)) (tOp (rI CPow fun i j => V.int (i ^ j.toNat)) (tC (V.int 10)) (tC (V.int 40))) (tC (V.int 1))) (tCons (tC (V.int 0)) tNil))))) tNil)))
    (tSeq (tDrop (tBM c.K "list" rAppend (tVar 3) (tCons (tCallS (spD c D_law_refusal) (fun _ => E') (tCons (tC (V.int 41)) (tCons (tC (V.int 2)) (tCons (tC (V.int 5)) (tCons (tC (V.int 3)) tNil))))) tNil)))
    (tSeq (tAsg (tLst (tCons (tC (V.str "number")) (tCons (tC (V.str "number")) (tCons (tC (V.str "number")) (tCons (tC (V.str "number")) (tCons (tC (V.str "number")) (tCons (tC (V.str "kind")) (tCons (tC (V.str "much")) (tCons (tC (V.str "much")) (tCons (tC (V.str "number")) tNil)))))))))) (gName 4))
    (tSeq (tIfS (tTest (tOp (rNeD c.K) (tVar 3) (tVar 4))) (tRet (tC (V.bl false))) tNext)
    (tSeq (tIfS (tAnd (tTest (tOp (rI0 fun i j => V.bl (decide (j ≤ i))) (tVar 2) (tC (V.int 2)))) (tTest (tOp rNe (tCallS (spD c D_law_refusal) (fun _ => E') (tCons (tVar 0) (tCons (tC (V.int 2)) (tCons (tOp (rI0 fun i j => V.int (i - j)) (tVar 2) (tC (V.int 2))) (tCons (tVar 0) tNil))))) (tC (V.str "number"))))) (tRet (tC (V.bl false))) tNext)
    (tRet (tOp rEq (tCallS (spD c D_law_refusal) (fun _ => E') (tCons (tVar 0) (tCons (tC (V.int 2)) (tCons (tCB rMax2F (tCons (tC (V.int 0)) (tCons (tOp (rI0 fun i j => V.int (i - j)) (tVar 2) (tC (V.int 1))) tNil))) (tCons (tVar 0) tNil))))) (tC (V.str "none"))))))))))))))),
    (pss_cons (ps_asg (pe_op op_fdiv (pe_op op_mul (pv 0) (pe_op op_sub (pv 0) pe_int)) pe_int) (pg_name (i := 2) sc_law_refused.nd rfl (by first | exact Or.inl rfl | exact Or.inr rfl)))
    (pss_cons (ps_asg (pe_lst (pa_cons (pe_callRS (ok_law_refusal T) (hr.mono (by decide)) (by rfl) T.m_law_refusal T.F_law_refusal.kp (passE (takes_of rfl rfl rfl rfl)) (pa_cons pe_int (pa_cons pe_int (pa_cons pe_int (pa_cons pe_int pa_nil))))) (pa_cons (pe_callRS (ok_law_refusal T) (hr.mono (by decide)) (by rfl) T.m_law_refusal T.F_law_refusal.kp (passE (takes_of rfl rfl rfl rfl)) (pa_cons (pv 0) (pa_cons pe_int (pa_cons pe_int (pa_cons pe_int pa_nil))))) (pa_cons (pe_callRS (ok_law_refusal T) (hr.mono (by decide)) (by rfl) T.m_law_refusal T.F_law_refusal.kp (passE (takes_of rfl rfl rfl rfl)) (pa_cons (pv 0) (pa_cons pe_int (pa_cons (pe_un un_neg pe_int) (pa_cons pe_int pa_nil))))) pa_nil)))) (pg_name (i := 3) sc_law_refused.nd rfl (by first | exact Or.inl rfl | exact Or.inr rfl)))
    (pss_cons (ps_expr (pe_bm PySem.F.plainAttrs_list PySem.F.slot_list_append PySem.F.type_list_append mt_append (pv 3) (pa_cons (pe_callRS (ok_law_refusal T) (hr.mono (by decide)) (by rfl) T.m_law_refusal T.F_law_refusal.kp (passE (takes_of rfl rfl rfl rfl)) (pa_cons (pv 0) (pa_cons pe_int (pa_cons pe_int (pa_cons (pe_op op_add (pv 0) pe_int) pa_nil))))) pa_nil)))
    (pss_cons (ps_expr (pe_bm PySem.F.plainAttrs_list PySem.F.slot_list_append PySem.F.type_list_append mt_append (pv 3) (pa_cons (pe_callRS (ok_law_refusal T) (hr.mono (by decide)) (by rfl) T.m_law_refusal T.F_law_refusal.kp (passE (takes_of rfl rfl rfl rfl)) (pa_cons (pv 0) (pa_cons pe_int (pa_cons pe_int (pa_cons (pe_op op_sub (pe_un un_neg pe_int) (pe_callRS (ok_law_draw T) (hr.mono (by decide)) (by rfl) T.m_law_draw T.F_law_draw.kp (passE (takes_of rfl rfl rfl rfl)) (pa_cons (pv 1) (pa_cons pe_int pa_nil)))) pa_nil))))) pa_nil)))
    (pss_cons (ps_expr (pe_bm PySem.F.plainAttrs_list PySem.F.slot_list_append PySem.F.type_list_append mt_append (pv 3) (pa_cons (pe_callRS (ok_law_refusal T) (hr.mono (by decide)) (by rfl) T.m_law_refusal T.F_law_refusal.kp (passE (takes_of rfl rfl rfl rfl)) (pa_cons (pv 0) (pa_cons pe_bl (pa_cons pe_int (pa_cons pe_int pa_nil))))) pa_nil)))
    (pss_cons (ps_expr (pe_bm PySem.F.plainAttrs_list PySem.F.slot_list_append PySem.F.type_list_append mt_append (pv 3) (pa_cons (pe_callRS (ok_law_refusal T) (hr.mono (by decide)) (by rfl) T.m_law_refusal T.F_law_refusal.kp (passE (takes_of rfl rfl rfl rfl)) (pa_cons pe_int (pa_cons pe_int (pa_cons pe_int (pa_cons pe_int pa_nil))))) pa_nil)))
    (pss_cons (ps_expr (pe_bm PySem.F.plainAttrs_list PySem.F.slot_list_append PySem.F.type_list_append mt_append (pv 3) (pa_cons (pe_callRS (ok_law_refusal T) (hr.mono (by decide)) (by rfl) T.m_law_refusal T.F_law_refusal.kp (passE (takes_of rfl rfl rfl rfl)) (pa_cons (pv 0) (pa_cons pe_int (pa_cons (pe_op op_add (pe_op op_pow pe_int pe_int) pe_int) (pa_cons pe_int pa_nil))))) pa_nil)))
    (pss_cons (ps_expr (pe_bm PySem.F.plainAttrs_list PySem.F.slot_list_append PySem.F.type_list_append mt_append (pv 3) (pa_cons (pe_callRS (ok_law_refusal T) (hr.mono (by decide)) (by rfl) T.m_law_refusal T.F_law_refusal.kp (passE (takes_of rfl rfl rfl rfl)) (pa_cons pe_int (pa_cons pe_int (pa_cons pe_int (pa_cons pe_int pa_nil))))) pa_nil)))
    (pss_cons (ps_asg (pe_lst (pa_cons pe_str (pa_cons pe_str (pa_cons pe_str (pa_cons pe_str (pa_cons pe_str (pa_cons pe_str (pa_cons pe_str (pa_cons pe_str (pa_cons pe_str pa_nil)))))))))) (pg_name (i := 4) sc_law_refused.nd rfl (by first | exact Or.inl rfl | exact Or.inr rfl)))
    (pss_cons (ps_if (pt_cmpR (op_neD (hr.units)) (pv 3) (pv 4) (nomark _)) (pss_one (ps_ret pe_bl)) pss_nil)
    (pss_cons (ps_if (PW.pt (pw_and (pt_cmpR op_ge (pv 2) pe_int (nomark _)) (pw_and1 (pt_cmpR op_ne (pe_callRS (ok_law_refusal T) (hr.mono (by decide)) (by rfl) T.m_law_refusal T.F_law_refusal.kp (passE (takes_of rfl rfl rfl rfl)) (pa_cons (pv 0) (pa_cons pe_int (pa_cons (pe_op op_sub (pv 2) pe_int) (pa_cons (pv 0) pa_nil))))) pe_str (nomark _))))) (pss_one (ps_ret pe_bl)) pss_nil)
    (pss_one (ps_ret (pe_cmpR op_eq (pe_callRS (ok_law_refusal T) (hr.mono (by decide)) (by rfl) T.m_law_refusal T.F_law_refusal.kp (passE (takes_of rfl rfl rfl rfl)) (pa_cons (pv 0) (pa_cons pe_int (pa_cons (pe_callB (call_max2 rfl) (by rfl) T.n_max (by decide +kernel) (pa_cons pe_int (pa_cons (pe_op op_sub (pv 2) pe_int) pa_nil))) (pa_cons (pv 0) pa_nil))))) pe_str (nomark _))))))))))))))),
    (ss_seq (ss_asg (se_op2 s2_div (se_op2 s2_mul se_var (se_op2 s2_sub se_var se_int)) se_int) sg_name)
    (ss_seq (ss_own (sen_lst (sa_cons (se_call (sa_cons se_int (sa_cons se_int (sa_cons se_int (sa_cons se_int sa_nil))))) (sa_cons (se_call (sa_cons se_var (sa_cons se_int (sa_cons se_int (sa_cons se_int sa_nil))))) (sa_cons (se_call (sa_cons se_var (sa_cons se_int (sa_cons (se_op1 s1_neg se_int) (sa_cons se_int sa_nil))))) sa_nil)))))
    (ss_seq (ss_append (se_call (sa_cons se_var (sa_cons se_int (sa_cons se_int (sa_cons (se_op2 s2_add se_var se_int) sa_nil))))))
    (ss_seq (ss_append (se_call (sa_cons se_var (sa_cons se_int (sa_cons se_int (sa_cons (se_op2 s2_sub (se_op1 s1_neg se_int) (se_call (sa_cons se_var (sa_cons se_int sa_nil)))) sa_nil))))))
    (ss_seq (ss_append (se_call (sa_cons se_var (sa_cons se_bl (sa_cons se_int (sa_cons se_int sa_nil))))))
    (ss_seq (ss_append (se_call (sa_cons se_int (sa_cons se_int (sa_cons se_int (sa_cons se_int sa_nil))))))
    (ss_seq (ss_append (se_call (sa_cons se_var (sa_cons se_int (sa_cons (se_op2 s2_add (se_op2 s2_pow se_int se_int) se_int) (sa_cons se_int sa_nil))))))
    (ss_seq (ss_append (se_call (sa_cons se_int (sa_cons se_int (sa_cons se_int (sa_cons se_int sa_nil))))))
    (ss_seq (ss_asg (se_new (sen_lst (sa_cons se_str (sa_cons se_str (sa_cons se_str (sa_cons se_str (sa_cons se_str (sa_cons se_str (sa_cons se_str (sa_cons se_str (sa_cons se_str sa_nil))))))))))) sg_name)
    (ss_seq (ss_give (i := 3) (ss_if (st_test (se_op2 s2_neS se_var se_var)) (ss_ret se_bl) ss_next))
    (ss_seq (ss_if (st_and (st_test (se_op2 s2_ge se_var se_int)) (st_test (se_op2 s2_ne (se_call (sa_cons se_var (sa_cons se_int (sa_cons (se_op2 s2_sub se_var se_int) (sa_cons se_var sa_nil))))) se_str))) (ss_ret se_bl) ss_next)
    (ss_ret (se_op2 s2_eq (se_call (sa_cons se_var (sa_cons se_int (sa_cons (se_cb sn_max2 (sa_cons se_int (sa_cons (se_op2 s2_sub se_var se_int) sa_nil))) (sa_cons se_var sa_nil))))) se_str)))))))))))))⟩
theorem rest_law (T : Txt c mg A) (f : Addr) (cdv : Value) (A_ : Around) (outer : List Env) (sh : Shared) (H : Hp) (E' : XK) (hr : Room 13 (A_.deeper (PyProof.Rows.envOfC "law" (defScope s_law) sh.heap.objs.size f cdv))) :
    ∃ t, PSs (cxOf (L2.CX P w) P w c.K mg base Nn_law "law" (defScope s_law) f cdv A_ outer sh H E') ((defBody s_law).drop 1) t ∧ SS c (fun _ => E') t (dn_law_k50 A.ca) :=
  ⟨(tSeq (tAsg (tOp (rI0 fun i j => V.int (i + j)) (tC (V.int 1)) (tCallS (spD c D_law_draw) (fun _ => E') (tCons (tVar 1) (tCons (tC (V.int 12)) tNil)))) (gName 2))
    (tSeq (tAsg (tOp (rI CDiv fun i j => V.int (i / j)) (tOp (rI CMul fun i j => V.int (i * j)) (tVar 2) (tOp (rI0 fun i j => V.int (i - j)) (tVar 2) (tC (V.int 1)))) (tC (V.int 2))) (gName 3))
    (tSeq (tFor (iRng2 (tCons (tC (V.int 1)) (tCons (tC (V.int 3)) tNil))) (gName 4) (tFor (iRng1 (tCons (tC (V.int 4)) tNil)) (gName 5) (tSeq (tAsg (tCallS (spD c D_law_draw) (fun _ => E') (tCons (tVar 1) (tCons (tC (V.int 30)) tNil))) (gName 6))
    (tSeq (tIfS (tTest (tOp rEq (tVar 5) (tC (V.int 1)))) (tAsg (tOp (rI0 fun i j => V.int (i + j)) (tVar 6) (tOp (rI CMul fun i j => V.int (i * j)) (tC (V.int 30)) (tCallS (spD c D_law_draw) (fun _ => E') (tCons (tVar 1) (tCons (tC (V.int 30)) tNil))))) (gName 6)) tNext)
    (tSeq (tIfS (tTest (tOp rEq (tVar 5) (tC (V.int 2)))) (tAsg (tOp (rI0 fun i j => V.int (i + j)) (tOp (rI0 fun i j => V.int (i + j)) (tOp (rI CMul fun i j => V.int (i * j)) (tOp (rI0 fun i j => V.int (i + j)) (tC (V.int 1)) (tVar 6)) (tOp (rI CPow fun i j => V.int (i ^ j.toNat)) (tC (V.int 10)) (tC (V.int 20)))) (tOp (rI CMul fun i j => V.int (i * j)) (tC (V.int 30)) (tCallS (spD c D_law_draw) (fun _ => E') (tCons (tVar 1) (tCons (tC (V.int 30)) tNil))))) (tCallS (spD c D_law_draw) (fun _ => E') (tCons (tVar 1) (tCons (tC (V.int 30)) tNil)))) (gName 6)) tNext)
    (tSeq (tIfS (tTest (tOp rEq (tVar 5) (tC (V.int 3)))) (tAsg (tC (V.int 0)) (gName 6)) tNext)
    (tSeq (tIfS (tTest (tOp rEq (tVar 4) (tC (V.int 2)))) (tAsg (tOp (rI0 fun i j => V.int (i + j)) (tVar 6) (tCB rMax2F (tCons (tC (V.int 0)) (tCons (tOp (rI0 fun i j => V.int (i - j)) (tVar 3) (tC (V.int 1))) tNil)))) (gName 6)) tNext)
    (tIfS (tNot (fun σ H Q => (tCallS (spD c (D_law_numbers_right A.ca)) (fun _ => E') (tCons (tVar 2) (tCons (tVar 4) (tCons (tVar 6) tNil)))) σ H fun x H' => ∃ k, TruV c.K x H' k ∧ Q k H')) (tRet (tC (V.bl false))) tNext))))))))
    (tRet (tCallS (spD c D_law_refused_k50) (fun _ => E') (tCons (tVar 2) (tCons (tVar 1) tNil))))))),
    (pss_cons (ps_asg (pe_op op_add pe_int (pe_callRS (ok_law_draw T) (hr.mono (by decide)) (by rfl) T.m_law_draw T.F_law_draw.kp (passE (takes_of rfl rfl rfl rfl)) (pa_cons (pv 1) (pa_cons pe_int pa_nil)))) (pg_name (i := 2) sc_law.nd rfl (by first | exact Or.inl rfl | exact Or.inr rfl)))
    (pss_cons (ps_asg (pe_op op_fdiv (pe_op op_mul (pv 2) (pe_op op_sub (pv 2) pe_int)) pe_int) (pg_name (i := 3) sc_law.nd rfl (by first | exact Or.inl rfl | exact Or.inr rfl)))
    (pss_cons (ps_for (passes_of rfl) rfl (pi_range2 (by rfl) T.n_range (pa_cons pe_int (pa_cons pe_int pa_nil))) (pg_name (i := 4) sc_law.nd rfl (by first | exact Or.inl rfl | exact Or.inr rfl)) (pss_one (ps_for (passes_of rfl) rfl (pi_range1 (by rfl) T.n_range (pa_cons pe_int pa_nil)) (pg_name (i := 5) sc_law.nd rfl (by first | exact Or.inl rfl | exact Or.inr rfl)) (pss_cons (ps_asg (pe_callRS (ok_law_draw T) (hr.mono (by decide)) (by rfl) T.m_law_draw T.F_law_draw.kp (passE (takes_of rfl rfl rfl rfl)) (pa_cons (pv 1) (pa_cons pe_int pa_nil))) (pg_name (i := 6) sc_law.nd rfl (by first | exact Or.inl rfl | exact Or.inr rfl)))
    (pss_cons (ps_if (pt_cmpR op_eq (pv 5) pe_int (nomark _)) (pss_one (ps_asg (pe_op op_add (pv 6) (pe_op op_mul pe_int (pe_callRS (ok_law_draw T) (hr.mono (by decide)) (by rfl) T.m_law_draw T.F_law_draw.kp (passE (takes_of rfl rfl rfl rfl)) (pa_cons (pv 1) (pa_cons pe_int pa_nil))))) (pg_name (i := 6) sc_law.nd rfl (by first | exact Or.inl rfl | exact Or.inr rfl)))) pss_nil)
    (pss_cons (ps_if (pt_cmpR op_eq (pv 5) pe_int (nomark _)) (pss_one (ps_asg (pe_op op_add (pe_op op_add (pe_op op_mul (pe_op op_add pe_int (pv 6)) (pe_op op_pow pe_int pe_int)) (pe_op op_mul pe_int (pe_callRS (ok_law_draw T) (hr.mono (by decide)) (by rfl) T.m_law_draw T.F_law_draw.kp (passE (takes_of rfl rfl rfl rfl)) (pa_cons (pv 1) (pa_cons pe_int pa_nil))))) (pe_callRS (ok_law_draw T) (hr.mono (by decide)) (by rfl) T.m_law_draw T.F_law_draw.kp (passE (takes_of rfl rfl rfl rfl)) (pa_cons (pv 1) (pa_cons pe_int pa_nil)))) (pg_name (i := 6) sc_law.nd rfl (by first | exact Or.inl rfl | exact Or.inr rfl)))) pss_nil)
    (pss_cons (ps_if (pt_cmpR op_eq (pv 5) pe_int (nomark _)) (pss_one (ps_asg pe_int (pg_name (i := 6) sc_law.nd rfl (by first | exact Or.inl rfl | exact Or.inr rfl)))) pss_nil)
    (pss_cons (ps_if (pt_cmpR op_eq (pv 4) pe_int (nomark _)) (pss_one (ps_asg (pe_op op_add (pv 6) (pe_callB (call_max2 rfl) (by rfl) T.n_max (by decide +kernel) (pa_cons pe_int (pa_cons (pe_op op_sub (pv 3) pe_int) pa_nil)))) (pg_name (i := 6) sc_law.nd rfl (by first | exact Or.inl rfl | exact Or.inr rfl)))) pss_nil)
    (pss_one (ps_if (pt_not (pt_truth (pe_callRS (ok_law_numbers_right T) (hr.mono (by decide)) (by rfl) T.m_law_numbers_right T.F_law_numbers_right.kp (passE (takes_of rfl rfl rfl rfl)) (pa_cons (pv 2) (pa_cons (pv 4) (pa_cons (pv 6) pa_nil)))) (by intro _; rfl))) (pss_one (ps_ret pe_bl)) pss_nil))))))))))
    (pss_one (ps_ret (pe_callRS (ok_law_refused T) (hr.mono (by decide)) (by rfl) T.m_law_refused T.F_law_refused.kp (passE (takes_of rfl rfl rfl rfl)) (pa_cons (pv 2) (pa_cons (pv 1) pa_nil)))))))),
    (ss_seq (ss_asg (se_op2 s2_add se_int (se_call (sa_cons se_var (sa_cons se_int sa_nil)))) sg_name)
    (ss_seq (ss_asg (se_op2 s2_div (se_op2 s2_mul se_var (se_op2 s2_sub se_var se_int)) se_int) sg_name)
    (ss_seq (ss_for (si_rng2 (sa_cons se_int (sa_cons se_int sa_nil))) sg_name (ss_for (si_rng1 (sa_cons se_int sa_nil)) sg_name (ss_seq (ss_asg (se_call (sa_cons se_var (sa_cons se_int sa_nil))) sg_name)
    (ss_seq (ss_if (st_test (se_op2 s2_eq se_var se_int)) (ss_asg (se_op2 s2_add se_var (se_op2 s2_mul se_int (se_call (sa_cons se_var (sa_cons se_int sa_nil))))) sg_name) ss_next)
    (ss_seq (ss_if (st_test (se_op2 s2_eq se_var se_int)) (ss_asg (se_op2 s2_add (se_op2 s2_add (se_op2 s2_mul (se_op2 s2_add se_int se_var) (se_op2 s2_pow se_int se_int)) (se_op2 s2_mul se_int (se_call (sa_cons se_var (sa_cons se_int sa_nil))))) (se_call (sa_cons se_var (sa_cons se_int sa_nil)))) sg_name) ss_next)
    (ss_seq (ss_if (st_test (se_op2 s2_eq se_var se_int)) (ss_asg se_int sg_name) ss_next)
    (ss_seq (ss_if (st_test (se_op2 s2_eq se_var se_int)) (ss_asg (se_op2 s2_add se_var (se_cb sn_max2 (sa_cons se_int (sa_cons (se_op2 s2_sub se_var se_int) sa_nil)))) sg_name) ss_next)
    (ss_if (st_not (st_tru (se_call (sa_cons se_var (sa_cons se_var (sa_cons se_var sa_nil)))))) (ss_ret se_bl) ss_next))))))))
    (ss_ret (se_call (sa_cons se_var (sa_cons se_var sa_nil)))))))⟩
end
end K50
namespace PL
open PySem L2 Den
noncomputable section
variable {c : Cfg} {P : Program} {w : World} {mg : Str → Option Value} {base : Heap}
abbrev qA (c : Cfg) : TS := (tIfS (tTest (tOp (rI0 fun i j => V.bl (decide (j < i))) (tVar 3) (tC (V.int 0)))) (tSeq (tDrop (tBM c.K "list" rAppend (tVar 1) (tCons (tOp (rI (fun _ j => 0 < j) fun i j => V.int (i % j)) (tCB rIntF (tCons (tVar 3) tNil)) (tC (V.int 30))) tNil)))
    (tAsg (tOp (rI CDiv fun i j => V.int (i / j)) (tVar 3) (tC (V.int 30))) (gName 3))) tNext)
abbrev qB (c : Cfg) : TS := (tSeq (tAsg (tOp (rI (fun _ j => 0 < j) fun i j => V.int (i % j)) (tCB rIntF (tCons (tOp (rI0 fun i j => V.int (i + j)) (tOp (rI0 fun i j => V.int (i + j)) (tOp (rI0 fun i j => V.int (i + j)) (tOp (rI CMul fun i j => V.int (i * j)) (tVar 6) (tVar 6)) (tOp (rI CMul fun i j => V.int (i * j)) (tVar 5) (tC (V.int 31337)))) (tOp (rI CMul fun i j => V.int (i * j)) (tVar 2) (tC (V.int 5)))) (tC (V.int 3))) tNil)) (tC (V.int 998244353))) (gName 6))
    (tDrop (tBM c.K "list" rAppend (tVar 1) (tCons (tVar 6) tNil))))
abbrev qTail (c : Cfg) : TS := (tIfS (tTest (tOp (rI0 fun i j => V.bl (decide (j ≤ i))) (tVar 3) (tOp (rI CPow fun i j => V.int (i ^ j.toNat)) (tC (V.int 10)) (tC (V.int 18))))) (tFor (iRng1 (tCons (tC (V.int 48)) tNil)) (gName 5) (qA c)) (tSeq (tAsg (tOp (rI (fun _ j => 0 < j) fun i j => V.int (i % j)) (tCB rIntF (tCons (tOp (rI0 fun i j => V.int (i + j)) (tOp (rI0 fun i j => V.int (i + j)) (tOp (rI CMul fun i j => V.int (i * j)) (tVar 3) (tC (V.int 7919))) (tOp (rI CMul fun i j => V.int (i * j)) (tVar 2) (tC (V.int 104729)))) (tVar 4)) tNil)) (tC (V.int 998244353))) (gName 6))
    (tFor (iRng1 (tCons (tC (V.int 5)) tNil)) (gName 5) (qB c))))
abbrev qPot (c : Cfg) : TS := (tSeq (tAsg (tLst tNil) (gName 1))
    (tSeq (tFor (iRng1 (tCons (tCB rMin2F (tCons (tCB (rLenS c.K) (tCons (tVar 0) tNil)) (tCons (tC (V.int 63)) tNil))) tNil)) (gName 2) (tSeq (tAsg (tCB rIntF (tCons (tOp (rIx c.K) (tVar 0) (tVar 2)) tNil)) (gName 3))
    (tSeq (tAsg (tC (V.int 11)) (gName 4))
    (tSeq (tIfS (tTest (tOp (rI0 fun i j => V.bl (decide (i < j))) (tVar 3) (tC (V.int 0)))) (tSeq (tAsg (tOp (rI0 fun i j => V.int (i - j)) (tC (V.int 0)) (tVar 3)) (gName 3))
    (tAsg (tC (V.int 503)) (gName 4))) tNext)
    (qTail c)))))
    (tSeq (tDrop (tBM0 c.K "list" rReverse (tVar 1)))
    (tRet (tVar 1)))))
/-- one turn of the pot's list at p -/
abbrev SP (a p : Addr) (i m sh : Int) (o5 o6 : Option V) : L2.St := [some (.ref a), some (.ref p), some (.int i), some (.int m), some (.int sh), o5, o6]
theorem tyList {K : PySem.W.Frag} {H : Hp} {p : Addr} {xs : List V} (h : H p = some (.lst xs)) : tyV K "list" (.ref p) H := .inl ⟨rfl, _, SqL.of h⟩
theorem small (n : Nat) (h : n < 16000000) : n < sizeLine := by
  show n < 2 ^ 24
  omega
theorem tail_ok (c : Cfg) (a p : Addr) (i m sh : Int) (hi0 : 0 ≤ i) (hi : i < 63) (o5 o6 : Option V) (H : Hp) (pot : List Int) (hl : pot.length < 10000) (hp : H p = some (.lst (pot.map V.int))) (De : Ends)
    (k : ∀ (pot' : List Int) (m' : Int) (o5' o6' : Option V) (H' : Hp), (∀ b, b ≠ p → H' b = H b) → H' p = some (.lst (pot'.map V.int)) → pot'.length ≤ pot.length + 48 → De.nx (SP a p i m' sh o5' o6') H') :
    qTail c De (SP a p i m sh o5 o6) H := by
  refine ⟨_, rfl, _, _, rfl, rfl, ⟨by decide, by decide, by decide⟩, _, _, rfl, rfl, _, rfl, ?_⟩
  refine ite2 (fun _ => ?_) (fun _ => ?_)
  · refine ⟨_, rfl, by decide, by decide, ?_⟩
    refine for_range (fun j σ H' => ∃ (pot' : List Int) (m' : Int) (o5' : Option V), σ = SP a p i m' sh o5' o6 ∧ (∀ b, b ≠ p → H' b = H b) ∧ H' p = some (.lst (pot'.map V.int)) ∧ pot'.length ≤ pot.length + j) ⟨pot, m, o5, rfl, fun _ _ => rfl, hp, Nat.le_refl _⟩ ?_ ?_
    · rintro j σ H' hj ⟨pot', m', o5', rfl, h1, h2, h3⟩
      refine ⟨_, rfl, _, _, rfl, rfl, _, rfl, ?_⟩
      refine ite2 (fun _ => ?_) (fun _ => ?_)
      · refine ⟨_, rfl, tyList h2, _, rfl, .inl ⟨_, rfl, _, _, rfl, rfl, (show (0 : Int) < 30 by decide), p, _, _, rfl, rfl, h2, small _ (by rw [List.length_map]; have : j < 48 := hj; omega), ?_⟩⟩
        refine ⟨_, rfl, _, _, rfl, rfl, ⟨by decide, by decide⟩, ?_⟩
        exact ⟨pot' ++ [m' % 30], m' / 30, _, rfl, fun b hb => (upd_ne hb).trans (h1 b hb), by rw [upd_same, List.map_append]; rfl, by rw [List.length_append]; show pot'.length + 1 ≤ _; omega⟩
      · exact ⟨pot', m', _, rfl, h1, h2, by omega⟩
    · rintro σ H' ⟨pot', m', o5', rfl, h1, h2, h3⟩
      exact k pot' m' o5' o6 H' h1 h2 h3
  · refine ⟨_, rfl, _, _, rfl, rfl, .inr ⟨by decide, by decide⟩, _, rfl, _, _, rfl, rfl, .inr ⟨by decide, by decide⟩, _, _, rfl, rfl, _, rfl, _, _, rfl, rfl, .inl ⟨_, rfl, _, _, rfl, rfl, (show (0 : Int) < 998244353 by decide), ?_⟩⟩
    refine ⟨_, rfl, by decide, by decide, ?_⟩
    refine for_range (fun j σ H' => ∃ (pot' : List Int) (x : Int) (o5' : Option V), σ = SP a p i m sh o5' (some (.int x)) ∧ 0 ≤ x ∧ x < 998244353 ∧ (∀ b, b ≠ p → H' b = H b) ∧ H' p = some (.lst (pot'.map V.int)) ∧ pot'.length ≤ pot.length + j) ⟨pot, _, o5, rfl, Int.emod_nonneg _ (by decide), Int.emod_lt_of_pos _ (by decide), fun _ _ => rfl, hp, Nat.le_refl _⟩ ?_ ?_
    · rintro j σ H' hj ⟨pot', x, o5', rfl, x0, x1, h1, h2, h3⟩
      refine ⟨_, rfl, _, rfl, _, _, rfl, rfl, .inl ⟨by omega, by omega⟩, _, rfl, _, _, rfl, rfl, .inr ⟨by decide, by decide⟩, _, _, rfl, rfl, _, rfl, _, _, rfl, rfl, .inr ⟨by decide, by decide⟩, _, _, rfl, rfl, _, _, rfl, rfl, .inl ⟨_, rfl, _, _, rfl, rfl, (show (0 : Int) < 998244353 by decide), ?_⟩⟩
      refine ⟨_, rfl, tyList h2, _, rfl, p, _, _, rfl, rfl, h2, small _ (by rw [List.length_map]; have : j < 5 := hj; omega), ?_⟩
      exact ⟨pot' ++ [_], _, _, rfl, Int.emod_nonneg _ (by decide), Int.emod_lt_of_pos _ (by decide), fun b hb => (upd_ne hb).trans (h1 b hb), by rw [upd_same, List.map_append]; rfl, by rw [List.length_append]; show pot'.length + 1 ≤ _; omega⟩
    · rintro σ H' ⟨pot', x, o5', rfl, x0, x1, h1, h2, h3⟩
      exact k pot' m o5' _ H' h1 h2 (by have : (5 : Int).toNat = 5 := rfl; omega)

/-- what the pot's maker promises: a fresh list of ints -/
def spPot (K : PySem.W.Frag) : Sp := fun vs H Q _ => ∃ (a : Addr) (ns : List Int), vs = [.ref a] ∧ SqL K H a (ns.map V.int) ∧ ns.length ≤ 63 ∧ ∀ (p : Addr) (pot : List Int) (H' : Hp), H' p = some (.lst (pot.map V.int)) → Q (.ref p) H'
theorem pot_run {a : Addr} {ns : List Int} {H : Hp} {Q : VK} (hS : SqL c.K H a (ns.map V.int)) (hl : ns.length ≤ 63) (k : ∀ (p : Addr) (pot : List Int) (H' : Hp), H' p = some (.lst (pot.map V.int)) → Q (.ref p) H') :
    qPot c { nx := fun _ H' => Q .non H', rt := Q } [some (.ref a), none, none, none, none, none, none] H := by
  refine ⟨Nat.zero_le _, fun p hp => ?_⟩
  have s0 : Same H (upd H p (.lst [])) := fun b o e => by
    rw [upd_ne (ne_of_none e hp)]
    exact e
  have hlen : (ns.map V.int).length = ns.length := List.length_map _
  refine ⟨_, rfl, a, ns.map V.int, rfl, .inl (s0.seq hS), _, _, rfl, _, rfl, ?_, ?_, ?_⟩
  · split <;> omega
  · split <;> omega
  refine for_range (fun j σ H' => ∃ (pot : List Int) (o2 o3 o4 o5 o6 : Option V), σ = [some (.ref a), some (.ref p), o2, o3, o4, o5, o6] ∧ Same H H' ∧ H' p = some (.lst (pot.map V.int)) ∧ pot.length ≤ 48 * j) ⟨[], _, _, _, _, _, rfl, s0, upd_same, Nat.le_refl _⟩ ?_ ?_
  · rintro j σ H' hj ⟨pot, o2, o3, o4, o5, o6, rfl, s1, h1, h2⟩
    have hj1 : j < ns.length := by
      rw [hlen] at hj
      split at hj <;> omega
    have hx : atI (ns.map V.int) (0 + (j : Int)) = some (V.int (ns[j]'hj1)) := by
      rw [Int.zero_add]
      refine atI_nat ?_
      rw [List.getElem?_map, List.getElem?_eq_getElem hj1]
      rfl
    have key : ∀ (m sh : Int) (De : Ends), De.nx = (fun σ H' => ∃ (pot : List Int) (o2 o3 o4 o5 o6 : Option V), σ = [some (.ref a), some (.ref p), o2, o3, o4, o5, o6] ∧ Same H H' ∧ H' p = some (.lst (pot.map V.int)) ∧ pot.length ≤ 48 * (j + 1)) → qTail c De (SP a p (0 + (j : Int)) m sh o5 o6) H' := fun m sh De eD => by
      refine tail_ok c a p (0 + (j : Int)) m sh (by omega) (by omega) o5 o6 H' pot (by omega) h1 _ fun pot' m' o5' o6' H2 g1 g2 g3 => ?_
      rw [eD]
      exact ⟨pot', _, _, _, _, _, rfl, fun b o e => by
        rw [g1 b (ne_of_none e hp)]
        exact s1 b o e, g2, by omega⟩
    refine ⟨_, rfl, _, rfl, .inl ⟨a, _, _, _, rfl, rfl, s1.seq hS, hx, .inl ⟨_, rfl, ?_⟩⟩⟩
    refine ⟨_, rfl, _, _, rfl, rfl, _, rfl, ?_⟩
    refine ite2 (fun _ => ?_) (fun _ => ?_)
    · refine ⟨_, rfl, _, _, rfl, rfl, ?_⟩
      exact key _ _ _ rfl
    · exact key _ _ _ rfl
  · rintro σ H' ⟨pot, o2, o3, o4, o5, o6, rfl, s1, h1, h2⟩
    refine ⟨_, rfl, tyList h1, p, _, rfl, rfl, h1, _, rfl, ?_⟩
    exact k p pot.reverse _ (by rw [upd_same, List.map_reverse])

end
end PL
namespace FX
open PySem L2 Den
variable {K : PySem.W.Frag}
end FX
namespace PL
open PySem L2 Den
def Lot (n : Int) (ss : List Int) : Prop := ss ≠ [] ∧ ss.length < 60 ∧ ∀ x ∈ ss, 0 ≤ x ∧ x < n
theorem scL_ints (ss : List Int) : scL (ss.map D.int) = some (ss.map V.int) := by
  induction ss with
  | nil => rfl
  | cons s ss ih => simp [scL, sc, ih]
def DueOk (d : Due) : Prop := ∀ b x, d = some (b, x) → 0 ≤ x ∧ x ≤ 4
end PL
namespace PL
open PySem L2 Den
def LotOk (n : Int) (ss : List Int) : Prop := ss.length < 60 ∧ ∀ x ∈ ss, 0 ≤ x ∧ x < n
end PL
namespace PL
open PySem L2 Den
theorem Lot.ok {n : Int} {ss : List Int} (h : Lot n ss) : LotOk n ss := h.2
end PL
namespace PL
open PySem L2 Den
structure Grown (n : Int) (k : Nat) (fs ss : List (List Int)) (ds : List Due) : Prop where
  lf : fs.length = k
  ls : ss.length = k
  ld : ds.length = k
  of : ∀ x ∈ fs, LotOk n x
  os : ∀ x ∈ ss, LotOk n x
  od : ∀ d ∈ ds, DueOk d
  bo : fs.map List.isEmpty = ss.map List.isEmpty
theorem Grown.more {n : Int} {k : Nat} {fs ss : List (List Int)} {ds : List Due} (G : Grown n k fs ss ds) {fl sl : List Int} {d : Due} (h1 : LotOk n fl) (h2 : LotOk n sl) (h3 : fl.isEmpty = sl.isEmpty) (h4 : DueOk d) : Grown n (k + 1) (fs ++ [fl]) (ss ++ [sl]) (ds ++ [d]) := by
  have ap : ∀ {α : Type} {P : α → Prop} {xs : List α} {a : α}, (∀ x ∈ xs, P x) → P a → ∀ x ∈ xs ++ [a], P x := fun h ha x hx => by
    rcases List.mem_append.mp hx with h' | h'
    · exact h x h'
    · rcases List.mem_singleton.mp h' with rfl
      exact ha
  exact ⟨by simp [G.lf], by simp [G.ls], by simp [G.ld], ap G.of h1, ap G.os h2, ap G.od h4, by simp [G.bo, h3]⟩
end PL
namespace PL
open PySem L2 Den
theorem denF_ev {n m : Nat} {s : MS} {ds : List D} {pot : S} (h : ds.length = n) : denF n m s ds pot = outR (s (locOf m ds) pot) := if_pos h
theorem sif_t {t : M Bool} {a b : MS} {l : Den.Loc} {p p' : S} (h : t l p = .ok true p') : sif t a b l p = a l p' := by rw [sif_ev, h]; rfl
theorem sif_f {t : M Bool} {a b : MS} {l : Den.Loc} {p p' : S} (h : t l p = .ok false p') : sif t a b l p = b l p' := by rw [sif_ev, h]; rfl
end PL
namespace PL
open PySem L2 Den
/-- the built web -/
def insW (A : CA) (wb : Wb) : D := .ins A.Web wnames (wfields wb)
theorem fld_ins {C : Addr} {f : Str} {ns : List Str} {ds : List D} : fFld C f (.ins C ns ds) = (ns.zip ds).lookup f := if_pos rfl
theorem lk_ne {f g : Str} {d : D} {l : List (Str × D)} (h : (f == g) = false) : ((g, d) :: l).lookup f = l.lookup f := by
  simp [List.lookup, h]
theorem lk_eq {f : Str} {d : D} {l : List (Str × D)} : ((f, d) :: l).lookup f = some d := by
  simp [List.lookup]
@[simp] theorem f_size (A : CA) (wb : Wb) : fFld A.Web "_size" (insW A wb) = some (.int wb.marks.length) := by
  unfold insW
  rw [fld_ins]
  exact lk_eq
@[simp] theorem f_first (A : CA) (wb : Wb) : fFld A.Web "_first" (insW A wb) = some (.tup (wb.first.map dS)) := by
  unfold insW
  rw [fld_ins]
  refine (lk_ne (by decide +kernel)).trans ?_
  exact lk_eq
@[simp] theorem f_second (A : CA) (wb : Wb) : fFld A.Web "_second" (insW A wb) = some (.tup (wb.second.map dS)) := by
  unfold insW
  rw [fld_ins]
  refine (lk_ne (by decide +kernel)).trans ?_
  refine (lk_ne (by decide +kernel)).trans ?_
  exact lk_eq
@[simp] theorem f_marks (A : CA) (wb : Wb) : fFld A.Web "_marks" (insW A wb) = some (.tup (wb.marks.map .int)) := by
  unfold insW
  rw [fld_ins]
  refine (lk_ne (by decide +kernel)).trans ?_
  refine (lk_ne (by decide +kernel)).trans ?_
  refine (lk_ne (by decide +kernel)).trans ?_
  exact lk_eq
@[simp] theorem isC_ins (A : CA) (wb : Wb) : fIsC A.Web [insW A wb, .cls A.Web] = some (.bl true) := by simp [fIsC, insW]
@[simp] theorem isC_lst (A : CA) (ds : List D) : fIsC A.Web [.lst ds, .cls A.Web] = some (.bl false) := by simp [fIsC, tyN]
theorem check_web_ok (A : CA) (wb : Wb) (p : S) : D_check_web A [insW A wb] p = .ok .non p := by
  simp [D_check_web, denF, dn_check_web, locOf, mvar]
def IsRow (rd : D) (r : List Int) : Prop := rd = dI r ∨ rd = .tup (r.map .int)
theorem IsRow.sq {rd : D} {r : List Int} (h : IsRow rd r) : seqOf rd = some (r.map .int) := by
  rcases h with rfl | rfl <;> rfl
def rowAt (r : List Int) (x : Int) : Int := r[x.toNat]?.getD 0
theorem row_at {r : List Int} {x : Int} (h0 : 0 ≤ x) (h1 : x < (r.length : Int)) : atI (r.map D.int) x = some (.int (rowAt r x)) := by
  have hx : x.toNat < r.length := by omega
  refine atI_nat' h0 ?_
  rw [List.getElem?_map, List.getElem?_eq_getElem hx]
  simp [rowAt, List.getElem?_eq_getElem hx]
/-- stand i of the web -/
structure Here (wb : Wb) (i : Int) (f s : List Int) (mk : Int) : Prop where
  h0 : 0 ≤ i
  h1 : i < (wb.marks.length : Int)
  hf : wb.first[i.toNat]? = some f
  hs : wb.second[i.toNat]? = some s
  hm : wb.marks[i.toNat]? = some mk
theorem here_ex {wb : Wb} (V : Valid wb) {i : Int} (h0 : 0 ≤ i) (h1 : i < (wb.marks.length : Int)) : ∃ f s mk, Here wb i f s mk := by
  have l1 := V.l1
  have l2 := V.l2
  exact ⟨wb.first[i.toNat]'(by omega), wb.second[i.toNat]'(by omega), wb.marks[i.toNat]'(by omega), h0, h1, List.getElem?_eq_getElem _, List.getElem?_eq_getElem _, List.getElem?_eq_getElem _⟩
section
variable {wb : Wb} {i : Int} {f s : List Int} {mk : Int}
theorem Here.f1 (h : Here wb i f s mk) : atI (wb.first.map dS) i = some (dS f) := atI_nat' h.h0 (by rw [List.getElem?_map, h.hf]; rfl)
theorem Here.s1 (h : Here wb i f s mk) : atI (wb.second.map dS) i = some (dS s) := atI_nat' h.h0 (by rw [List.getElem?_map, h.hs]; rfl)
theorem Here.m1 (h : Here wb i f s mk) : atI (wb.marks.map D.int) i = some (.int mk) := atI_nat' h.h0 (by rw [List.getElem?_map, h.hm]; rfl)
theorem Here.f2 (h : Here wb i f s mk) : atI (wb.first.map dI) i = some (dI f) := atI_nat' h.h0 (by rw [List.getElem?_map, h.hf]; rfl)
theorem Here.s2 (h : Here wb i f s mk) : atI (wb.second.map dI) i = some (dI s) := atI_nat' h.h0 (by rw [List.getElem?_map, h.hs]; rfl)
theorem Here.fin (h : Here wb i f s mk) (V : Valid wb) : ∀ x ∈ f, 0 ≤ x ∧ x < (wb.marks.length : Int) := (V.s1 f (List.mem_of_getElem? h.hf)).2
theorem Here.sin (h : Here wb i f s mk) (V : Valid wb) : ∀ x ∈ s, 0 ≤ x ∧ x < (wb.marks.length : Int) := (V.s2 s (List.mem_of_getElem? h.hs)).2
theorem Here.em (h : Here wb i f s mk) (V : Valid wb) : f.isEmpty = s.isEmpty := V.both _ _ _ h.hf h.hs
end
def IsLow (r ss : List Int) (v : Int) : Prop := (∃ x ∈ ss, rowAt r x = v) ∧ ∀ x ∈ ss, v ≤ rowAt r x
def IsHigh (r ss : List Int) (v : Int) : Prop := (∃ x ∈ ss, rowAt r x = v) ∧ ∀ x ∈ ss, rowAt r x ≤ v
theorem IsLow.uniq {r ss : List Int} {v w : Int} (h : IsLow r ss v) (g : IsLow r ss w) : v = w := by
  obtain ⟨⟨x, hx, ex⟩, h2⟩ := h
  obtain ⟨⟨y, hy, ey⟩, g2⟩ := g
  have := h2 y hy
  have := g2 x hx
  omega
theorem IsHigh.uniq {r ss : List Int} {v w : Int} (h : IsHigh r ss v) (g : IsHigh r ss w) : v = w := by
  obtain ⟨⟨x, hx, ex⟩, h2⟩ := h
  obtain ⟨⟨y, hy, ey⟩, g2⟩ := g
  have := h2 y hy
  have := g2 x hx
  omega
theorem minL_low {r ss : List Int} (h : ss ≠ []) : ∃ v, fMinL [.lst (ss.map fun x => .int (rowAt r x))] = some (.int v) ∧ IsLow r ss v := by
  cases ss with
  | nil => exact absurd rfl h
  | cons a t =>
    have e : intsOf ((a :: t).map fun x => D.int (rowAt r x)) = some ((a :: t).map (rowAt r)) := by
      rw [← intsOf_map ((a :: t).map (rowAt r)), List.map_map]; rfl
    refine ⟨minL (rowAt r a) (t.map (rowAt r)), ?_, ?_, ?_⟩
    · show (intsOf ((a :: t).map fun x => D.int (rowAt r x))).bind leastOf = _
      rw [e]; rfl
    · have := minL_mem (t.map (rowAt r)) (rowAt r a)
      rw [← List.map_cons] at this
      exact List.mem_map.mp this
    · intro x hx
      have := minL_le (t.map (rowAt r)) (rowAt r a)
      rcases List.mem_cons.mp hx with rfl | hx
      · exact this.1
      · exact this.2 _ (List.mem_map_of_mem hx)
theorem maxL_high {r ss : List Int} (h : ss ≠ []) : ∃ v, fMaxL [.lst (ss.map fun x => .int (rowAt r x))] = some (.int v) ∧ IsHigh r ss v := by
  cases ss with
  | nil => exact absurd rfl h
  | cons a t =>
    have e : intsOf ((a :: t).map fun x => D.int (rowAt r x)) = some ((a :: t).map (rowAt r)) := by
      rw [← intsOf_map ((a :: t).map (rowAt r)), List.map_map]; rfl
    refine ⟨maxL (rowAt r a) (t.map (rowAt r)), ?_, ?_, ?_⟩
    · show (intsOf ((a :: t).map fun x => D.int (rowAt r x))).bind mostOf = _
      rw [e]; rfl
    · have := maxL_mem (t.map (rowAt r)) (rowAt r a)
      rw [← List.map_cons] at this
      exact List.mem_map.mp this
    · intro x hx
      have := le_maxL (t.map (rowAt r)) (rowAt r a)
      rcases List.mem_cons.mp hx with rfl | hx
      · exact this.1
      · exact this.2 _ (List.mem_map_of_mem hx)
theorem IsLow.sort {r ss : List Int} {v : Int} (h : IsLow r (sortSet ss) v) : IsLow r ss v := ⟨h.1.imp fun x hx => ⟨mem_sortSet.mp hx.1, hx.2⟩, fun x hx => h.2 x (mem_sortSet.mpr hx)⟩
theorem IsHigh.sort {r ss : List Int} {v : Int} (h : IsHigh r (sortSet ss) v) : IsHigh r ss v := ⟨h.1.imp fun x hx => ⟨mem_sortSet.mp hx.1, hx.2⟩, fun x hx => h.2 x (mem_sortSet.mpr hx)⟩
theorem sortSet_ne {ss : List Int} (h : ss ≠ []) : sortSet ss ≠ [] := fun e => by
  cases ss with
  | nil => exact h rfl
  | cons a t =>
    have : a ∈ sortSet (a :: t) := mem_sortSet.mpr List.mem_cons_self
    rw [e] at this
    cases this
end PL
namespace PL
open PySem L2 Den
section
variable {wb : Wb} {i : Int} {f s : List Int} {mk : Int}
@[simp] theorem tupOf_dS' (ss : List Int) : tupOf (dS ss) = some ((sortSet ss).map .int) := rfl
def halfI (mk x y : Int) : Int := if mk = 1 then (x + (if y > x then y else x)) / 2 else ((if y < x then y else x) + y + 1) / 2
theorem half_of_ev (mk x y : Int) (p : S) : D_half_of [.int mk, .int x, .int y] p = .ok (.int (halfI mk x y)) p := by
  have d2 : ∀ z : Int, fDiv (.int z) (.int 2) = some (.int (z / 2)) := fun z => fDiv_int (by decide)
  by_cases h : mk = 1
  · simp [D_half_of, denF, dn_half_of, locOf, mvar, h, d2, halfI]
  · simp [D_half_of, denF, dn_half_of, locOf, mvar, h, d2, halfI]
end
end PL
namespace PL
open PySem L2 Den
theorem all_ints (r : List Int) : ∀ d ∈ r.map D.int, ∃ i, d = .int i := fun d h => by
  obtain ⟨i, _, rfl⟩ := List.mem_map.mp h
  exact ⟨i, rfl⟩
theorem whole1 (i : Int) (p : S) : D_check_whole [.int i] p = .ok .non p := check_whole_ok _ (all_ints [i]) (by simp) p
theorem whole2 (i j : Int) (p : S) : D_check_whole [.int i, .int j] p = .ok .non p := check_whole_ok _ (all_ints [i, j]) (by simp) p
section
variable (A : CA) (wb : Wb)
end
end PL
namespace PL
open PySem L2 Den
section
variable (A : CA) (wb : Wb)
variable {wb}
theorem loop_cons {tg : D → Den.Loc → Option Den.Loc} {body : MS} {d : D} {ds : List D} {l l1 l2 : Den.Loc} {p p2 : S} (h1 : tg d l = some l1) (h2 : body l1 p = .nx l2 p2) : loop tg body (d :: ds) l p = loop tg body ds l2 p2 := by
  conv => lhs; unfold loop
  rw [h1]
  simp only [h2]
theorem fPow_1040 : fPow (.int 10) (.int 40) = some (.int 10000000000000000000000000000000000000000) := by
  show (if (0 : Int) ≤ 40 ∧ (40 : Int).natAbs ≤ 1000000 ∧ (10 : Int).natAbs < 18446744073709551616 then some (D.int (10 ^ (40 : Int).toNat)) else none) = _
  rw [if_pos ⟨by decide, by decide, by decide⟩]
  rfl
end
end PL
namespace PL
open PySem L2 Den
section
variable (A : CA) {wb : Wb}
end
end PL
namespace PL
open PySem L2 Den
/-- what serves, told by the least and the greatest part -/
def Gd (mk x y P a q : Int) : Prop := if q < a ∨ (a = q ∧ mk = 1) then x ≤ P - a else y ≤ P + q
instance (mk x y P a q : Int) : Decidable (Gd mk x y P a q) := by unfold Gd; exact inferInstance
section
variable {wb : Wb} {i : Int} {f s : List Int} {mk : Int}
end
theorem half_moved (mk x y c : Int) : halfI mk (x + c) (y + c) = halfI mk x y + c := by
  unfold halfI
  split <;> split <;> split <;> omega
end PL
namespace PL
open PySem L2 Den
section
variable {wb : Wb} {i : Int} {f s : List Int} {mk : Int}
end
end PL
namespace PL
open PySem L2 Den
theorem pdL_ints (ns : List Int) : pdL (ns.map D.int) = some (ns.map .int) := by
  induction ns with
  | nil => rfl
  | cons n ns ih => simp [pdL, pd, ih]
section
variable (A : CA) {wb : Wb} {i : Int} {f s : List Int} {mk : Int}
/-- the shifted row -/
def moved (c : Int) (r : List Int) : List Int := r.map (· + c)
theorem moved_at (c : Int) (r : List Int) {z : Int} (h0 : 0 ≤ z) (h1 : z < (r.length : Int)) : rowAt (moved c r) z = rowAt r z + c := by
  have hz : z.toNat < r.length := by omega
  unfold rowAt moved
  rw [List.getElem?_map, List.getElem?_eq_getElem hz]
  rfl
theorem low_moved (V : Valid wb) (h : Here wb i f s mk) {r : List Int} (hl : r.length = wb.marks.length) (c : Int) {x y : Int} (h1 : IsLow r f x) (h2 : IsLow (moved c r) f y) : y = x + c := by
  have at' : ∀ z ∈ f, rowAt (moved c r) z = rowAt r z + c := fun z hz => by
    have := h.fin V z hz
    exact moved_at c r this.1 (by omega)
  obtain ⟨z, hz, ez⟩ := h1.1
  obtain ⟨u, hu, eu⟩ := h2.1
  have a1 := at' z hz
  have a2 := at' u hu
  have := h1.2 u hu
  have := h2.2 z hz
  omega
theorem high_moved (V : Valid wb) (h : Here wb i f s mk) {r : List Int} (hl : r.length = wb.marks.length) (c : Int) {x y : Int} (h1 : IsHigh r s x) (h2 : IsHigh (moved c r) s y) : y = x + c := by
  have at' : ∀ z ∈ s, rowAt (moved c r) z = rowAt r z + c := fun z hz => by
    have := h.sin V z hz
    exact moved_at c r this.1 (by omega)
  obtain ⟨z, hz, ez⟩ := h1.1
  obtain ⟨u, hu, eu⟩ := h2.1
  have a1 := at' z hz
  have a2 := at' u hu
  have := h1.2 u hu
  have := h2.2 z hz
  omega
end
end PL
namespace PL
open PySem L2 Den
abbrev dd (d : D) : Option L := some (.dat d)
def lowI (r ss : List Int) : Int := match ss.map (rowAt r) with
  | [] => 0
  | n :: ns => minL n ns
def highI (r ss : List Int) : Int := match ss.map (rowAt r) with
  | [] => 0
  | n :: ns => maxL n ns
theorem lowI_is {r ss : List Int} (h : ss ≠ []) : IsLow r ss (lowI r ss) := by
  unfold lowI
  cases ss with
  | nil => exact absurd rfl h
  | cons n ns =>
    obtain ⟨h1, h2⟩ := minL_le (ns.map (rowAt r)) (rowAt r n)
    have hm := minL_mem (ns.map (rowAt r)) (rowAt r n)
    refine ⟨?_, fun x hx => ?_⟩
    · rcases List.mem_cons.mp hm with e | e
      · exact ⟨n, List.mem_cons_self, e.symm⟩
      · obtain ⟨x, hx, e⟩ := List.mem_map.mp e
        exact ⟨x, List.mem_cons_of_mem _ hx, e⟩
    · rcases List.mem_cons.mp hx with rfl | hx
      · exact h1
      · exact h2 _ (List.mem_map_of_mem hx)
theorem highI_is {r ss : List Int} (h : ss ≠ []) : IsHigh r ss (highI r ss) := by
  unfold highI
  cases ss with
  | nil => exact absurd rfl h
  | cons n ns =>
    obtain ⟨h1, h2⟩ := le_maxL (ns.map (rowAt r)) (rowAt r n)
    have hm := maxL_mem (ns.map (rowAt r)) (rowAt r n)
    refine ⟨?_, fun x hx => ?_⟩
    · rcases List.mem_cons.mp hm with e | e
      · exact ⟨n, List.mem_cons_self, e.symm⟩
      · obtain ⟨x, hx, e⟩ := List.mem_map.mp e
        exact ⟨x, List.mem_cons_of_mem _ hx, e⟩
    · rcases List.mem_cons.mp hx with rfl | hx
      · exact h1
      · exact h2 _ (List.mem_map_of_mem hx)
/-- the least of a list -/
def IsLeast (S : List Int) (v : Int) : Prop := v ∈ S ∧ ∀ z ∈ S, v ≤ z
theorem IsLeast.uniq {S T : List Int} {v w : Int} (h : IsLeast S v) (g : IsLeast T w) (e : ∀ z, z ∈ S ↔ z ∈ T) : v = w := by
  have := h.2 w ((e w).mpr g.1)
  have := g.2 v ((e v).mp h.1)
  omega
section
variable {wb : Wb} {i : Int} {f s : List Int} {mk : Int} (A : CA)
theorem Here.ne (V : Valid wb) (h : Here wb i f s mk) (hne : f ≠ []) : s ≠ [] := fun e => by
  have := h.em V
  rw [e] at this
  cases f with
  | nil => exact hne rfl
  | cons => cases this
end
end PL
namespace PL
open PySem L2 Den
/-- all parts of the row are in 0 .. m -/
def Parts (r : List Int) (m : Int) : Prop := ∀ v ∈ r, 0 ≤ v ∧ v ≤ m
instance (r : List Int) (m : Int) : Decidable (Parts r m) := by unfold Parts; exact inferInstance
section
variable (A : CA) (wb : Wb)
/-- a right row and a right state -/
def RowState (wb : Wb) (k : Int) (r : List Int) (i P : Int) : Prop := 0 ≤ k ∧ (r.length : Int) = wb.marks.length ∧ Parts r (k + 1) ∧ (0 ≤ i ∧ i ≤ (wb.marks.length : Int) - 1) ∧ 0 ≤ P ∧ P ≤ k
instance (k : Int) (r : List Int) (i P : Int) : Decidable (RowState wb k r i P) := by unfold RowState; exact inferInstance
end
end PL
namespace PL
open PySem L2 Den
theorem rowAt_lt {wb : Wb} {i : Int} {f s : List Int} {mk : Int} (V : Valid wb) (h : Here wb i f s mk) {r : List Int} (hl : r.length = wb.marks.length) {z : Int} (hz : z ∈ f) : atI (r.map D.int) z = some (.int (rowAt r z)) := by
  have := h.fin V z hz
  exact row_at this.1 (by omega)
theorem rowAt_lt2 {wb : Wb} {i : Int} {f s : List Int} {mk : Int} (V : Valid wb) (h : Here wb i f s mk) {r : List Int} (hl : r.length = wb.marks.length) {z : Int} (hz : z ∈ s) : atI (r.map D.int) z = some (.int (rowAt r z)) := by
  have := h.sin V z hz
  exact row_at this.1 (by omega)
section
variable {wb : Wb} {i : Int} {f s : List Int} {mk : Int} (A : CA)
end
section
variable (A : CA)
end
section
variable {wb : Wb} {i : Int} {f s : List Int} {mk : Int}
theorem enc0 (wb : Wb) : atI (encW wb) 0 = some (.lst (wb.first.map dI)) := by simp [encW]
theorem enc1 (wb : Wb) : atI (encW wb) 1 = some (.lst (wb.second.map dI)) := by simp [encW]
theorem enc2 (wb : Wb) : atI (encW wb) 2 = some (dI wb.marks) := by simp [encW]
theorem enc3 (wb : Wb) : atI (encW wb) 3 = some (.lst (wb.dues.map dDue)) := by simp [encW]
theorem law_low_ev (V : Valid wb) (h : Here wb i f s mk) (hne : f ≠ []) {r : List Int} (hl : r.length = wb.marks.length) (p : S) : D_law_low [.lst (encW wb), dI r, .int i] p = .ok (.int (lowI r f)) p := by
  have hf60 := (V.s1 f (List.mem_of_getElem? h.hf)).1
  obtain ⟨v, e, hv⟩ := minL_low (r := r) hne
  have c1 : c_law_low_1 [dd (.lst (encW wb)), dd (dI r), dd (.int i), none] p = .ok (f.map fun z => .int (rowAt r z)) p := by
    unfold c_law_low_1
    rw [mcomp_ev (ds := f.map D.int) (p' := p) (by simp [mvar, enc0, h.f2]) (by rw [List.length_map]; omega)]
    exact comp_mapL (by simp) D.int (fun z => .int (rowAt r z)) fun z hz => by simp [mvar, rowAt_lt V h hl hz]
  unfold D_law_low
  rw [denF_ev (by rfl)]
  simp [dn_law_low, locOf, c1, e, hv.uniq (lowI_is hne)]
theorem law_high_ev (V : Valid wb) (h : Here wb i f s mk) (hne : s ≠ []) {r : List Int} (hl : r.length = wb.marks.length) (p : S) : D_law_high [.lst (encW wb), dI r, .int i] p = .ok (.int (highI r s)) p := by
  have hf60 := (V.s2 s (List.mem_of_getElem? h.hs)).1
  obtain ⟨v, e, hv⟩ := maxL_high (r := r) hne
  have c1 : c_law_high_1 [dd (.lst (encW wb)), dd (dI r), dd (.int i), none] p = .ok (s.map fun z => .int (rowAt r z)) p := by
    unfold c_law_high_1
    rw [mcomp_ev (ds := s.map D.int) (p' := p) (by simp [mvar, enc1, h.s2]) (by rw [List.length_map]; omega)]
    exact comp_mapL (by simp) D.int (fun z => .int (rowAt r z)) fun z hz => by simp [mvar, rowAt_lt2 V h hl hz]
  unfold D_law_high
  rw [denF_ev (by rfl)]
  simp [dn_law_high, locOf, c1, e, hv.uniq (highI_is hne)]
theorem law_price_ev (V : Valid wb) (h : Here wb i f s mk) (hne : f ≠ []) {r : List Int} (hl : r.length = wb.marks.length) (k : Int) (p : S) : D_law_price [.lst (encW wb), .int k, dI r, .int i] p = .ok (.int (halfI mk (lowI r f) (highI r s))) p := by
  have e1 := law_low_ev V h hne hl p
  have e2 := law_high_ev V h (h.ne V hne) hl p
  have hn0 : ((f.length : Int) = 0) = False := eq_false (by have := List.length_pos_iff.mpr hne; omega)
  have m2 : fIx (dI wb.marks) (.int i) = some (.int mk) := h.m1
  unfold D_law_price
  rw [denF_ev (by rfl)]
  have T1 : b_law_price_1 [dd (.lst (encW wb)), dd (.int k), dd (dI r), dd (.int i)] p = .nx [dd (.lst (encW wb)), dd (.int k), dd (dI r), dd (.int i)] p := by
    simp only [b_law_price_1, sif_ev, mtest_ev, op2_ev, opn_ev, acons_ev, anil_ev, mret_ev, mvar, List.getElem?_cons_succ, List.getElem?_cons_zero, bind_ok, fIx_lst, enc0, h.f2, mlift_some, fLen_dI, fEq_int, boolOf_bl, toO_ok, hn0, decide_false, Bool.false_eq_true, if_false, sskip_ev]
  show outR (dn_law_price [dd (.lst (encW wb)), dd (.int k), dd (dI r), dd (.int i)] p) = _
  unfold dn_law_price
  rw [seq_nx T1]
  simp only [b_law_price_2, sret_ev, mcall_ev, acons_ev, op2_ev, anil_ev, mret_ev, mvar, List.getElem?_cons_succ, List.getElem?_cons_zero, bind_ok, fIx_lst, enc2, mlift_some, m2, e1, e2, half_of_ev, toO_ok, outR_rt]
end
end PL
namespace PL
open PySem L2 Den
def dueI (d : Due) (k : Int) : Int := match d with
  | none => k + 1
  | some (true, x) => min x (k + 1)
  | some (false, x) => max 0 (k + 1 - x)
theorem fMax2_mx (a b : Int) : fMax2 [.int a, .int b] = some (.int (max a b)) := by
  show some (D.int (if b > a then b else a)) = _
  congr 2; omega
theorem fMin2_mn (a b : Int) : fMin2 [.int a, .int b] = some (.int (min a b)) := by
  show some (D.int (if b < a then b else a)) = _
  congr 2; omega
theorem strEq_less : fEq (.str "less") (.str "chips") = some (.bl false) := by rw [fEq_str]; rfl
theorem strEq_chips : fEq (.str "chips") (.str "chips") = some (.bl true) := by rw [fEq_str]; rfl
theorem due_at_ev (d : Due) (k : Int) (p : S) : D_due_at [dDue d, .int k] p = .ok (.int (dueI d k)) p := by
  rcases d with _ | ⟨_ | _, x⟩
  · simp [D_due_at, denF, dn_due_at, b_due_at_1, locOf, mvar, dDue, dueI]
  · simp [D_due_at, denF, dn_due_at, b_due_at_1, b_due_at_2, b_due_at_3, locOf, mvar, dDue, dueI, strEq_less, fMax2_mx, -fMax2_int]
  · simp [D_due_at, denF, dn_due_at, b_due_at_1, b_due_at_2, locOf, mvar, dDue, dueI, strEq_chips, fMin2_mn, -fMin2_int]
theorem one_or_two_ok {m : Int} (h : m = 1 ∨ m = 2) (p : S) : D_check_one_or_two [.int m] p = .ok .non p := by
  simp [D_check_one_or_two, denF, dn_check_one_or_two, locOf, mvar, mark_in m h]
theorem inV_no {m : Int} (h : ¬ (m = 1 ∨ m = 2)) : fInB true (.int m) (.tup [.int 1, .int 2]) = some (.bl true) := by
  show some (D.bl (!inV (V.int m) [V.int 1, V.int 2])) = _
  have e1 : ¬ m = 1 := fun z => h (.inl z)
  have e2 : ¬ m = 2 := fun z => h (.inr z)
  have e3 : ¬ 1 = m := fun z => e1 z.symm
  have e4 : ¬ 2 = m := fun z => e2 z.symm
  simp [inV, eqV, e3, e4]
theorem one_or_two_no {m : Int} (h : ¬ (m = 1 ∨ m = 2)) (p : S) : D_check_one_or_two [.int m] p = .err 1 p := by
  simp [D_check_one_or_two, denF, dn_check_one_or_two, locOf, mvar, inV_no h]
section
variable (A : CA) {wb : Wb}
@[simp] theorem f_dues : fFld A.Web "_dues" (insW A wb) = some (.tup (wb.dues.map dDue)) := by
  unfold insW
  rw [fld_ins]
  refine (lk_ne (by decide +kernel)).trans ?_
  refine (lk_ne (by decide +kernel)).trans ?_
  refine (lk_ne (by decide +kernel)).trans ?_
  refine (lk_ne (by decide +kernel)).trans ?_
  exact lk_eq
theorem dues_at_ev (V : Valid wb) (k : Int) (p : S) : D_dues_at A [insW A wb, .int k] p = .ok (.tup (wb.dues.map fun d => .int (dueI d k))) p := by
  have n2 := V.n2
  have l3 := V.l3
  have e : c_dues_at_1 A [dd (insW A wb), dd (.int k), none] p = .ok (wb.dues.map fun d => .int (dueI d k)) p := by
    unfold c_dues_at_1
    rw [mcomp_ev (ds := wb.dues.map dDue) (p' := p) (by simp [mvar]) (by rw [List.length_map]; omega)]
    exact comp_mapL (by simp) dDue (fun d => .int (dueI d k)) fun d _ => by simp [mvar, due_at_ev]
  simp [D_dues_at, denF, dn_dues_at, locOf, e]
/-- the price of a stand -/
def prI (wb : Wb) (k : Int) (r : List Int) (i : Nat) : Int := if (wb.first[i]?.getD []).isEmpty then k + 1 else halfI (wb.marks[i]?.getD 0) (lowI r (wb.first[i]?.getD [])) (highI r (wb.second[i]?.getD []))
/-- the next row -/
def nxI (wb : Wb) (k : Int) (r : List Int) : List Int := (List.range wb.marks.length).map fun i => min (dueI (wb.dues[i]?.getD none) k) (prI wb k r i)
theorem nxI_len (k : Int) (r : List Int) : (nxI wb k r).length = wb.marks.length := by simp [nxI]
theorem nxI_get (k : Int) (r : List Int) {i : Nat} (hi : i < wb.marks.length) : (nxI wb k r)[i]? = some (min (dueI (wb.dues[i]?.getD none) k) (prI wb k r i)) := by
  simp [nxI, hi]
theorem law_price_all (V : Valid wb) {r : List Int} (hl : r.length = wb.marks.length) (k : Int) {i : Nat} (hi : i < wb.marks.length) (p : S) : D_law_price [.lst (encW wb), .int k, dI r, .int i] p = .ok (.int (prI wb k r i)) p := by
  obtain ⟨f, s, mk, h⟩ := here_ex V (i := (i : Int)) (by omega) (by omega)
  have e1 := h.hf
  have e2 := h.hs
  have e3 := h.hm
  rw [Int.toNat_natCast] at e1 e2 e3
  unfold prI
  rw [e1, e2, e3]
  by_cases hne : f = []
  · subst hne
    have := h.f2
    simp [D_law_price, denF, dn_law_price, b_law_price_1, locOf, mvar, enc0, this]
  · rw [law_price_ev V h hne hl k p]
    have : f.isEmpty = false := by cases f with
      | nil => exact absurd rfl hne
      | cons => rfl
    simp [this]
end
end PL
namespace PL
open PySem L2 Den
theorem pow40 : fPow (.int 10) (.int 40) = some (.int 10000000000000000000000000000000000000000) := fPow_1040
section
variable (A : CA) {wb : Wb}
end
end PL
namespace PL
open PySem L2 Den
section
variable (A : CA) {wb : Wb} {i : Int} {f s : List Int} {mk : Int}
theorem low_mv (V : Valid wb) (h : Here wb i f s mk) (hne : f ≠ []) {r : List Int} (hl : r.length = wb.marks.length) (c : Int) : lowI (moved c r) f = lowI r f + c := low_moved V h hl c (lowI_is hne) (lowI_is hne)
theorem high_mv (V : Valid wb) (h : Here wb i f s mk) (hne : s ≠ []) {r : List Int} (hl : r.length = wb.marks.length) (c : Int) : highI (moved c r) s = highI r s + c := high_moved V h hl c (highI_is hne) (highI_is hne)
abbrev ST (A : CA) (wb : Wb) (k i c : Int) (r : List Int) (o6 o7 o8 o9 o10 o11 o12 : Option L) : Den.Loc := [dd (.lst (encW wb)), dd (insW A wb), dd (.int k), dd (dI r), dd (.int i), dd (.int c), o6, o7, o8, o9, o10, o11, o12]
end
end PL
namespace PL
open PySem L2 Den
section
variable {wb : Wb} {i : Int} {f s : List Int} {mk : Int} (A : CA)
/-- what outcome asks of its numbers -/
def OutOk (wb : Wb) (i P a b : Int) : Prop := (0 ≤ i ∧ i ≤ (wb.marks.length : Int) - 1) ∧ 0 ≤ P ∧ (0 ≤ a ∧ a ≤ P) ∧ 0 ≤ b
instance (i P a b : Int) : Decidable (OutOk wb i P a b) := by unfold OutOk; exact inferInstance
end
end PL
namespace PL
open PySem L2 Den
section
variable (A : CA) {wb : Wb} {i : Int} {f s : List Int} {mk : Int}
end
end PL
namespace PL
open PySem L2 Den
section
variable (A : CA) {wb : Wb} {i : Int} {f s : List Int} {mk : Int}
end
end PL
namespace PL
open PySem L2 Den
section
variable {wb : Wb} {i : Int} {f s : List Int} {mk : Int} (A : CA)
end
end PL
namespace PL
open PySem L2 Den
theorem is_row_ev (L : List Int) (n : Int) (p : S) : D_law_is_row [.tup (L.map D.int), .int n] p = .ok (.bl (decide ((L.length : Int) = n))) p := by
  obtain ⟨o', e⟩ := loop_env (i := 2) (body := L_law_is_row_2) (fun o => [dd (.tup (L.map D.int)), dd (.int n), o]) (p := p) (fun _ _ => rfl) (ds := L.map D.int) (fun d hd => by
    obtain ⟨v, _, rfl⟩ := List.mem_map.mp hd
    simp [L_law_is_row_2, mvar, is_integer_int]) none
  unfold D_law_is_row
  rw [denF_ev (by rfl)]
  by_cases h : (L.length : Int) = n
  · simp [dn_law_is_row, b_law_is_row_1, b_law_is_row_2, locOf, mvar, fIs1, tyN, isTy, h, e]
  · simp [dn_law_is_row, b_law_is_row_1, b_law_is_row_2, locOf, mvar, fIs1, tyN, isTy, h]
section
variable {wb : Wb} {i : Int} {f s : List Int} {mk : Int} (A : CA)
end
end PL
namespace PL
open PySem L2 Den
section
variable (A : CA) {wb : Wb}
end
end PL
namespace PL
open PySem L2 Den
def RowLe (r r' : List Int) : Prop := ∀ i : Nat, r[i]?.getD 0 ≤ r'[i]?.getD 0
theorem RowLe.at {r r' : List Int} (h : RowLe r r') (x : Int) : rowAt r x ≤ rowAt r' x := h x.toNat
theorem lowI_mono {r r' : List Int} (h : RowLe r r') (f : List Int) : lowI r f ≤ lowI r' f := by
  by_cases hf : f = []
  · subst hf; exact Int.le_refl _
  · obtain ⟨⟨x, hx, e⟩, _⟩ := lowI_is (r := r') hf
    rw [← e]
    exact Int.le_trans ((lowI_is hf).2 x hx) (h.at x)
theorem highI_mono {r r' : List Int} (h : RowLe r r') (f : List Int) : highI r f ≤ highI r' f := by
  by_cases hf : f = []
  · subst hf; exact Int.le_refl _
  · obtain ⟨⟨x, hx, e⟩, _⟩ := highI_is (r := r) hf
    rw [← e]
    exact Int.le_trans (h.at x) ((highI_is hf).2 x hx)
theorem halfI_mono {m x y x' y' : Int} (hx : x ≤ x') (hy : y ≤ y') : halfI m x y ≤ halfI m x' y' := by
  unfold halfI
  split
  · split <;> split <;> omega
  · split <;> split <;> omega
theorem prI_mono {r r' : List Int} (h : RowLe r r') (wb : Wb) (k : Int) (i : Nat) : prI wb k r i ≤ prI wb k r' i := by
  unfold prI
  split
  · exact Int.le_refl _
  · exact halfI_mono (lowI_mono h _) (highI_mono h _)
theorem nxI_getD (wb : Wb) (k : Int) (r : List Int) (i : Nat) : (nxI wb k r)[i]?.getD 0 = if i < wb.marks.length then min (dueI (wb.dues[i]?.getD none) k) (prI wb k r i) else 0 := by
  by_cases hi : i < wb.marks.length
  · rw [nxI_get k r hi, if_pos hi]; rfl
  · rw [if_neg hi, List.getElem?_eq_none (by rw [nxI_len]; omega)]; rfl
theorem nxI_mono {r r' : List Int} (h : RowLe r r') (wb : Wb) (k : Int) : RowLe (nxI wb k r) (nxI wb k r') := fun i => by
  rw [nxI_getD, nxI_getD]
  split
  · have := prI_mono h wb k i; omega
  · exact Int.le_refl _
theorem prI_add {wb : Wb} (V : Valid wb) (k : Int) {r : List Int} (hl : r.length = wb.marks.length) (c : Int) {i : Nat} (hi : i < wb.marks.length) : prI wb k (moved c r) i = if (wb.first[i]?.getD []).isEmpty then k + 1 else prI wb k r i + c := by
  obtain ⟨f, s, mk, h⟩ := here_ex V (i := (i : Int)) (by omega) (by omega)
  have e1 := h.hf
  have e2 := h.hs
  have e3 := h.hm
  rw [Int.toNat_natCast] at e1 e2 e3
  unfold prI
  rw [e1, e2, e3]
  simp only [Option.getD_some]
  by_cases hf : f = []
  · subst hf; rfl
  · have : f.isEmpty = false := by cases f with
      | nil => exact absurd rfl hf
      | cons => rfl
    rw [this]
    simp only [Bool.false_eq_true, if_false]
    rw [low_mv V h hf hl c, high_mv V h (h.ne V hf) hl c, half_moved]
theorem moved_len (c : Int) (r : List Int) : (moved c r).length = r.length := by unfold moved; rw [List.length_map]
end PL
namespace PL
open PySem L2 Den
theorem rngN {n : Nat} (h : n ≤ 1000) : rng1 [D.int (n : Int)] = some (rngD 0 n) := by
  have := rng1_int (n := (n : Int)) (by omega)
  rwa [Int.toNat_natCast] at this
section
variable (A : CA) {wb : Wb}
end
end PL
namespace PL
open PySem L2 Den
abbrev lI (r : List Int) : D := .lst (r.map .int)
abbrev tI (r : List Int) : D := .tup (r.map .int)
theorem eqvAll_dec : ∀ r s : List Int, PyData.eqvAll (r.map .int) (s.map .int) = decide (r = s)
  | [], [] => by simp [PyData.eqvAll]
  | [], _ :: _ => by simp [PyData.eqvAll]
  | _ :: _, [] => by simp [PyData.eqvAll]
  | n :: r, m :: s => by
    have h := eqvAll_dec r s
    simp only [List.map_cons, PyData.eqvAll, PyData.eqv, h]
    by_cases e : n = m <;> by_cases e2 : r = s <;> simp [e, e2]
theorem eqv_lI (r s : List Int) (neg : Bool) : fEqD neg (lI r) (lI s) = some (.bl (if neg then !decide (r = s) else decide (r = s))) := by
  have e : ∀ r : List Int, pd (lI r) = some (.list (r.map .int)) := fun r => by simp [pd, pdL_ints]
  unfold fEqD
  rw [e, e]
  dsimp only
  rw [if_pos (by simp only [PyData.depth, depth_ints]; omega)]
  simp [PyData.eqv, eqvAll_dec]
theorem eqv_tI (r s : List Int) (neg : Bool) : fEqD neg (tI r) (tI s) = some (.bl (if neg then !decide (r = s) else decide (r = s))) := by
  have e : ∀ r : List Int, pd (tI r) = some (.tuple (r.map .int)) := fun r => by simp [pd, pdL_ints]
  unfold fEqD
  rw [e, e]
  dsimp only
  rw [if_pos (by simp only [PyData.depth, depth_ints]; omega)]
  simp [PyData.eqv, eqvAll_dec]
@[simp] theorem eq_lI (r s : List Int) : fEqD false (lI r) (lI s) = some (.bl (decide (r = s))) := by rw [eqv_lI]; rfl
@[simp] theorem ne_lI (r s : List Int) : fEqD true (lI r) (lI s) = some (.bl (!decide (r = s))) := by rw [eqv_lI]; rfl
@[simp] theorem eq_tI (r s : List Int) : fEqD false (tI r) (tI s) = some (.bl (decide (r = s))) := by rw [eqv_tI]; rfl
@[simp] theorem ne_tI (r s : List Int) : fEqD true (tI r) (tI s) = some (.bl (!decide (r = s))) := by rw [eqv_tI]; rfl
theorem rowAt_nat (r : List Int) (i : Nat) : rowAt r (i : Int) = r[i]?.getD 0 := by simp [rowAt]
theorem atI_row {r : List Int} {i : Nat} (h : i < r.length) : atI (r.map D.int) (i : Int) = some (.int (r[i]?.getD 0)) := atI_nat (by rw [List.getElem?_map, List.getElem?_eq_getElem h]; rfl)
theorem sappend_ev {i : Nat} {a : M D} {l : Den.Loc} {p : S} {ds : List D} (h : l[i]? = some (some (.cell ds))) (hl : ds.length < 1000) : sappend i a l p = (a l p).toO l fun x p' => .nx (l.set i (some (.cell (ds ++ [x])))) p' := by
  unfold sappend
  rw [h]
  dsimp only
  rw [if_pos hl, sbind_ev]
end PL
namespace PL
open PySem L2 Den
theorem intsOf_is : ∀ {es : List D} {ns : List Int}, intsOf es = some ns → es = ns.map .int
  | [], ns, h => by cases h; rfl
  | .int i :: ds, ns, h => by
    unfold intsOf at h
    cases e : intsOf ds with
    | none => rw [e] at h; cases h
    | some ms =>
      rw [e] at h
      cases h
      rw [intsOf_is e]
      rfl
theorem asc_ext : ∀ {r s : List Int}, r.Pairwise (· < ·) → s.Pairwise (· < ·) → (∀ x, x ∈ r ↔ x ∈ s) → r = s
  | [], [], _, _, _ => rfl
  | [], b :: s, _, _, h => by have := (h b).mpr List.mem_cons_self; cases this
  | a :: r, [], _, _, h => by have := (h a).mp List.mem_cons_self; cases this
  | a :: r, b :: s, hr, hs, h => by
    cases hr with
    | cons hr1 hr2 =>
      cases hs with
      | cons hs1 hs2 =>
        have e : a = b := by
          rcases List.mem_cons.mp ((h a).mp List.mem_cons_self) with e | e
          · exact e
          · rcases List.mem_cons.mp ((h b).mpr List.mem_cons_self) with e2 | e2
            · exact e2.symm
            · have := hs1 a e; have := hr1 b e2; omega
        subst e
        rw [asc_ext hr2 hs2 fun x => ⟨fun hx => by
          rcases List.mem_cons.mp ((h x).mp (List.mem_cons_of_mem _ hx)) with e | e
          · have := hr1 x hx; omega
          · exact e, fun hx => by
          rcases List.mem_cons.mp ((h x).mpr (List.mem_cons_of_mem _ hx)) with e | e
          · have := hs1 x hx; omega
          · exact e⟩]
theorem sortSet_asc : ∀ ns : List Int, (sortSet ns).Pairwise (· < ·)
  | [] => .nil
  | n :: ns => by unfold sortSet; exact insS_srt (sortSet_asc ns)
def insV (A : CA) (ns : List Int) : D := .ins A.Verdict ["_faults"] [tI ns]
section
variable (A : CA)
theorem Verdict_ev {d : D} {ns : List Int} (hd : seqOf d = some (ns.map .int)) (h0 : ∀ n ∈ ns, 0 ≤ n) (hl : ns.length < 64) (p : S) : D_Verdict_init A [d] p = .ok (["_faults"], [tI (sortSet ns)]) p := by
  have e := whole_list_ok hd (all_ints ns) (by rw [List.length_map]; omega) p
  have hn : ¬ ∃ n ∈ ns, n < 0 := fun ⟨n, h, z⟩ => by have := h0 n h; omega
  unfold D_Verdict_init
  simp only [e, bind_ok, intsOf_map]
  rw [if_neg hn, if_pos hl]
theorem mmakeV {d : D} {ns : List Int} {a : M (List D)} {l : Den.Loc} {p p' : S} (ha : a l p = .ok [d] p') (hd : seqOf d = some (ns.map .int)) (h0 : ∀ n ∈ ns, 0 ≤ n) (hl : ns.length < 64) : mmake A.Verdict (D_Verdict_init A) a l p = .ok (insV A (sortSet ns)) p' := by
  unfold mmake
  rw [mbind_ok ha, Verdict_ev A hd h0 hl]
  rfl
@[simp] theorem f_faults (ns : List Int) : fFld A.Verdict "_faults" (insV A ns) = some (tI ns) := by
  unfold insV
  rw [fld_ins]
  exact lk_eq
@[simp] theorem it_faults (ns : List Int) : itOwn A.Verdict "_faults" (insV A ns) = some (ns.map .int) := by
  have e : ([(("_faults" : Str), tI ns)] : List (Str × D)).lookup ("_faults" : Str) = some (tI ns) := lk_eq
  show (if A.Verdict = A.Verdict then (([(("_faults" : Str), tI ns)] : List (Str × D)).lookup ("_faults" : Str)).bind tupOf else none) = _
  rw [if_pos rfl, e]
  rfl
@[simp] theorem isV (ns : List Int) : fIsC A.Verdict [insV A ns, .cls A.Verdict] = some (.bl true) := by
  show (if A.Verdict = A.Verdict then (if A.Verdict = A.Verdict then some (D.bl true) else none) else none) = _
  rw [if_pos rfl, if_pos rfl]
end
end PL
namespace PL
open PySem L2 Den
/-- rounds, until nothing changes -/
def fixI (g : List Int → List Int) : Nat → List Int → List Int
  | 0, r => r
  | n + 1, r => if g r = r then r else fixI g n (g r)
def sumI (r : List Int) : Int := r.sum
theorem sum_le : ∀ {r s : List Int}, r.length = s.length → RowLe r s → sumI r ≤ sumI s ∧ (r ≠ s → sumI r < sumI s)
  | [], [], _, _ => ⟨Int.le_refl _, fun h => absurd rfl h⟩
  | [], _ :: _, h, _ => by simp at h
  | _ :: _, [], h, _ => by simp at h
  | a :: r, b :: s, h, hle => by
    have h0 : a ≤ b := by simpa using hle 0
    have ih := sum_le (r := r) (s := s) (by simpa using h) fun i => by simpa using hle (i + 1)
    have e1 : sumI (a :: r) = a + sumI r := by simp [sumI]
    have e2 : sumI (b :: s) = b + sumI s := by simp [sumI]
    rw [e1, e2]
    refine ⟨by omega, fun hne => ?_⟩
    by_cases e : r = s
    · subst e
      have : a ≠ b := fun z => hne (by rw [z])
      omega
    · have := ih.2 e
      omega
theorem sum_nonneg : ∀ {r : List Int}, (∀ x ∈ r, 0 ≤ x) → 0 ≤ sumI r
  | [], _ => Int.le_refl _
  | a :: r, h => by
    have := sum_nonneg (r := r) fun x hx => h x (List.mem_cons_of_mem _ hx)
    have := h a List.mem_cons_self
    have e1 : sumI (a :: r) = a + sumI r := by simp [sumI]
    omega
theorem sum_most : ∀ {r : List Int} {K : Int}, (∀ x ∈ r, x ≤ K) → sumI r ≤ r.length * K
  | [], _, _ => by simp [sumI]
  | a :: r, K, h => by
    have h1 := sum_most (r := r) (K := K) fun x hx => h x (List.mem_cons_of_mem _ hx)
    have := h a List.mem_cons_self
    have e1 : sumI (a :: r) = a + sumI r := by simp [sumI]
    rw [e1, List.length_cons, show ((r.length + 1 : Nat) : Int) * K = r.length * K + K by rw [Int.natCast_add, Int.add_mul]; simp]
    omega
/-- what holds at the beginning and is kept holds at the end; if the rounds only fall, they come to rest -/
theorem fixI_inv {g : List Int → List Int} (I : List Int → Prop) (hI : ∀ r, I r → I (g r)) : ∀ (n : Nat) (r : List Int), I r → I (fixI g n r)
  | 0, _, h => h
  | n + 1, r, h => by
    unfold fixI
    split
    · exact h
    · exact fixI_inv I hI n _ (hI r h)
theorem fixI_rest {g : List Int → List Int} (I : List Int → Prop) (hI : ∀ r, I r → I (g r)) (hl : ∀ r, I r → (g r).length = r.length) (hd : ∀ r, I r → RowLe (g r) r) (h0 : ∀ r, I r → ∀ x ∈ r, 0 ≤ x) : ∀ (n : Nat) (r : List Int), I r → sumI r < n → g (fixI g n r) = fixI g n r
  | 0, r, h, hs => by
    have := sum_nonneg (h0 r h)
    omega
  | n + 1, r, h, hs => by
    unfold fixI
    by_cases e : g r = r
    · rw [if_pos e]; exact e
    · rw [if_neg e]
      have := (sum_le (hl r h) (hd r h)).2 e
      exact fixI_rest I hI hl hd h0 n _ (hI r h) (by omega)
def duesI (wb : Wb) (k : Int) : List Int := wb.dues.map fun d => dueI d k
def Lower (wb : Wb) (k : Int) (r : List Int) : Prop := r.length = wb.marks.length ∧ RowLe r (nxI wb k r)
theorem RowLe.refl (r : List Int) : RowLe r r := fun _ => Int.le_refl _
theorem RowLe.trans {r s t : List Int} (a : RowLe r s) (b : RowLe s t) : RowLe r t := fun i => Int.le_trans (a i) (b i)
theorem nxI_due (wb : Wb) (V : Valid wb) (k : Int) (r : List Int) : RowLe (nxI wb k r) (duesI wb k) := fun i => by
  rw [nxI_getD]
  have l3 := V.l3
  split
  · rename_i hi
    have hd : i < wb.dues.length := by omega
    have : (duesI wb k)[i]?.getD 0 = dueI (wb.dues[i]?.getD none) k := by simp [duesI, hd]
    rw [this]
    omega
  · have : (duesI wb k)[i]? = none := List.getElem?_eq_none (by simp [duesI]; omega)
    rw [this]; exact Int.le_refl _
/-- each row of the rounds from the dues on is above each lower row -/
theorem lower_below {wb : Wb} (V : Valid wb) {k : Int} {f : List Int} (hf : Lower wb k f) (n : Nat) : RowLe f (fixI (nxI wb k) n (duesI wb k)) :=
  fixI_inv (g := nxI wb k) (fun r => RowLe f r) (fun r h => hf.2.trans (nxI_mono h wb k)) n _ (hf.2.trans (nxI_due wb V k f))
theorem prI_nonneg {wb : Wb} {k : Int} (k0 : 0 ≤ k) {r : List Int} (h : ∀ x ∈ r, 0 ≤ x) (i : Nat) : 0 ≤ prI wb k r i := by
  have at0 : ∀ x : Int, 0 ≤ rowAt r x := fun x => by
    unfold rowAt
    cases e : r[x.toNat]? with
    | none => exact Int.le_refl _
    | some v => exact h v (List.mem_of_getElem? e)
  have hlo : ∀ ss, 0 ≤ lowI r ss := fun ss => by
    by_cases hs : ss = []
    · subst hs; exact Int.le_refl _
    · obtain ⟨⟨x, _, e⟩, _⟩ := lowI_is (r := r) hs
      rw [← e]; exact at0 x
  have hhi : ∀ ss, 0 ≤ highI r ss := fun ss => by
    by_cases hs : ss = []
    · subst hs; exact Int.le_refl _
    · obtain ⟨⟨x, _, e⟩, _⟩ := highI_is (r := r) hs
      rw [← e]; exact at0 x
  unfold prI
  split
  · omega
  · have a := hlo (wb.first[i]?.getD [])
    have b := hhi (wb.second[i]?.getD [])
    unfold halfI
    split <;> split <;> omega
theorem dueI_range {wb : Wb} (V : Valid wb) {k : Int} (k0 : 0 ≤ k) (i : Nat) : 0 ≤ dueI (wb.dues[i]?.getD none) k ∧ dueI (wb.dues[i]?.getD none) k ≤ k + 1 := by
  cases e : wb.dues[i]? with
  | none => simp [dueI]; omega
  | some d =>
    have := V.du d (List.mem_of_getElem? e)
    rcases d with _ | ⟨_ | _, x⟩
    · simp [dueI]; omega
    · have := this false x rfl
      simp only [Option.getD_some, dueI]; omega
    · have := this true x rfl
      simp only [Option.getD_some, dueI]; omega
theorem nxI_nonneg {wb : Wb} (V : Valid wb) {k : Int} (k0 : 0 ≤ k) {r : List Int} (h : ∀ x ∈ r, 0 ≤ x) : ∀ x ∈ nxI wb k r, 0 ≤ x := fun x hx => by
  obtain ⟨i, hi, rfl⟩ := List.mem_map.mp hx
  have := prI_nonneg (wb := wb) k0 h i
  have := dueI_range V k0 i
  omega
theorem mem_getD {r : List Int} {P : Int → Prop} (h : ∀ i : Nat, i < r.length → P (r[i]?.getD 0)) : ∀ x ∈ r, P x := fun x hx => by
  obtain ⟨i, hi⟩ := List.getElem?_of_mem hx
  have hl := (List.getElem?_eq_some_iff.mp hi).1
  have := h i hl
  rw [hi] at this
  exact this
theorem getD_mem {r : List Int} {P : Int → Prop} (h : ∀ x ∈ r, P x) {i : Nat} (hi : i < r.length) : P (r[i]?.getD 0) := by
  rw [List.getElem?_eq_getElem hi]
  exact h _ (List.getElem_mem hi)
/-- the stands at which a row is above its next row -/
def overI (wb : Wb) (k : Int) (r : List Int) : List Int := ((List.range r.length).filter fun i => decide ((nxI wb k r)[i]?.getD 0 < r[i]?.getD 0)).map fun i : Nat => (i : Int)
theorem asc_range (n : Nat) (b : Nat → Bool) : (((List.range n).filter b).map fun i : Nat => (i : Int)).Pairwise (· < ·) := by
  refine List.Pairwise.map _ (R := (· < ·)) (fun a b h => by omega) ?_
  exact List.Pairwise.filter _ List.pairwise_lt_range
theorem overI_nil {wb : Wb} {k : Int} {r : List Int} (hl : r.length = wb.marks.length) : overI wb k r = [] ↔ Lower wb k r := by
  constructor
  · intro h
    refine ⟨hl, fun i => ?_⟩
    by_cases hi : i < r.length
    · apply Classical.byContradiction
      intro c
      have : (i : Int) ∈ overI wb k r := List.mem_map.mpr ⟨i, List.mem_filter.mpr ⟨List.mem_range.mpr hi, by simpa using c⟩, rfl⟩
      rw [h] at this
      cases this
    · rw [List.getElem?_eq_none (by omega), List.getElem?_eq_none (by rw [nxI_len]; omega)]
      exact Int.le_refl _
  · intro h
    cases e : overI wb k r with
    | nil => rfl
    | cons a t =>
      have : a ∈ overI wb k r := by rw [e]; exact List.mem_cons_self
      obtain ⟨i, hi, _⟩ := List.mem_map.mp this
      have h1 := (List.mem_filter.mp hi).2
      have h2 := h.2 i
      have h3 := of_decide_eq_true h1
      omega
end PL
namespace PL
open PySem L2 Den
theorem cons_ne {w : Str} {v : Str} : fNe (.str w) (.str v) = some (.bl (!decide (w = v))) := by
  show (if scal (V.str w) (V.str v) = true then some (D.bl (!decide (V.str w = V.str v))) else none) = _
  simp [scal]
section
variable (A : CA) {wb : Wb}
def GoodRow (wb : Wb) (k : Int) (r : List Int) : Prop := ((r.length : Int) = wb.marks.length ∧ Parts r (k + 1)) ∧ overI wb k r = []
instance (wb : Wb) (k : Int) (r : List Int) : Decidable (GoodRow wb k r) := by unfold GoodRow; exact inferInstance
end
end PL
namespace PL
open PySem L2 Den
def numI (wb : Wb) (k : Int) : List Int := fixI (nxI wb k) (wb.marks.length * (k.toNat + 2) + 2) (duesI wb k)
theorem duesI_len {wb : Wb} (V : Valid wb) (k : Int) : (duesI wb k).length = wb.marks.length := by simp [duesI, V.l3]
theorem duesI_get {wb : Wb} (V : Valid wb) (k : Int) {i : Nat} (hi : i < wb.marks.length) : (duesI wb k)[i]?.getD 0 = dueI (wb.dues[i]?.getD none) k := by
  have : i < wb.dues.length := by rw [V.l3]; exact hi
  simp [duesI, this]
theorem duesI_parts {wb : Wb} (V : Valid wb) {k : Int} (k0 : 0 ≤ k) : Parts (duesI wb k) (k + 1) := mem_getD (P := fun v => 0 ≤ v ∧ v ≤ k + 1) fun i hi => by
  rw [duesI_len V] at hi
  rw [duesI_get V k hi]
  exact dueI_range V k0 i
structure Falls (wb : Wb) (k : Int) (r : List Int) : Prop where
  len : r.length = wb.marks.length
  parts : Parts r (k + 1)
  le : RowLe (nxI wb k r) r
theorem nxI_parts {wb : Wb} (V : Valid wb) {k : Int} (k0 : 0 ≤ k) {r : List Int} (h : ∀ x ∈ r, 0 ≤ x) : Parts (nxI wb k r) (k + 1) := fun x hx => ⟨nxI_nonneg V k0 h x hx, by
  obtain ⟨i, hi, rfl⟩ := List.mem_map.mp hx
  have := dueI_range V k0 i
  omega⟩
theorem falls_next {wb : Wb} (V : Valid wb) {k : Int} (k0 : 0 ≤ k) (r : List Int) (h : Falls wb k r) : Falls wb k (nxI wb k r) := ⟨nxI_len k r, nxI_parts V k0 fun x hx => (h.parts x hx).1, nxI_mono h.le wb k⟩
theorem falls_dues {wb : Wb} (V : Valid wb) {k : Int} (k0 : 0 ≤ k) : Falls wb k (duesI wb k) := ⟨duesI_len V k, duesI_parts V k0, nxI_due wb V k _⟩
theorem turns_many {wb : Wb} {k : Int} (k0 : 0 ≤ k) {r : List Int} (hl : r.length = wb.marks.length) (h : ∀ x ∈ r, x ≤ k + 1) : sumI r < ((wb.marks.length * (k.toNat + 2) + 2 : Nat) : Int) := by
  have h1 := sum_most h
  have h2 : ((wb.marks.length * (k.toNat + 2) + 2 : Nat) : Int) = (wb.marks.length : Int) * (k + 2) + 2 := by
    rw [Int.natCast_add, Int.natCast_mul, Int.natCast_add, Int.toNat_of_nonneg k0]; rfl
  rw [h2, show (wb.marks.length : Int) * (k + 2) = (wb.marks.length : Int) * (k + 1) + wb.marks.length by rw [show k + 2 = (k + 1) + 1 by omega, Int.mul_add (wb.marks.length : Int) (k + 1) 1]; omega]
  rw [hl] at h1
  omega
theorem numI_falls {wb : Wb} (V : Valid wb) {k : Int} (k0 : 0 ≤ k) : Falls wb k (numI wb k) := fixI_inv (g := nxI wb k) (Falls wb k) (falls_next V k0) _ _ (falls_dues V k0)
theorem numI_next {wb : Wb} (V : Valid wb) {k : Int} (k0 : 0 ≤ k) : nxI wb k (numI wb k) = numI wb k :=
  fixI_rest (g := nxI wb k) (Falls wb k) (falls_next V k0) (fun r h => by rw [nxI_len, h.len]) (fun r h => h.le) (fun r h x hx => (h.parts x hx).1) _ _ (falls_dues V k0)
    (turns_many k0 (duesI_len V k) fun x hx => (duesI_parts V k0 x hx).2)
theorem numI_lower {wb : Wb} (V : Valid wb) {k : Int} (k0 : 0 ≤ k) : Lower wb k (numI wb k) := ⟨(numI_falls V k0).len, by rw [numI_next V k0]; exact RowLe.refl _⟩
theorem numI_great {wb : Wb} (V : Valid wb) {k : Int} {f : List Int} (hf : Lower wb k f) : RowLe f (numI wb k) := lower_below V hf _
def upI (r : List Int) (b : Nat → Bool) : List Int := (List.range r.length).map fun i => r[i]?.getD 0 + if b i then 1 else 0
theorem upI_len (r : List Int) (b : Nat → Bool) : (upI r b).length = r.length := by simp [upI]
theorem upI_getD (r : List Int) (b : Nat → Bool) (i : Nat) : (upI r b)[i]?.getD 0 = if i < r.length then r[i]?.getD 0 + (if b i then 1 else 0) else 0 := by
  by_cases hi : i < r.length
  · simp [upI, hi]
  · rw [if_neg hi, List.getElem?_eq_none (by rw [upI_len]; omega)]; rfl
theorem upI_le (r : List Int) (b : Nat → Bool) : RowLe r (upI r b) := fun i => by
  rw [upI_getD]
  split
  · split <;> omega
  · rw [List.getElem?_eq_none (by omega)]; exact Int.le_refl _
theorem upI_congr {r : List Int} {b c : Nat → Bool} (h : ∀ i < r.length, b i = c i) : upI r b = upI r c := by
  unfold upI
  refine List.map_congr_left fun i hi => ?_
  rw [h i (List.mem_range.mp hi)]
/-- the stands at which a row with ranks is not upper -/
def lackB (wb : Wb) (k : Int) (g rk : List Int) (i : Nat) : Bool := if rk[i]?.getD 0 = 0 then decide (g[i]?.getD 0 < dueI (wb.dues[i]?.getD none) k) else decide (g[i]?.getD 0 < prI wb k (upI g fun j => decide (rk[i]?.getD 0 ≤ rk[j]?.getD 0)) i)
theorem fin_max : ∀ (n : Nat) (d : Nat → Int), 0 < n → ∃ i < n, ∀ j < n, d j ≤ d i
  | 0, _, h => absurd h (Nat.lt_irrefl 0)
  | 1, d, _ => ⟨0, Nat.one_pos, fun j hj => by rw [show j = 0 by omega]; exact Int.le_refl _⟩
  | n + 2, d, _ => by
    obtain ⟨i, hi, h⟩ := fin_max (n + 1) d (by omega)
    by_cases c : d i ≤ d (n + 1)
    · exact ⟨n + 1, by omega, fun j hj => by
        by_cases e : j = n + 1
        · rw [e]; exact Int.le_refl _
        · have := h j (by omega); omega⟩
    · exact ⟨i, by omega, fun j hj => by
        by_cases e : j = n + 1
        · rw [e]; omega
        · exact h j (by omega)⟩
/-- a lower row is nowhere above an upper row -/
theorem lower_upper {wb : Wb} (V : Valid wb) {k : Int} (k0 : 0 ≤ k) {f g rk : List Int} (hf : Lower wb k f) (hg : g.length = wb.marks.length) (hr : ∀ i : Nat, 0 ≤ rk[i]?.getD 0) (hu : ∀ i < g.length, lackB wb k g rk i = false) : RowLe f g := by
  have n1 := V.n1
  have hfl := hf.1
  -- the greatest difference, and of these stands the one of the least rank
  obtain ⟨i0, hi0, hm0⟩ := fin_max wb.marks.length (fun i => f[i]?.getD 0 - g[i]?.getD 0) (by omega)
  by_cases hd : f[i0]?.getD 0 - g[i0]?.getD 0 ≤ 0
  · intro i
    by_cases hi : i < wb.marks.length
    · have := hm0 i hi; omega
    · rw [List.getElem?_eq_none (by omega), List.getElem?_eq_none (by omega)]; exact Int.le_refl _
  · exfalso
    obtain ⟨d, hde⟩ : ∃ d, d = f[i0]?.getD 0 - g[i0]?.getD 0 := ⟨_, rfl⟩
    obtain ⟨v, hv, hmv⟩ := fin_max wb.marks.length (fun i => if f[i]?.getD 0 - g[i]?.getD 0 = d then - rk[i]?.getD 0 else - (rk[i0]?.getD 0) - 1) (by omega)
    have hvd : f[v]?.getD 0 - g[v]?.getD 0 = d := by
      apply Classical.byContradiction
      intro c
      have := hmv i0 hi0
      simp only [if_neg c, ← hde, if_true] at this
      omega
    have hleast : ∀ w < wb.marks.length, f[w]?.getD 0 - g[w]?.getD 0 = d → rk[v]?.getD 0 ≤ rk[w]?.getD 0 := fun w hw e => by
      have := hmv w hw
      simp only [if_pos hvd, if_pos e] at this
      omega
    have hlow := hf.2 v
    rw [nxI_getD, if_pos hv] at hlow
    have hup := hu v (by omega)
    have dr := dueI_range V k0 v
    unfold lackB at hup
    split at hup
    · have := of_decide_eq_false hup
      omega
    · have hup := of_decide_eq_false hup
      obtain ⟨g', hg'⟩ : ∃ g', g' = upI g fun j => decide (rk[v]?.getD 0 ≤ rk[j]?.getD 0) := ⟨_, rfl⟩
      rw [← hg'] at hup
      have hl' : g'.length = wb.marks.length := by rw [hg', upI_len, hg]
      have hle : RowLe f (moved (d - 1) g') := fun w => by
        by_cases hw : w < wb.marks.length
        · have e1 : (moved (d - 1) g')[w]?.getD 0 = g'[w]?.getD 0 + (d - 1) := by
            unfold moved
            rw [List.getElem?_map, List.getElem?_eq_getElem (by omega)]
            rfl
          have e2 : g'[w]?.getD 0 = g[w]?.getD 0 + if decide (rk[v]?.getD 0 ≤ rk[w]?.getD 0) = true then 1 else 0 := by rw [hg', upI_getD, if_pos (by omega)]
          rw [e1, e2]
          have hmw := hm0 w hw
          by_cases c : f[w]?.getD 0 - g[w]?.getD 0 = d
          · rw [if_pos (decide_eq_true (hleast w hw c))]; omega
          · split <;> omega
        · rw [List.getElem?_eq_none (by omega), List.getElem?_eq_none (by rw [moved_len]; omega)]; exact Int.le_refl _
      have hp := prI_mono hle wb k v
      rw [prI_add V k hl' (d - 1) hv] at hp
      split at hp
      · rename_i z
        have : prI wb k g' v = k + 1 := by unfold prI; rw [if_pos z]
        omega
      · omega
section
variable (wb : Wb) (k : Int) (r : List Int)
def outB (lf : Nat → Bool) (i : Nat) : Bool := lf i && decide (prI wb k (upI r lf) i ≤ r[i]?.getD 0)
def lfB : Nat → Nat → Bool
  | 0 => fun i => decide (r[i]?.getD 0 < dueI (wb.dues[i]?.getD none) k)
  | j + 1 => fun i => lfB j i && !outB wb k r (lfB j) i
def rkB : Nat → Nat → Int
  | 0 => fun _ => 0
  | j + 1 => fun i => if outB wb k r (lfB wb k r j) i then (j : Int) + 1 else rkB j i
end
section
variable {wb : Wb} {k : Int} {r : List Int}
theorem rk_zero_or : ∀ (J i : Nat), (rkB wb k r J i = 0 ∧ lfB wb k r J i = lfB wb k r 0 i) ∨ ∃ j : Nat, j < J ∧ rkB wb k r J i = (j : Int) + 1 ∧ outB wb k r (lfB wb k r j) i = true ∧ lfB wb k r J i = false ∧ ∀ m ≤ j, lfB wb k r m i = true
  | 0, i => .inl ⟨rfl, rfl⟩
  | J + 1, i => by
    have ih := rk_zero_or J i
    by_cases c : outB wb k r (lfB wb k r J) i = true
    · have hl : lfB wb k r J i = true := by
        unfold outB at c
        exact (Bool.and_eq_true _ _ ▸ c : lfB wb k r J i = true ∧ _).1
      refine .inr ⟨J, by omega, ?_, c, ?_, ?_⟩
      · show (if outB wb k r (lfB wb k r J) i = true then (J : Int) + 1 else rkB wb k r J i) = _
        rw [if_pos c]
      · show (lfB wb k r J i && !outB wb k r (lfB wb k r J) i) = false
        rw [c]; simp
      · rcases ih with ⟨_, h2⟩ | ⟨j, hj, _, _, h4, _⟩
        · -- it was left all the time
          have all : ∀ m ≤ J, lfB wb k r m i = true := by
            intro m hm
            apply Classical.byContradiction
            intro cc
            have down : ∀ t, lfB wb k r (m + t) i = false := by
              intro t
              induction t with
              | zero => simpa using cc
              | succ t ih =>
                show (lfB wb k r (m + t) i && !outB wb k r (lfB wb k r (m + t)) i) = false
                rw [ih]; rfl
            have := down (J - m)
            rw [show m + (J - m) = J by omega, hl] at this
            cases this
          exact all
        · rw [hl] at h4; cases h4
    · have c' : outB wb k r (lfB wb k r J) i = false := by simpa using c
      have e1 : rkB wb k r (J + 1) i = rkB wb k r J i := by
        show (if outB wb k r (lfB wb k r J) i = true then (J : Int) + 1 else rkB wb k r J i) = _
        rw [if_neg c]
      have e2 : lfB wb k r (J + 1) i = lfB wb k r J i := by
        show (lfB wb k r J i && !outB wb k r (lfB wb k r J) i) = _
        rw [c']; simp
      rcases ih with ⟨h1, h2⟩ | ⟨j, hj, h1, h2, h4, h5⟩
      · exact .inl ⟨by rw [e1, h1], by rw [e2, h2]⟩
      · exact .inr ⟨j, by omega, by rw [e1, h1], h2, by rw [e2, h4], h5⟩
theorem cnt_le {n : Nat} {b c : Nat → Bool} (h : ∀ i < n, b i = true → c i = true) : ((List.range n).filter b).length ≤ ((List.range n).filter c).length ∧ (∀ i < n, c i = true → b i = false → ((List.range n).filter b).length < ((List.range n).filter c).length) := by
  induction n with
  | zero => exact ⟨Nat.le_refl _, fun i hi => absurd hi (Nat.not_lt_zero i)⟩
  | succ n ih =>
    obtain ⟨i1, i2⟩ := ih fun i hi => h i (by omega)
    have hn := h n (by omega)
    rw [List.range_succ, List.filter_append, List.filter_append, List.length_append, List.length_append]
    have e : ∀ b : Nat → Bool, ([n].filter b).length = if b n = true then 1 else 0 := fun b => by cases hb : b n <;> simp [hb]
    rw [e, e]
    constructor
    · split
      · rename_i z; rw [if_pos (hn z)]; omega
      · split <;> omega
    · intro i hi hc hb
      by_cases z : i = n
      · subst z
        rw [if_neg (by rw [hb]; exact Bool.false_ne_true), if_pos hc]
        omega
      · have := i2 i (by omega) hc hb
        split
        · rename_i z; rw [if_pos (hn z)]; omega
        · split <;> omega
/-- behind as many rounds as there are stands nobody leaves any more -/
theorem rest_stays : ∀ j : Nat, ((List.range r.length).filter (lfB wb k r j)).length + j ≤ r.length ∨ ∀ i < r.length, outB wb k r (lfB wb k r j) i = false
  | 0 => .inl (by have := List.length_filter_le (lfB wb k r 0) (List.range r.length); simp at this ⊢; omega)
  | j + 1 => by
    have step : ∀ i, lfB wb k r (j + 1) i = (lfB wb k r j i && !outB wb k r (lfB wb k r j) i) := fun _ => rfl
    by_cases c : ∀ i < r.length, outB wb k r (lfB wb k r j) i = false
    · refine .inr fun i hi => ?_
      have e : ∀ i < r.length, lfB wb k r (j + 1) i = lfB wb k r j i := fun i hi => by rw [step, c i hi]; simp
      have := c i hi
      unfold outB at this ⊢
      rw [e i hi, upI_congr e]
      exact this
    · rcases rest_stays j with h | h
      · refine .inl ?_
        simp only [Classical.not_forall] at c
        obtain ⟨i, hi, ho⟩ := c
        have ho : outB wb k r (lfB wb k r j) i = true := by simpa using ho
        have hl : lfB wb k r j i = true := by
          unfold outB at ho
          exact (Bool.and_eq_true _ _ ▸ ho : lfB wb k r j i = true ∧ _).1
        have := (cnt_le (n := r.length) (b := lfB wb k r (j + 1)) (c := lfB wb k r j) fun i _ hb => by
          rw [step] at hb
          exact (Bool.and_eq_true _ _ ▸ hb : lfB wb k r j i = true ∧ _).1).2 i hi hl (by rw [step, ho]; simp)
        omega
      · exact absurd h c
theorem rest_out (i : Nat) (hi : i < r.length) : outB wb k r (lfB wb k r r.length) i = false := by
  rcases rest_stays (wb := wb) (k := k) (r := r) r.length with h | h
  · have h0 : ((List.range r.length).filter (lfB wb k r r.length)).length = 0 := by omega
    have := List.filter_eq_nil_iff.mp (List.length_eq_zero_iff.mp h0) i (List.mem_range.mpr hi)
    unfold outB
    have e : lfB wb k r r.length i = false := by simpa using this
    rw [e]; rfl
  · exact h i hi
/-- a lower row and 1 more on its rest is lower -/
theorem rest_lower {wb : Wb} {k : Int} {r : List Int} (h : Lower wb k r) : Lower wb k (upI r (lfB wb k r r.length)) := by
  refine ⟨by rw [upI_len, h.1], fun i => ?_⟩
  have hl := h.1
  by_cases hi : i < r.length
  · have hup := nxI_mono (upI_le r (lfB wb k r r.length)) wb k i
    have hlow := h.2 i
    rw [upI_getD, if_pos hi]
    cases e : lfB wb k r r.length i with
    | false => simp; omega
    | true =>
      have ho := rest_out (wb := wb) (k := k) i hi
      have h0 : lfB wb k r 0 i = true := by
        rcases rk_zero_or (wb := wb) (k := k) (r := r) r.length i with ⟨_, h2⟩ | ⟨j, _, _, _, h4, _⟩
        · rw [← h2, e]
        · rw [e] at h4; cases h4
      have hdue : r[i]?.getD 0 < dueI (wb.dues[i]?.getD none) k := of_decide_eq_true h0
      have hpr : r[i]?.getD 0 < prI wb k (upI r (lfB wb k r r.length)) i := by
        unfold outB at ho
        rw [e, Bool.true_and] at ho
        have := of_decide_eq_false ho
        omega
      rw [nxI_getD, if_pos (show i < wb.marks.length by omega), if_pos rfl]
      omega
  · rw [List.getElem?_eq_none (by rw [upI_len]; omega), List.getElem?_eq_none (by rw [nxI_len]; omega)]
    exact Int.le_refl _
/-- the number row has no rest -/
theorem num_rest {wb : Wb} (V : Valid wb) {k : Int} (k0 : 0 ≤ k) (i : Nat) (hi : i < (numI wb k).length) : lfB wb k (numI wb k) (numI wb k).length i = false := by
  have := numI_great V (rest_lower (numI_lower V k0)) i
  rw [upI_getD, if_pos hi] at this
  cases e : lfB wb k (numI wb k) (numI wb k).length i with
  | false => rfl
  | true => rw [e] at this; simp at this; omega
def ranksI (wb : Wb) (k : Int) (r : List Int) : List Int := (List.range r.length).map fun i => rkB wb k r r.length i
theorem ranksI_get {wb : Wb} {k : Int} {r : List Int} {i : Nat} (hi : i < r.length) : (ranksI wb k r)[i]?.getD 0 = rkB wb k r r.length i := by simp [ranksI, hi]
theorem ranksI_nonneg (wb : Wb) (k : Int) (r : List Int) : ∀ x ∈ ranksI wb k r, 0 ≤ x ∧ x ≤ r.length := fun x hx => by
  obtain ⟨i, _, rfl⟩ := List.mem_map.mp hx
  rcases rk_zero_or (wb := wb) (k := k) (r := r) r.length i with ⟨h, _⟩ | ⟨j, hj, h, _⟩
  · rw [h]; omega
  · rw [h]; omega
/-- without a rest the row is upper with its ranks -/
theorem fall_upper {wb : Wb} {k : Int} {r : List Int} (he : ∀ i < r.length, lfB wb k r r.length i = false) : ∀ i < r.length, lackB wb k r (ranksI wb k r) i = false := fun i hi => by
  have lf_rk : ∀ m < r.length, ∀ j < r.length, (lfB wb k r j m = decide ((j : Int) + 1 ≤ rkB wb k r r.length m)) := fun m hm j hj => by
    rcases rk_zero_or (wb := wb) (k := k) (r := r) r.length m with ⟨h, h2⟩ | ⟨j', hj', h1, h2, h4, h5⟩
    · rw [h]
      have h0 : lfB wb k r 0 m = false := by rw [← h2]; exact he m hm
      have down : ∀ t, lfB wb k r t m = false := by
        intro t
        induction t with
        | zero => exact h0
        | succ t ih =>
          show (lfB wb k r t m && !outB wb k r (lfB wb k r t) m) = false
          rw [ih]; rfl
      rw [down j]
      exact (decide_eq_false (by omega)).symm
    · rw [h1]
      by_cases c : j ≤ j'
      · rw [h5 j c]
        exact (decide_eq_true (by omega)).symm
      · have h6 : lfB wb k r (j' + 1) m = false := by
          show (lfB wb k r j' m && !outB wb k r (lfB wb k r j') m) = false
          rw [h2]; simp
        have down : ∀ t, lfB wb k r (j' + 1 + t) m = false := by
          intro t
          induction t with
          | zero => exact h6
          | succ t ih =>
            show (lfB wb k r (j' + 1 + t) m && !outB wb k r (lfB wb k r (j' + 1 + t)) m) = false
            rw [ih]; rfl
        have := down (j - (j' + 1))
        rw [show j' + 1 + (j - (j' + 1)) = j by omega] at this
        rw [this]
        exact (decide_eq_false (by omega)).symm
  unfold lackB
  rw [ranksI_get hi]
  rcases rk_zero_or (wb := wb) (k := k) (r := r) r.length i with ⟨h, h2⟩ | ⟨j, hj, h1, h2, h4, h5⟩
  · rw [if_pos h]
    have h0 : lfB wb k r 0 i = false := by rw [← h2]; exact he i hi
    exact h0
  · rw [if_neg (by rw [h1]; omega)]
    have e : (upI r fun m => decide (rkB wb k r r.length i ≤ (ranksI wb k r)[m]?.getD 0)) = upI r (lfB wb k r j) := upI_congr fun m hm => by
      rw [ranksI_get hm, h1, lf_rk m hm j hj]
    rw [e]
    have := h2
    unfold outB at this
    have := of_decide_eq_true (Bool.and_eq_true _ _ ▸ this : _ ∧ decide (prI wb k (upI r (lfB wb k r j)) i ≤ r[i]?.getD 0) = true).2
    exact decide_eq_false (by omega)
end
end PL
namespace PL
open PySem L2 Den
def codeS : Nat → Str
  | 0 => "kind"
  | 1 => "number"
  | 2 => "web"
  | 3 => "much"
  | _ => "text"
theorem codeS_ne (a b : Nat) (ha : a < 4) (hb : b < 4) : fNe (.str (codeS a)) (.str (codeS b)) = some (.bl (!decide (a = b))) := by
  rw [cons_ne]
  have : ∀ a < 4, ∀ b < 4, decide (codeS a = codeS b) = decide (a = b) := by decide +kernel
  rw [this a ha b hb]
section
variable (A : CA) {wb : Wb}
end
end PL
namespace PL
open PySem L2 Den
theorem ixN_nat {n j : Nat} (h : j < n) : ixN n (j : Int) = some j := by
  unfold ixN
  simp [h]
theorem sput_ev {i : Nat} {k a : M D} {l : Den.Loc} {p p1 p2 : S} {ds : List D} {x : D} {j : Nat} (hc : l[i]? = some (some (.cell ds))) (ha : a l p = .ok x p1) (hk : k l p1 = .ok (.int (j : Int)) p2) (hj : j < ds.length) : sput i k a l p = .nx (l.set i (some (.cell (ds.set j x)))) p2 := by
  have e : Den.cellOf i l = some ds := by unfold Den.cellOf; rw [hc]
  unfold sput
  rw [sbind_ev, ha]
  simp only [toO_ok, e]
  rw [sbind_ev, hk]
  simp only [toO_ok, putk, e, ixN_nat hj, Option.map_some]
section
variable (A : CA) {wb : Wb}
end
end PL
namespace PL
open PySem L2 Den
end PL
namespace PL
open PySem L2 Den
section
variable (A : CA) {wb : Wb}
end
end PL
namespace PL
open PySem L2 Den
/-- the stands below n for which b holds -/
def setI (n : Nat) (b : Nat → Bool) : List Int := ((List.range n).filter b).map fun i : Nat => (i : Int)
theorem setI_mem {n : Nat} {b : Nat → Bool} {x : Int} : x ∈ setI n b ↔ ∃ i : Nat, i < n ∧ b i = true ∧ x = (i : Int) := by
  unfold setI
  rw [List.mem_map]
  constructor
  · rintro ⟨i, hi, rfl⟩
    have := List.mem_filter.mp hi
    exact ⟨i, List.mem_range.mp this.1, this.2, rfl⟩
  · rintro ⟨i, hi, hb, rfl⟩
    exact ⟨i, List.mem_filter.mpr ⟨List.mem_range.mpr hi, hb⟩, rfl⟩
theorem setI_nat {n : Nat} {b : Nat → Bool} {i : Nat} : (i : Int) ∈ setI n b ↔ i < n ∧ b i = true := by
  rw [setI_mem]
  constructor
  · rintro ⟨j, hj, hb, e⟩
    have : i = j := by omega
    subst this
    exact ⟨hj, hb⟩
  · rintro ⟨h1, h2⟩; exact ⟨i, h1, h2, rfl⟩
theorem setI_len (n : Nat) (b : Nat → Bool) : (setI n b).length ≤ n := by
  have := List.length_filter_le b (List.range n)
  simpa [setI] using this
theorem setI_congr {n : Nat} {b c : Nat → Bool} (h : ∀ i < n, b i = c i) : setI n b = setI n c := by
  unfold setI
  congr 1
  exact List.filter_congr fun i hi => h i (List.mem_range.mp hi)
theorem setI_filter (n : Nat) (b c : Nat → Bool) (q : Int → Bool) (h : ∀ i < n, b i = true → q (i : Int) = c i) : (setI n b).filter q = setI n fun i => b i && c i := by
  unfold setI
  rw [List.filter_map, List.filter_filter]
  congr 1
  refine List.filter_congr fun i hi => ?_
  cases hb : b i with
  | false => simp
  | true => simp [Function.comp, h i (List.mem_range.mp hi) hb]
theorem inV_ints (x : Int) : ∀ ns : List Int, inV (V.int x) (ns.map V.int) = decide (x ∈ ns)
  | [] => rfl
  | n :: ns => by
    have ih := inV_ints x ns
    have e : inV (V.int x) ((n :: ns).map V.int) = (eqV (V.int n) (V.int x) || inV (V.int x) (ns.map V.int)) := rfl
    rw [e, ih]
    by_cases h : n = x
    · subst h; simp [eqV]
    · have h' : ¬ x = n := fun z => h z.symm
      simp [eqV, h, h']

theorem in_lI (x : Int) (ns : List Int) : fInB false (.int x) (lI ns) = some (.bl (decide (x ∈ ns))) := by
  show (match sc (.int x), (seqOf (lI ns)).bind scL with
    | some v, some vs => some (D.bl (if false then !inV v vs else inV v vs))
    | _, _ => none) = _
  have e : (seqOf (lI ns)).bind scL = some (ns.map V.int) := scL_ints ns
  rw [e]
  show some (D.bl (inV (V.int x) (ns.map V.int))) = _
  rw [inV_ints]
theorem nin_lI (x : Int) (ns : List Int) : fInB true (.int x) (lI ns) = some (.bl (!decide (x ∈ ns))) := by
  show (match sc (.int x), (seqOf (lI ns)).bind scL with
    | some v, some vs => some (D.bl (if true then !inV v vs else inV v vs))
    | _, _ => none) = _
  have e : (seqOf (lI ns)).bind scL = some (ns.map V.int) := scL_ints ns
  rw [e]
  show some (D.bl (!inV (V.int x) (ns.map V.int))) = _
  rw [inV_ints]
/-- a list that a function tells -/
def tabI (n : Nat) (f : Nat → Int) : List Int := (List.range n).map f
theorem tabI_len (n : Nat) (f : Nat → Int) : (tabI n f).length = n := by simp [tabI]
theorem tabI_set {n : Nat} {f : Nat → Int} {i : Nat} (v : Int) : (tabI n f).set i v = tabI n fun j => if j = i then v else f j := by
  refine List.ext_getElem? fun m => ?_
  unfold tabI
  by_cases hm : m < n
  · by_cases e : i = m
    · subst e
      rw [List.getElem?_set_self (by simpa using hm)]
      simp [hm]
    · rw [List.getElem?_set_ne e]
      have : ¬ m = i := fun z => e z.symm
      simp [hm, this]
  · rw [List.getElem?_eq_none (by simp; omega), List.getElem?_eq_none (by simp; omega)]
theorem tabI_congr {n : Nat} {f g : Nat → Int} (h : ∀ i < n, f i = g i) : tabI n f = tabI n g := List.map_congr_left fun i hi => h i (List.mem_range.mp hi)
section
variable {wb : Wb}
abbrev SFa (wb : Wb) (k : Int) (r : List Int) (o3 o4 o5 o6 o7 o8 : Option L) : Den.Loc := [dd (.lst (encW wb)), dd (.int k), dd (lI r), o3, o4, o5, o6, o7, o8]
theorem due_law (V : Valid wb) (k : Int) {i : Nat} (hi : i < wb.marks.length) (p : S) : atI (wb.dues.map dDue) (i : Int) = some (dDue (wb.dues[i]?.getD none)) := by
  have hd' : i < wb.dues.length := by rw [V.l3]; exact hi
  rw [show wb.dues[i]?.getD none = wb.dues[i] by rw [List.getElem?_eq_getElem hd']; rfl]
  exact atI_nat (by rw [List.getElem?_map, List.getElem?_eq_getElem hd']; rfl)
theorem law_fall_turn (V : Valid wb) {k : Int} {r : List Int} (hl : r.length = wb.marks.length) (j : Nat) (o4 o7 o8 : Option L) (p : S) :
    ∃ o4' o7' o8', L_law_fall_3 (SFa wb k r (dd (lI (setI r.length (lfB wb k r j)))) o4 (some (.cell ((tabI r.length (rkB wb k r j)).map .int))) (dd (.int (j : Int))) o7 o8) p
      = .nx (SFa wb k r (dd (lI (setI r.length (lfB wb k r (j + 1))))) o4' (some (.cell ((tabI r.length (rkB wb k r (j + 1))).map .int))) (dd (.int (j : Int))) o7' o8') p := by
  have n2 := V.n2
  have hrn := rngN (n := r.length) (by omega)
  have sl := setI_len r.length (lfB wb k r j)
  have c3 : c_law_fall_3 (SFa wb k r (dd (lI (setI r.length (lfB wb k r j)))) o4 (some (.cell ((tabI r.length (rkB wb k r j)).map .int))) (dd (.int (j : Int))) o7 o8) p = .ok ((upI r (lfB wb k r j)).map .int) p := by
    unfold c_law_fall_3
    rw [mcomp_ev (ds := rngD 0 r.length) (p' := p) (by simp [mvar, hrn]) (by rw [rngD_len]; omega)]
    unfold rngD
    rw [comp_mapL (by simp) (fun (i : Nat) => D.int (0 + (i : Int))) (fun i => .int (r[i]?.getD 0 + if lfB wb k r j i then 1 else 0)) fun i hi => ?_]
    · unfold upI; rw [List.map_map]; rfl
    · have hi' := List.mem_range.mp hi
      have a := atI_row (r := r) hi'
      have b := in_lI (i : Int) (setI r.length (lfB wb k r j))
      have c : decide ((i : Int) ∈ setI r.length (lfB wb k r j)) = lfB wb k r j i := by
        cases h : lfB wb k r j i with
        | true => exact decide_eq_true (setI_nat.mpr ⟨hi', h⟩)
        | false => exact decide_eq_false fun z => by have := (setI_nat.mp z).2; rw [h] at this; cases this
      rw [c] at b
      cases h : lfB wb k r j i with
      | true => rw [h] at b; simp [mvar, a, b, fInt]
      | false => rw [h] at b; simp [mvar, a, b, fInt]
  have T1 : sasg (mfreeze c_law_fall_3) (gset 7) (SFa wb k r (dd (lI (setI r.length (lfB wb k r j)))) o4 (some (.cell ((tabI r.length (rkB wb k r j)).map .int))) (dd (.int (j : Int))) o7 o8) p = .nx (SFa wb k r (dd (lI (setI r.length (lfB wb k r j)))) o4 (some (.cell ((tabI r.length (rkB wb k r j)).map .int))) (dd (.int (j : Int))) (dd (lI (upI r (lfB wb k r j)))) o8) p := by simp [c3]
  have c4 : c_law_fall_4 (SFa wb k r (dd (lI (setI r.length (lfB wb k r j)))) o4 (some (.cell ((tabI r.length (rkB wb k r j)).map .int))) (dd (.int (j : Int))) (dd (lI (upI r (lfB wb k r j)))) o8) p = .ok ((setI r.length (outB wb k r (lfB wb k r j))).map .int) p := by
    unfold c_law_fall_4
    rw [mcomp_ev (ds := (setI r.length (lfB wb k r j)).map .int) (p' := p) (by simp [mvar]) (by rw [List.length_map]; omega)]
    rw [comp_filterL (by simp) D.int (fun x => decide (prI wb k (upI r (lfB wb k r j)) x.toNat ≤ r[x.toNat]?.getD 0)) (fun x hx => ?_) (fun x hx => by simp [mvar])]
    · rw [setI_filter r.length (lfB wb k r j) (fun i => decide (prI wb k (upI r (lfB wb k r j)) i ≤ r[i]?.getD 0)) _ (fun i hi hb => by simp)]
      rfl
    · obtain ⟨i, hi, _, rfl⟩ := setI_mem.mp hx
      have a := atI_row (r := r) hi
      have e : D_law_price [.lst (encW wb), .int k, lI (upI r (lfB wb k r j)), .int (i : Int)] p = _ := law_price_all V (by rw [upI_len, hl]) k (i := i) (by omega) p
      simp [mvar, a, e]
  have T2 : sasg (mfreeze c_law_fall_4) (gset 8) (SFa wb k r (dd (lI (setI r.length (lfB wb k r j)))) o4 (some (.cell ((tabI r.length (rkB wb k r j)).map .int))) (dd (.int (j : Int))) (dd (lI (upI r (lfB wb k r j)))) o8) p = .nx (SFa wb k r (dd (lI (setI r.length (lfB wb k r j)))) o4 (some (.cell ((tabI r.length (rkB wb k r j)).map .int))) (dd (.int (j : Int))) (dd (lI (upI r (lfB wb k r j)))) (dd (lI (setI r.length (outB wb k r (lfB wb k r j)))))) p := by simp [c4]
  obtain ⟨l', q, e3, rfl, o4', rfl⟩ := loop_run (tg := gset 4) (body := L_law_fall_3l3)
    (fun (m : Nat) (l : Den.Loc) (q : S) => q = p ∧ ∃ o4, l = SFa wb k r (dd (lI (setI r.length (lfB wb k r j)))) o4 (some (.cell ((tabI r.length fun i => if (i : Int) ∈ (setI r.length (outB wb k r (lfB wb k r j))).take m then (j : Int) + 1 else rkB wb k r j i).map .int))) (dd (.int (j : Int))) (dd (lI (upI r (lfB wb k r j)))) (dd (lI (setI r.length (outB wb k r (lfB wb k r j))))))
    (ds := (setI r.length (outB wb k r (lfB wb k r j))).map .int) (k := 0) (l := SFa wb k r (dd (lI (setI r.length (lfB wb k r j)))) o4 (some (.cell ((tabI r.length (rkB wb k r j)).map .int))) (dd (.int (j : Int))) (dd (lI (upI r (lfB wb k r j)))) (dd (lI (setI r.length (outB wb k r (lfB wb k r j)))))) (p := p) ⟨rfl, o4, by simp⟩ (fun m d l q hd hI => by
      obtain ⟨rfl, o4, rfl⟩ := hI
      rw [Nat.zero_add]
      rw [List.getElem?_map, Option.map_eq_some_iff] at hd
      obtain ⟨x, hx, rfl⟩ := hd
      obtain ⟨i, hi, _, rfl⟩ := setI_mem.mp (List.mem_of_getElem? hx)
      refine ⟨_, lset_lt 4 _ _ (by simp), _, _, .inl ?_, rfl, dd (.int (i : Int)), rfl⟩
      unfold L_law_fall_3l3
      rw [sput_ev (j := i) (x := .int ((j : Int) + 1)) (p1 := q) (p2 := q) (ds := ((tabI r.length fun i => if (i : Int) ∈ (setI r.length (outB wb k r (lfB wb k r j))).take m then (j : Int) + 1 else rkB wb k r j i).map D.int)) rfl (by simp [mvar]) (by simp [mvar]) (by rw [List.length_map, tabI_len]; exact hi)]
      have e : ∀ m, ((setI r.length (outB wb k r (lfB wb k r j))).take (m + 1)) = (setI r.length (outB wb k r (lfB wb k r j))).take m ++ ((setI r.length (outB wb k r (lfB wb k r j)))[m]?).toList := fun m => List.take_succ
      have tb : ((tabI r.length fun i => if (i : Int) ∈ (setI r.length (outB wb k r (lfB wb k r j))).take m then (j : Int) + 1 else rkB wb k r j i).map D.int).set i (.int ((j : Int) + 1)) = (tabI r.length fun i' => if (i' : Int) ∈ (setI r.length (outB wb k r (lfB wb k r j))).take (m + 1) then (j : Int) + 1 else rkB wb k r j i').map D.int := by
        rw [← List.map_set, tabI_set]
        congr 1
        refine tabI_congr fun t _ => ?_
        rw [e m, hx]
        by_cases h : t = i
        · subst h; simp
        · have h' : ¬ (t : Int) = (i : Int) := by omega
          simp [h, h']
      rw [tb]
      rfl)
  rw [Nat.zero_add, List.length_map, List.take_length] at e3
  have T3 : b_law_fall_3l3 (SFa wb k r (dd (lI (setI r.length (lfB wb k r j)))) o4 (some (.cell ((tabI r.length (rkB wb k r j)).map .int))) (dd (.int (j : Int))) (dd (lI (upI r (lfB wb k r j)))) (dd (lI (setI r.length (outB wb k r (lfB wb k r j)))))) q = .nx (SFa wb k r (dd (lI (setI r.length (lfB wb k r j)))) o4' (some (.cell ((tabI r.length (rkB wb k r (j + 1))).map .int))) (dd (.int (j : Int))) (dd (lI (upI r (lfB wb k r j)))) (dd (lI (setI r.length (outB wb k r (lfB wb k r j)))))) q := by
    have et : (tabI r.length fun i => if (i : Int) ∈ setI r.length (outB wb k r (lfB wb k r j)) then (j : Int) + 1 else rkB wb k r j i) = tabI r.length (rkB wb k r (j + 1)) := tabI_congr fun i hi => by
      show _ = if outB wb k r (lfB wb k r j) i = true then (j : Int) + 1 else rkB wb k r j i
      cases h : outB wb k r (lfB wb k r j) i with
      | true => rw [if_pos (setI_nat.mpr ⟨hi, h⟩), if_pos rfl]
      | false => rw [if_neg (fun z => by have := (setI_nat.mp z).2; rw [h] at this; cases this), if_neg Bool.false_ne_true]
    rw [et] at e3
    unfold b_law_fall_3l3
    simp only [sfor_ev, mbind_ev, mvar, List.getElem?_cons_succ, List.getElem?_cons_zero, bind_ok, lstOf_lst, mlift_some, toO_ok]
    exact e3
  have c5 : c_law_fall_5 (SFa wb k r (dd (lI (setI r.length (lfB wb k r j)))) o4' (some (.cell ((tabI r.length (rkB wb k r (j + 1))).map .int))) (dd (.int (j : Int))) (dd (lI (upI r (lfB wb k r j)))) (dd (lI (setI r.length (outB wb k r (lfB wb k r j)))))) q = .ok ((setI r.length (lfB wb k r (j + 1))).map .int) q := by
    unfold c_law_fall_5
    rw [mcomp_ev (ds := (setI r.length (lfB wb k r j)).map .int) (p' := q) (by simp [mvar]) (by rw [List.length_map]; omega)]
    rw [comp_filterL (by simp) D.int (fun x => !decide (x ∈ setI r.length (outB wb k r (lfB wb k r j)))) (fun x hx => by
      have b := nin_lI x (setI r.length (outB wb k r (lfB wb k r j)))
      simp [mvar, b]) (fun x hx => by simp [mvar])]
    rw [setI_filter r.length (lfB wb k r j) (fun i => !outB wb k r (lfB wb k r j) i) _ (fun i hi hb => by
      cases h : outB wb k r (lfB wb k r j) i with
      | true => simp [setI_nat, hi, h]
      | false => simp [setI_nat, hi, h])]
    rfl
  refine ⟨o4', dd (lI (upI r (lfB wb k r j))), dd (lI (setI r.length (outB wb k r (lfB wb k r j)))), ?_⟩
  unfold L_law_fall_3
  rw [seq_nx T1, seq_nx T2, seq_nx T3]
  simp [c5]
theorem law_fall_ev (V : Valid wb) {k : Int} {r : List Int} (hl : r.length = wb.marks.length) (p : S) : D_law_fall [.lst (encW wb), .int k, lI r] p = .ok (.lst [lI (ranksI wb k r), lI (setI r.length (lfB wb k r r.length))]) p := by
  have n2 := V.n2
  have hrn := rngN (n := r.length) (by omega)
  have c1 : c_law_fall_1 (SFa wb k r none none none none none none) p = .ok ((setI r.length (lfB wb k r 0)).map .int) p := by
    unfold c_law_fall_1
    rw [mcomp_ev (ds := rngD 0 r.length) (p' := p) (by simp [mvar, hrn]) (by rw [rngD_len]; omega)]
    unfold rngD
    rw [comp_filterL (by simp) (fun (i : Nat) => D.int (0 + (i : Int))) (lfB wb k r 0) (fun i hi => by
      have hi' := List.mem_range.mp hi
      have a := atI_row (r := r) hi'
      have d := due_law V k (i := i) (by omega) p
      simp [mvar, a, d, enc3, due_at_ev, lfB]) (fun i hi => by simp [mvar])]
    unfold setI
    rw [List.map_map]
    congr 2
    funext i
    simp
  have T1 : sasg (mfreeze c_law_fall_1) (gset 3) (SFa wb k r none none none none none none) p = .nx (SFa wb k r (dd (lI (setI r.length (lfB wb k r 0)))) none none none none none) p := by simp [c1]
  have c2 : c_law_fall_2 (SFa wb k r (dd (lI (setI r.length (lfB wb k r 0)))) none none none none none) p = .ok ((tabI r.length (rkB wb k r 0)).map .int) p := by
    unfold c_law_fall_2
    rw [mcomp_ev (ds := r.map .int) (p' := p) (by simp [mvar]) (by rw [List.length_map]; omega)]
    rw [comp_mapL (by simp) D.int (fun _ => .int 0) fun x _ => by simp]
    have : r.map (fun _ => D.int 0) = (tabI r.length (rkB wb k r 0)).map .int := by
      unfold tabI
      rw [List.map_map]
      refine List.ext_getElem? fun m => ?_
      by_cases hm : m < r.length
      · simp [hm, rkB]
      · rw [List.getElem?_eq_none (by simp; omega), List.getElem?_eq_none (by simp; omega)]
    rw [this]
  have T2 : sown c_law_fall_2 5 (SFa wb k r (dd (lI (setI r.length (lfB wb k r 0)))) none none none none none) p = .nx (SFa wb k r (dd (lI (setI r.length (lfB wb k r 0)))) none (some (.cell ((tabI r.length (rkB wb k r 0)).map .int))) none none none) p := by simp [c2]
  obtain ⟨l', q, e3, rfl, o4, o6, o7, o8, rfl⟩ := loop_run (tg := gset 6) (body := L_law_fall_3)
    (fun (j : Nat) (l : Den.Loc) (q : S) => q = p ∧ ∃ o4 o6 o7 o8, l = SFa wb k r (dd (lI (setI r.length (lfB wb k r j)))) o4 (some (.cell ((tabI r.length (rkB wb k r j)).map .int))) o6 o7 o8)
    (ds := rngD 0 r.length) (k := 0) (l := SFa wb k r (dd (lI (setI r.length (lfB wb k r 0)))) none (some (.cell ((tabI r.length (rkB wb k r 0)).map .int))) none none none) (p := p) ⟨rfl, none, none, none, none, rfl⟩ (fun j d l q hd hI => by
      obtain ⟨rfl, o4, o6, o7, o8, rfl⟩ := hI
      obtain ⟨_, rfl⟩ := rngD_get hd
      rw [Nat.zero_add, Int.zero_add]
      obtain ⟨o4', o7', o8', e⟩ := law_fall_turn V hl (k := k) j o4 o7 o8 q
      exact ⟨_, lset_lt 6 _ _ (by simp), _, _, .inl e, rfl, o4', dd (.int (j : Int)), o7', o8', rfl⟩)
  rw [Nat.zero_add, rngD_len] at e3
  have T3 : b_law_fall_3 (SFa wb k r (dd (lI (setI r.length (lfB wb k r 0)))) none (some (.cell ((tabI r.length (rkB wb k r 0)).map .int))) none none none) q = .nx (SFa wb k r (dd (lI (setI r.length (lfB wb k r r.length)))) o4 (some (.cell ((tabI r.length (rkB wb k r r.length)).map .int))) o6 o7 o8) q := by
    unfold b_law_fall_3
    simp only [sfor_ev, mbind_ev, acons_ev, opn_ev, mvar, List.getElem?_cons_succ, List.getElem?_cons_zero, bind_ok, anil_ev, fLen_lst, List.length_map, hrn, mlift_some, toO_ok]
    exact e3
  unfold D_law_fall
  rw [denF_ev (by rfl)]
  show outR (dn_law_fall (SFa wb k r none none none none none none) q) = _
  unfold dn_law_fall
  rw [seq_nx T1, seq_nx T2, seq_nx T3]
  simp [b_law_fall_4, sgive, mvar]
  rfl
end
end PL
namespace PL
open PySem L2 Den
abbrev OI := Option Int
def dO : OI → D
  | none => .non
  | some i => .int i
@[simp] theorem isNon_dO (x : OI) : isNon (dO x) = x.isNone := by cases x <;> rfl
end PL
namespace PL
open PySem L2 Den
section
variable {wb : Wb} {i : Int} {f s : List Int} {mk : Int}
structure HsOk (wb : Wb) (hs : List (List OI)) (b : Nat) : Prop where
  len : hs.length = wb.marks.length
  each : ∀ h ∈ hs, h ≠ [] ∧ h.length ≤ b
end
end PL
namespace PL
open PySem L2 Den
section
variable (A : CA) {wb : Wb}
end
end PL
namespace PL
open PySem L2 Den
section
variable (wb : Wb)
/-- whether the stand may stay in z -/
def keepB (z : Nat → Bool) (i : Nat) : Bool := ((wb.first[i]?.getD []).all fun x => z x.toNat) && ((wb.first[i]?.getD []).isEmpty || decide (wb.marks[i]?.getD 0 = 1) || (wb.second[i]?.getD []).any fun x => z x.toNat)
def noDue (i : Nat) : Bool := (wb.dues[i]?.getD none).isNone
structure Stays (z : Nat → Bool) : Prop where
  sub : ∀ i < wb.marks.length, z i = true → noDue wb i = true
  keep : ∀ i < wb.marks.length, z i = true → keepB wb z i = true
end
section
variable {wb : Wb}
/-- one set is the greatest -/
structure Greatest (wb : Wb) (z : Nat → Bool) : Prop where
  stays : Stays wb z
  most : ∀ y, Stays wb y → ∀ i < wb.marks.length, y i = true → z i = true
theorem Greatest.uniq {z y : Nat → Bool} (a : Greatest wb z) (b : Greatest wb y) : setI wb.marks.length z = setI wb.marks.length y := setI_congr fun i hi => by
  cases e : z i with
  | true => exact (b.most z a.stays i hi e).symm
  | false =>
    cases e2 : y i with
    | false => rfl
    | true => have := a.most y b.stays i hi e2; rw [e] at this; cases this
def cntB (n : Nat) (z : Nat → Bool) : Nat := (setI n z).length
theorem cntB_eq (n : Nat) (z : Nat → Bool) : cntB n z = ((List.range n).filter z).length := by simp [cntB, setI]
theorem cntB_le {n : Nat} {z y : Nat → Bool} (h : ∀ i < n, z i = true → y i = true) : cntB n z ≤ cntB n y ∧ ((∃ i, i < n ∧ y i = true ∧ z i = false) → cntB n z < cntB n y) := by
  rw [cntB_eq, cntB_eq]
  have := cnt_le h
  exact ⟨this.1, fun ⟨i, hi, h1, h2⟩ => this.2 i hi h1 h2⟩
end
theorem rngD_map (n : Nat) : rngD 0 n = (setI n fun _ => true).map .int := by
  have : (List.range n).filter (fun _ => true) = List.range n := List.filter_eq_self.mpr fun _ _ => rfl
  unfold rngD setI
  rw [this, List.map_map]
  simp [Function.comp_def]
theorem setI_asc (n : Nat) (b : Nat → Bool) : (setI n b).Pairwise (· < ·) := asc_range n b
section
variable (A : CA) {wb : Wb}
end
end PL
namespace PL
open PySem L2 Den
section
variable {wb : Wb}
end
end PL
namespace PL
open PySem L2 Den
section
variable {wb : Wb}
end
end PL
namespace PL
open PySem L2 Den
section
variable {wb : Wb}
end
section
variable (A : CA) {wb : Wb}
end
end PL
namespace PL
open PySem L2 Den
@[simp] theorem f_gd (A : CA) (wb : Wb) : fFld A.Web "_greatest_due" (insW A wb) = some (gdD wb) := by
  unfold insW
  rw [fld_ins]
  refine (lk_ne (by decide +kernel)).trans ?_
  refine (lk_ne (by decide +kernel)).trans ?_
  refine (lk_ne (by decide +kernel)).trans ?_
  refine (lk_ne (by decide +kernel)).trans ?_
  refine (lk_ne (by decide +kernel)).trans ?_
  refine (lk_ne (by decide +kernel)).trans ?_
  refine (lk_ne (by decide +kernel)).trans ?_
  exact lk_eq
end PL
namespace PL
open PySem L2 Den
section
variable {wb : Wb}
end
end PL
namespace PL
open PySem L2 Den
def lineS (n : Nat) : List (List Int) := [] :: ((List.range (n - 1)).map fun j : Nat => [(1 : Int) + (j : Int) - 1, 1 + (j : Int) + 1]) ++ [[]]
def lineW (n : Nat) (mk : Int) : Wb := ⟨lineS n, lineS n, List.replicate (n + 1) mk, some (true, 0) :: List.replicate n none⟩
theorem lineS_len {n : Nat} (h : 1 ≤ n) : (lineS n).length = n + 1 := by
  simp [lineS]
  omega
theorem lineS_in {n : Nat} (h : 1 ≤ n) : ∀ ss ∈ lineS n, ss.length < 60 ∧ ∀ x ∈ ss, 0 ≤ x ∧ x < ((n + 1 : Nat) : Int) := fun ss hs => by
  unfold lineS at hs
  rcases List.mem_append.mp hs with hs | hs
  · rcases List.mem_cons.mp hs with rfl | hs
    · exact ⟨by simp, fun x hx => by cases hx⟩
    · obtain ⟨j, hj, rfl⟩ := List.mem_map.mp hs
      have hj := List.mem_range.mp hj
      refine ⟨by simp, fun x hx => ?_⟩
      rcases List.mem_cons.mp hx with rfl | hx
      · omega
      · rw [List.mem_singleton.mp hx]; omega
  · rw [List.mem_singleton.mp hs]
    exact ⟨by simp, fun x hx => by cases hx⟩
theorem lineW_valid {n : Nat} (h1 : 1 ≤ n) (h2 : n ≤ 59) {mk : Int} (hm : mk = 1 ∨ mk = 2) : Valid (lineW n mk) := by
  have hl : (lineW n mk).marks.length = n + 1 := by simp [lineW]
  refine ⟨by omega, by omega, by rw [hl]; exact lineS_len h1, by rw [hl]; exact lineS_len h1, by rw [hl]; simp [lineW], fun ss hs => by rw [hl]; exact lineS_in h1 ss hs, fun ss hs => by rw [hl]; exact lineS_in h1 ss hs, fun i a b ha hb => ?_, fun m hm' => ?_, fun d hd b x e => ?_⟩
  · have : (lineS n)[i]? = some a := ha
    have hb : (lineS n)[i]? = some b := hb
    rw [this] at hb
    cases hb
    rfl
  · rw [List.eq_of_mem_replicate hm']; exact hm
  · rcases List.mem_cons.mp hd with rfl | hd
    · cases e; omega
    · rw [List.eq_of_mem_replicate hd] at e; cases e
/-- the lists that the method hands on -/
def lineG (n : Nat) (mk : Int) : Wg := ⟨(false, (lineS n).map fun s => (false, s)), (false, (lineS n).map fun s => (false, s)), (false, List.replicate (n + 1) mk), (false, (some (true, 0) :: List.replicate n none).map fun d => (true, d))⟩
theorem lineG_wb (n : Nat) (mk : Int) : (lineG n mk).wb = lineW n mk := by
  simp [lineG, Wg.wb, lineW, List.map_map, Function.comp_def]
theorem lineG_valid {n : Nat} (h1 : 1 ≤ n) (h2 : n ≤ 59) {mk : Int} (hm : mk = 1 ∨ mk = 2) : ValidG (lineG n mk).wb := by
  rw [lineG_wb]
  have V := lineW_valid h1 h2 hm
  exact ⟨V.n1, V.n2, V.l1, V.l2, V.l3, fun ss hs => ⟨by have := (V.s1 ss hs).1; omega, (V.s1 ss hs).2⟩, fun ss hs => ⟨by have := (V.s2 ss hs).1; omega, (V.s2 ss hs).2⟩, V.both, V.mks, fun d hd b x e => by have := V.du d hd b x e; omega⟩
theorem check_plain_ev (n mk e : Int) (p : S) : D_check_plain [.int n, .int mk, .int e] p = if 1 ≤ n then (if mk = 1 ∨ mk = 2 then (if n + e ≤ 60 then .ok .non p else .err 3 p) else .err 1 p) else .err 1 p := by
  have e1 := whole2 n mk p
  have e2 := check_least_ev n 1 p
  have e4 := check_most_ev (n + e) 60 p
  unfold D_check_plain
  rw [denF_ev (by rfl)]
  show outR (dn_check_plain [dd (.int n), dd (.int mk), dd (.int e)] p) = _
  by_cases c1 : 1 ≤ n
  · rw [if_pos c1] at e2 ⊢
    by_cases c2 : mk = 1 ∨ mk = 2
    · have e3 := one_or_two_ok c2 p
      rw [if_pos c2]
      by_cases c3 : n + e ≤ 60
      · rw [if_pos c3] at e4 ⊢
        simp [dn_check_plain, b_check_plain_1, b_check_plain_2, b_check_plain_3, b_check_plain_4, mvar, e1, e2, e3, e4]
      · rw [if_neg c3] at e4 ⊢
        simp [dn_check_plain, b_check_plain_1, b_check_plain_2, b_check_plain_3, b_check_plain_4, mvar, e1, e2, e3, e4]
    · have e3 := one_or_two_no c2 p
      rw [if_neg c2]
      simp [dn_check_plain, b_check_plain_1, b_check_plain_2, b_check_plain_3, mvar, e1, e2, e3]
  · rw [if_neg c1] at e2 ⊢
    simp [dn_check_plain, b_check_plain_1, b_check_plain_2, mvar, e1, e2]
theorem web_line_ev (A : CA) {n : Nat} (h1 : 1 ≤ n) (h2 : n ≤ 59) {mk : Int} (hm : mk = 1 ∨ mk = 2) (p : S) : D_Web_line A [.cls A.Web, .int (n : Int), .int mk] p = .ok (insW A (lineW n mk)) p := by
  have e1 := check_plain_ev (n : Int) mk 1 p
  rw [if_pos (by omega), if_pos hm, if_pos (by omega)] at e1
  show denD 3 6 (D.int 1) (dn_Web_line A) _ p = _
  unfold denD
  rw [if_neg (by simp), denF_ev (by rfl)]
  show outR (dn_Web_line A [dd (.cls A.Web), dd (.int (n : Int)), dd (.int mk), none, none, none] p) = _
  have T1 : b_Web_line_1 [dd (.cls A.Web), dd (.int (n : Int)), dd (.int mk), none, none, none] p = .nx [dd (.cls A.Web), dd (.int (n : Int)), dd (.int mk), none, none, none] p := by
    simp [b_Web_line_1, mvar, e1]
  have c1 : c_Web_line_1 [dd (.cls A.Web), dd (.int (n : Int)), dd (.int mk), none, none, none] p = .ok (((List.range (n - 1)).map fun j : Nat => [(1 : Int) + (j : Int) - 1, 1 + (j : Int) + 1]).map dI) p := by
    unfold c_Web_line_1
    have er : rng2 [.int 1, .int (n : Int)] = some (rngD 1 (n - 1)) := by
      rw [rng2_int (by decide) (by omega)]
      congr 2
      omega
    rw [mcomp_ev (ds := rngD 1 (n - 1)) (p' := p) (by simp [mvar, er]) (by rw [rngD_len]; omega)]
    unfold rngD
    rw [comp_mapL (by simp) (fun j : Nat => D.int (1 + (j : Int))) (fun j : Nat => dI [(1 : Int) + (j : Int) - 1, 1 + (j : Int) + 1]) (fun j _ => by simp [mvar, dI]), List.map_map]
    rfl
  have T2 : sasg (mfreeze c_Web_line_1) (gset 3) [dd (.cls A.Web), dd (.int (n : Int)), dd (.int mk), none, none, none] p = .nx [dd (.cls A.Web), dd (.int (n : Int)), dd (.int mk), dd (.lst (((List.range (n - 1)).map fun j : Nat => [(1 : Int) + (j : Int) - 1, 1 + (j : Int) + 1]).map dI)), none, none] p := by
    simp [c1, -List.map_map]
  have ew : D.lst [] :: (((List.range (n - 1)).map fun j : Nat => [(1 : Int) + (j : Int) - 1, 1 + (j : Int) + 1]).map dI) ++ [D.lst []] = (lineS n).map dI := by
    simp [lineS, dI]
  have T3 : b_Web_line_3 [dd (.cls A.Web), dd (.int (n : Int)), dd (.int mk), dd (.lst (((List.range (n - 1)).map fun j : Nat => [(1 : Int) + (j : Int) - 1, 1 + (j : Int) + 1]).map dI)), none, none] p = .nx [dd (.cls A.Web), dd (.int (n : Int)), dd (.int mk), dd (.lst (((List.range (n - 1)).map fun j : Nat => [(1 : Int) + (j : Int) - 1, 1 + (j : Int) + 1]).map dI)), none, dd (.lst ((lineS n).map dI))] p := by
    rw [← ew]
    have hz : (((List.range (n - 1)).map fun j : Nat => [(1 : Int) + (j : Int) - 1, 1 + (j : Int) + 1]).map dI).length + 2 ≤ 1000 := by simp; omega
    obtain ⟨L, hL⟩ : ∃ L, L = (((List.range (n - 1)).map fun j : Nat => [(1 : Int) + (j : Int) - 1, 1 + (j : Int) + 1]).map dI) := ⟨_, rfl⟩
    rw [← hL] at hz ⊢
    have hz2 : L.length + 1 + 1 ≤ 1000 := by omega
    simp [b_Web_line_3, mvar, astar, hz2]
  have r1 : fRep (.lst [.int mk]) (.int ((n : Int) + 1)) = some (dI (List.replicate (n + 1) mk)) := by
    show (if _ then _ else _) = _
    rw [if_pos (by omega)]
    simp only [dI, List.map_replicate]
    congr 3
  have r2 : fRep (.lst [.non]) (.int (n : Int)) = some (.lst (List.replicate n .non)) := by
    show (if _ then _ else _) = _
    rw [if_pos (by omega)]
    simp
  have r3 : fCat (.lst [.tup [.str "chips", .int 0]]) (.lst (List.replicate n .non)) = some (.lst ((some (true, 0) :: List.replicate n none).map dDue)) := by
    show (if _ then _ else _) = _
    rw [if_pos (by simp; omega)]
    simp [dDue]
  have eg : [.lst ((lineS n).map dI), .lst ((lineS n).map dI), dI (List.replicate (n + 1) mk), .lst ((some (true, 0) :: List.replicate n none).map dDue)] = encG (lineG n mk) := by
    simp only [encG, lineG, sqD, sqI, List.map_map, Function.comp_def]
    simp [dI, sqDue, sqD, dDue]
  have ei := Web_init_ev (lineG_valid h1 h2 hm) A p
  rw [← eg, lineG_wb] at ei
  unfold dn_Web_line
  rw [seq_nx T1, seq_nx T2, seq_nx T3]
  unfold b_Web_line_4
  rw [sret_ev, mmakeV_ev (by rfl)]
  simp only [mmake, mbind_ev, acons_ev, mvar, List.getElem?_cons_succ, List.getElem?_cons_zero, bind_ok, op2_ev, mfreeze_ev, mshort_ev, mtupd_ev, anil_ev, mret_ev, fAdd_int, mlift_some, List.length_cons, List.length_nil, Nat.reduceAdd, Nat.reduceLeDiff, if_true, r1, r2, r3, ei, toO_ok, outR_rt]
  rfl
end PL
namespace PL
open PySem L2 Den
section
variable {wb : Wb}
theorem dueI_step {d : Due} {k : Int} (k0 : 0 ≤ k) : dueI d k ≤ dueI d (k + 1) ∧ dueI d (k + 1) ≤ dueI d k + 1 := by
  rcases d with _ | ⟨_ | _, x⟩
  · show k + 1 ≤ k + 1 + 1 ∧ k + 1 + 1 ≤ k + 1 + 1
    omega
  · show max 0 (k + 1 - x) ≤ max 0 (k + 1 + 1 - x) ∧ max 0 (k + 1 + 1 - x) ≤ max 0 (k + 1 - x) + 1
    omega
  · show min x (k + 1) ≤ min x (k + 1 + 1) ∧ min x (k + 1 + 1) ≤ min x (k + 1) + 1
    omega
theorem prI_next (k : Int) (r : List Int) (i : Nat) : prI wb (k + 1) r i = if (wb.first[i]?.getD []).isEmpty then prI wb k r i + 1 else prI wb k r i := by
  unfold prI
  split
  · rfl
  · rfl
theorem numI_getD_nonneg (V : Valid wb) {k : Int} (k0 : 0 ≤ k) (i : Nat) : 0 ≤ (numI wb k)[i]?.getD 0 := by
  have nf := numI_falls V k0
  cases e : (numI wb k)[i]? with
  | none => exact Int.le_refl _
  | some v => exact (nf.parts v (List.mem_of_getElem? e)).1
/-- with one chip more a number is at most one greater -/
theorem num_shift (V : Valid wb) {k : Int} (k0 : 0 ≤ k) (i : Nat) : (numI wb (k + 1))[i]?.getD 0 ≤ (numI wb k)[i]?.getD 0 + 1 := by
  have nf := numI_falls V (k := k + 1) (by omega)
  have nl := nf.len
  obtain ⟨s, hs⟩ : ∃ s, s = tabI wb.marks.length fun i => max 0 ((numI wb (k + 1))[i]?.getD 0 - 1) := ⟨_, rfl⟩
  have sl : s.length = wb.marks.length := by rw [hs, tabI_len]
  have sat : ∀ i < wb.marks.length, s[i]?.getD 0 = max 0 ((numI wb (k + 1))[i]?.getD 0 - 1) := fun i hi => by rw [hs]; simp [tabI, hi]
  have s0 : ∀ x ∈ s, 0 ≤ x := fun x hx => by
    rw [hs] at hx
    obtain ⟨j, _, rfl⟩ := List.mem_map.mp hx
    omega
  have hL : Lower wb k s := by
    refine ⟨sl, fun i => ?_⟩
    by_cases hi : i < wb.marks.length
    · rw [nxI_getD, if_pos hi, sat i hi]
      have hlow := (numI_lower V (k := k + 1) (by omega)).2 i
      rw [nxI_getD, if_pos hi] at hlow
      have hd := dueI_step (d := wb.dues[i]?.getD none) k0
      have hd0 := dueI_range V k0 i
      have hp0 := prI_nonneg (wb := wb) k0 s0 i
      have hle : RowLe (moved (-1) (numI wb (k + 1))) s := fun j => by
        by_cases hj : j < wb.marks.length
        · rw [sat j hj]
          have : (moved (-1) (numI wb (k + 1)))[j]?.getD 0 = (numI wb (k + 1))[j]?.getD 0 + -1 := by
            unfold moved
            rw [List.getElem?_map, List.getElem?_eq_getElem (by omega)]
            rfl
          rw [this]; omega
        · rw [List.getElem?_eq_none (by rw [moved_len]; omega), List.getElem?_eq_none (by omega)]; exact Int.le_refl _
      have hp := prI_mono hle wb k i
      rw [prI_add V k nl (-1) hi] at hp
      have hpn := prI_next (wb := wb) k (numI wb (k + 1)) i
      split at hp
      · rename_i z
        rw [if_pos z] at hpn
        have : prI wb k (numI wb (k + 1)) i = k + 1 := by unfold prI; rw [if_pos z]
        omega
      · rename_i z
        rw [if_neg z] at hpn
        omega
    · rw [List.getElem?_eq_none (by omega), List.getElem?_eq_none (by rw [nxI_len]; omega)]; exact Int.le_refl _
  have h := numI_great V hL i
  by_cases hi : i < wb.marks.length
  · rw [sat i hi] at h; omega
  · rw [List.getElem?_eq_none (show (numI wb (k + 1)).length ≤ i by omega)]
    have := numI_getD_nonneg V k0 i
    show (0 : Int) ≤ _
    omega
/-- whoever may rise together stays to the end -/
theorem lf_above {k : Int} {r : List Int} {T : Nat → Bool} (h0 : ∀ i < r.length, T i = true → lfB wb k r 0 i = true) (h1 : ∀ i < r.length, T i = true → r[i]?.getD 0 < prI wb k (upI r T) i) : ∀ (j i : Nat), i < r.length → T i = true → lfB wb k r j i = true
  | 0, i, hi, e => h0 i hi e
  | j + 1, i, hi, e => by
    have ih := lf_above h0 h1 j
    show (lfB wb k r j i && !outB wb k r (lfB wb k r j) i) = true
    have hle : RowLe (upI r T) (upI r (lfB wb k r j)) := fun m => by
      rw [upI_getD, upI_getD]
      by_cases hm : m < r.length
      · rw [if_pos hm, if_pos hm]
        cases em : T m with
        | true => rw [ih m hm em]; exact Int.le_refl _
        | false => cases lfB wb k r j m <;> simp <;> omega
      · rw [if_neg hm, if_neg hm]; exact Int.le_refl _
    have hp := prI_mono hle wb k i
    have := h1 i hi e
    unfold outB
    rw [ih i hi e, decide_eq_false (by omega)]
    rfl
theorem row_ext {a b : List Int} (hl : a.length = b.length) (h : ∀ i < a.length, a[i]?.getD 0 = b[i]?.getD 0) : a = b := by
  refine List.ext_getElem hl fun i h1 h2 => ?_
  have := h i h1
  rw [List.getElem?_eq_getElem h1, List.getElem?_eq_getElem h2] at this
  exact this
/-- a lower row that is nowhere two below the numbers rises to them -/
theorem rise_num (V : Valid wb) {k : Int} (k0 : 0 ≤ k) {r : List Int} (hL : Lower wb k r) (hb : ∀ i : Nat, (numI wb k)[i]?.getD 0 ≤ r[i]?.getD 0 + 1) : upI r (lfB wb k r r.length) = numI wb k := by
  have nl := (numI_falls V k0).len
  have up := numI_great V (rest_lower hL)
  have lo := numI_great V hL
  have hrl := hL.1
  have eT : upI r (fun i => decide (r[i]?.getD 0 < (numI wb k)[i]?.getD 0)) = numI wb k := by
    refine row_ext (by rw [upI_len]; omega) fun i hi => ?_
    rw [upI_len] at hi
    rw [upI_getD, if_pos hi]
    have := hb i
    have := lo i
    by_cases c : r[i]?.getD 0 < (numI wb k)[i]?.getD 0
    · simp [c]; omega
    · simp [c]; omega
  have hT := lf_above (wb := wb) (k := k) (r := r) (T := fun i => decide (r[i]?.getD 0 < (numI wb k)[i]?.getD 0)) (fun i hi e => by
    have e := of_decide_eq_true e
    have hn := (numI_lower V k0).2 i
    rw [nxI_getD, if_pos (by omega)] at hn
    exact decide_eq_true (by omega)) (fun i hi e => by
    have e := of_decide_eq_true e
    rw [eT]
    have hn := (numI_lower V k0).2 i
    rw [nxI_getD, if_pos (by omega)] at hn
    omega) r.length
  refine row_ext (by rw [upI_len]; omega) fun i hi => ?_
  rw [upI_len] at hi
  have h1 := up i
  rw [upI_getD, if_pos hi] at h1 ⊢
  have h2 := hb i
  cases e : lfB wb k r r.length i with
  | true => rw [e] at h1; simp at h1 ⊢; omega
  | false =>
    have : ¬ r[i]?.getD 0 < (numI wb k)[i]?.getD 0 := fun c => by
      have := hT i hi (decide_eq_true c)
      rw [e] at this; cases this
    have := lo i
    simp
    omega
/-- the law's rows: nothing, then one rise after the other -/
def ownR (wb : Wb) : Nat → List Int
  | 0 => tabI wb.marks.length fun _ => 0
  | j + 1 => upI (ownR wb j) (lfB wb (j : Int) (ownR wb j) (ownR wb j).length)
theorem ownR_num (V : Valid wb) : ∀ j : Nat, ownR wb (j + 1) = numI wb (j : Int)
  | 0 => by
    refine rise_num V (Int.le_refl 0) (r := ownR wb 0) ⟨tabI_len _ _, fun i => ?_⟩ fun i => ?_
    · have z : (ownR wb 0)[i]?.getD 0 = 0 := by
        unfold ownR tabI
        by_cases hi : i < wb.marks.length
        · simp [hi]
        · rw [List.getElem?_eq_none (by simp; omega)]; rfl
      rw [z, nxI_getD]
      split
      · have h1 := dueI_range V (Int.le_refl 0) i
        have h2 := prI_nonneg (wb := wb) (Int.le_refl 0) (r := ownR wb 0) (fun x hx => by
          unfold ownR tabI at hx
          obtain ⟨_, _, rfl⟩ := List.mem_map.mp hx
          exact Int.le_refl _) i
        omega
      · exact Int.le_refl _
    · have z : (ownR wb 0)[i]?.getD 0 = 0 := by
        unfold ownR tabI
        by_cases hi : i < wb.marks.length
        · simp [hi]
        · rw [List.getElem?_eq_none (by simp; omega)]; rfl
      rw [z]
      have nf := numI_falls V (Int.le_refl 0)
      cases e : (numI wb 0)[i]? with
      | none => show (0 : Int) ≤ _; omega
      | some v => have := (nf.parts v (List.mem_of_getElem? e)).2; show v ≤ _; omega
  | j + 1 => by
    have ih := ownR_num V j
    have e : ownR wb (j + 1 + 1) = upI (ownR wb (j + 1)) (lfB wb ((j + 1 : Nat) : Int) (ownR wb (j + 1)) (ownR wb (j + 1)).length) := rfl
    rw [e, ih]
    have c : ((j + 1 : Nat) : Int) = (j : Int) + 1 := by omega
    rw [c]
    have j0 : (0 : Int) ≤ (j : Int) := by omega
    have nl := (numI_falls V j0).len
    refine rise_num V (by omega) ⟨nl, fun i => ?_⟩ fun i => num_shift V j0 i
    have hn := (numI_lower V j0).2 i
    by_cases hi : i < wb.marks.length
    · rw [nxI_getD, if_pos hi] at hn ⊢
      have hd := dueI_step (d := wb.dues[i]?.getD none) j0
      have hp := prI_next (wb := wb) (j : Int) (numI wb (j : Int)) i
      split at hp <;> omega
    · rw [List.getElem?_eq_none (by omega), List.getElem?_eq_none (by rw [nxI_len]; omega)]; exact Int.le_refl _
end
end PL
namespace PL
open PySem L2 Den
section
variable {row sl f s : List Int}
end
section
variable {wb : Wb} {k m : Int} {row sl rk : List Int}
end
end PL
namespace PL
open PySem L2 Den
section
variable (A : CA) {wb : Wb}
end
end PL
namespace PL
open PySem L2 Den
section
variable (A : CA) {wb : Wb}
end
end PL
namespace PL
open PySem L2 Den
section
variable {wb : Wb}
end
end PL
namespace PL
open PySem L2 Den
section
variable {wb : Wb}
theorem law_true_row_ev (V : Valid wb) {k : Int} {r : List Int} (hl : r.length = wb.marks.length) (h0 : ∀ i < r.length, 0 ≤ r[i]?.getD 0) (h1 : ∀ i < r.length, r[i]?.getD 0 ≤ dueI (wb.dues[i]?.getD none) k) (h2 : ∀ i < r.length, r[i]?.getD 0 ≤ prI wb k r i) (h3 : ∀ i < r.length, lfB wb k r r.length i = false) (p : S) : D_law_true_row [.lst (encW wb), .int k, lI r] p = .ok (.bl true) p := by
  have n2 := V.n2
  have hrn := rngN (n := r.length) (by omega)
  obtain ⟨o', e⟩ := loop_env (i := 3) (body := L_law_true_row_1) (fun o => [dd (.lst (encW wb)), dd (.int k), dd (lI r), o]) (p := p) (fun _ _ => rfl) (ds := rngD 0 r.length) (fun d hd => by
    obtain ⟨i, hi, rfl⟩ := rngD_mem hd
    rw [Int.zero_add]
    have a1 := atI_row (r := r) hi
    have a2 := due_law V k (i := i) (by omega) p
    have a3 := due_at_ev (wb.dues[i]?.getD none) k p
    have a4 : D_law_price [.lst (encW wb), .int k, lI r, .int (i : Int)] p = _ := law_price_all V hl k (i := i) (by omega) p
    have b0 : ¬ r[i]?.getD 0 < 0 := by have := h0 i hi; omega
    have b1 : ¬ dueI (wb.dues[i]?.getD none) k < r[i]?.getD 0 := by have := h1 i hi; omega
    have b2 : ¬ prI wb k r i < r[i]?.getD 0 := by have := h2 i hi; omega
    have S1 : b_law_true_row_1l1 [dd (.lst (encW wb)), dd (.int k), dd (lI r), dd (.int (i : Int))] p = .nx [dd (.lst (encW wb)), dd (.int k), dd (lI r), dd (.int (i : Int))] p := by
      simp [b_law_true_row_1l1, mvar, enc3, a1, a2, a3, b0, b1]
    unfold L_law_true_row_1
    rw [seq_nx S1]
    simp [b_law_true_row_1l2, mvar, a1, a4, b2]) none
  have T1 : b_law_true_row_1 [dd (.lst (encW wb)), dd (.int k), dd (lI r), none] p = .nx [dd (.lst (encW wb)), dd (.int k), dd (lI r), o'] p := by
    unfold b_law_true_row_1
    simp only [sfor_ev, mbind_ev, acons_ev, opn_ev, mvar, anil_ev, List.getElem?_cons_succ, List.getElem?_cons_zero, bind_ok, fLen_lst, List.length_map, mlift_some, hrn, toO_ok]
    exact e
  have hrest : setI r.length (lfB wb k r r.length) = [] := by
    unfold setI
    rw [List.map_eq_nil_iff, List.filter_eq_nil_iff]
    intro i hi
    rw [h3 i (List.mem_range.mp hi)]
    exact Bool.false_ne_true
  have e5 := law_fall_ev V hl (k := k) p
  rw [hrest] at e5
  unfold D_law_true_row
  rw [denF_ev (by rfl)]
  show outR (dn_law_true_row [dd (.lst (encW wb)), dd (.int k), dd (lI r), none] p) = _
  unfold dn_law_true_row
  rw [seq_nx T1]
  simp [b_law_true_row_2, mvar, e5]
structure Case where
  k : Int
  row : List Int
  rk : List Int
  m : Int
  sl : List Int
  sp : Option Int
structure GoodC (wb : Wb) (c : Case) : Prop where
  k0 : 0 ≤ c.k
  k1 : c.k ≤ 100
  m0 : 1 ≤ c.m
  m1 : c.m ≤ 20
  l1 : c.row.length = wb.marks.length
  l2 : c.rk.length = wb.marks.length
  l3 : c.sl.length = wb.marks.length
  p1 : ∀ x ∈ c.row, 0 ≤ x
  p2 : ∀ x ∈ c.rk, 0 ≤ x
  p3 : ∀ x ∈ c.sl, 0 ≤ x
  own : ∀ s, c.sp = some s → s = 0 ∨ s > 3 → Lower wb c.k c.row ∧ c.rk = ranksI wb c.k c.row ∧ ∀ i < c.row.length, lfB wb c.k c.row c.row.length i = false
end
end PL
namespace PL
open PySem L2 Den
section
variable {wb : Wb}
end
end PL
namespace PL
open PySem L2 Den
section
variable (A : CA) {wb : Wb}
end
end PL
namespace PL
open PySem L2 Den
section
variable {mk k P x y : Int} {n : Nat} {w : Str}
end
end PL
namespace PL
open PySem L2 Den
section
variable (A : CA) {wb : Wb}
end
end PL
namespace PL
open PySem L2 Den
section
variable (A : CA) {wb : Wb}
end
def rowT (wb : Wb) (k : Int) : Nat → List Int
  | 0 => duesI wb k
  | t + 1 => nxI wb k (rowT wb k t)
structure Rest (wb : Wb) (k : Int) (T : Nat) : Prop where
  eq : rowT wb k (T + 1) = rowT wb k T
  ne : ∀ t < T, rowT wb k (t + 1) ≠ rowT wb k t
  lt : T < wb.marks.length * (k.toNat + 2) + 2
section
variable {wb : Wb} {k : Int}
theorem Rest.after {T : Nat} (R : Rest wb k T) : ∀ d, rowT wb k (T + d) = rowT wb k T
  | 0 => rfl
  | d + 1 => by
    show nxI wb k (rowT wb k (T + d)) = _
    rw [R.after d]
    exact R.eq
end
end PL
namespace PL
open PySem L2 Den
def goes : Option Int → Nat → Bool
  | none, _ => true
  | some m, t => decide ((t : Int) < m)
theorem saug_ev {i : Nat} {f : Int → Int → Int} {a : M D} {l : Den.Loc} {p q : S} {x y : Int} (h : l[i]? = some (dd (.int x))) (ha : a l p = .ok (.int y) q) : saug i f a l p = .nx (l.set i (dd (.int (f x y)))) q := by
  unfold saug
  simp [Den.intAt, h, ha, sbind_ev]
section
variable (A : CA) {wb : Wb}
end
end PL
namespace PL
open PySem L2 Den
section
variable (A : CA) {wb : Wb}
end
end PL
namespace PL
open PySem L2 Den
section
variable (A : CA) {wb : Wb}
end
end PL
namespace PL
open PySem L2 Den
section
variable (A : CA) {wb : Wb}
end
end PL
namespace PL
open PySem L2 Den
section
variable (A : CA)
end
end PL
namespace PL
open PySem L2 Den
def bitN : Nat → (Nat → Bool) → Nat
  | 0, _ => 0
  | n + 1, z => bitN n z + if z n then 2 ^ n else 0
theorem bitN_lt (z : Nat → Bool) : ∀ n, bitN n z < 2 ^ n
  | 0 => by simp [bitN]
  | n + 1 => by
    have := bitN_lt z n
    unfold bitN
    rw [Nat.pow_succ]
    split <;> omega
theorem bitN_test (z : Nat → Bool) (i : Nat) : ∀ n, (bitN n z).testBit i = (decide (i < n) && z i)
  | 0 => by simp [bitN]
  | n + 1 => by
    have ih := bitN_test z i n
    have hl := bitN_lt z n
    unfold bitN
    by_cases h : z n = true
    · rw [if_pos h, Nat.add_comm]
      rcases Nat.lt_trichotomy i n with c | c | c
      · rw [Nat.testBit_two_pow_add_gt c, ih]
        simp [c, Nat.lt_succ_of_lt c]
      · subst c
        rw [Nat.testBit_two_pow_add_eq, ih]
        simp [h]
      · have : 2 ^ n + bitN n z < 2 ^ i := Nat.lt_of_lt_of_le (by rw [Nat.pow_succ]; omega : _ < 2 ^ (n + 1)) (Nat.pow_le_pow_right (by decide) c)
        rw [Nat.testBit_lt_two_pow this]
        simp [show ¬ i < n + 1 by omega]
    · rw [if_neg h, Nat.add_zero, ih]
      by_cases c : i = n
      · subst c; simp [h]
      · have : (i < n) ↔ (i < n + 1) := by omega
        simp [this]
theorem bitN_congr {z y : Nat → Bool} : ∀ {n : Nat}, (∀ i < n, z i = y i) → bitN n z = bitN n y
  | 0, _ => rfl
  | n + 1, h => by
    unfold bitN
    rw [bitN_congr fun i hi => h i (by omega), h n (by omega)]
theorem bitN_ext {n b : Nat} {z : Nat → Bool} (h : ∀ i, b.testBit i = (decide (i < n) && z i)) : b = bitN n z := Nat.eq_of_testBit_eq fun i => by rw [h, bitN_test]
theorem bitN_zero {n : Nat} {z : Nat → Bool} : bitN n z = 0 ↔ ∀ i < n, z i = false := by
  constructor
  · intro h i hi
    have := bitN_test z i n
    rw [h] at this
    simpa [hi] using this.symm
  · intro h
    refine (bitN_ext (n := n) (z := z) (b := 0) fun i => ?_).symm
    by_cases c : i < n
    · simp [h i c]
    · simp [c]
theorem bitN_split (z y : Nat → Bool) : ∀ n, bitN n z = bitN n (fun i => z i && y i) + bitN n fun i => z i && !y i
  | 0 => rfl
  | n + 1 => by
    have ih := bitN_split z y n
    show bitN n z + (if z n = true then 2 ^ n else 0) = (bitN n (fun i => z i && y i) + if (z n && y n) = true then 2 ^ n else 0) + (bitN n (fun i => z i && !y i) + if (z n && !y n) = true then 2 ^ n else 0)
    rw [ih]
    cases h1 : z n <;> cases h2 : y n <;> simp <;> omega
theorem bitN_and (n : Nat) (z y : Nat → Bool) : bitN n z &&& bitN n y = bitN n fun i => z i && y i := bitN_ext fun i => by
  rw [Nat.testBit_and, bitN_test, bitN_test]
  cases decide (i < n) <;> simp
theorem bitN_or (n : Nat) (z y : Nat → Bool) : bitN n z ||| bitN n y = bitN n fun i => z i || y i := bitN_ext fun i => by
  rw [Nat.testBit_or, bitN_test, bitN_test]
  cases decide (i < n) <;> simp
theorem band_nat (a b : Nat) : Builtin.bitAnd (a : Int) (b : Int) = ((a &&& b : Nat) : Int) := by
  unfold Builtin.bitAnd
  rw [decide_eq_true (Int.natCast_nonneg a), decide_eq_true (Int.natCast_nonneg b)]
  simp
theorem bor_nat (a b : Nat) : Builtin.bitOr (a : Int) (b : Int) = ((a ||| b : Nat) : Int) := by
  unfold Builtin.bitOr Builtin.bitAnd
  have h : ∀ c : Nat, decide (0 ≤ Builtin.bitNot (c : Int)) = false := fun c => decide_eq_false (by unfold Builtin.bitNot; omega)
  have h2 : ∀ c : Int, Builtin.bitNot (Builtin.bitNot c) = c := fun c => by unfold Builtin.bitNot; omega
  rw [h, h]
  simp only [h2]
  simp
theorem bnot_nat (a b : Nat) : Builtin.bitAnd (a : Int) (Builtin.bitNot (b : Int)) = (a : Int) - ((a &&& b : Nat) : Int) := by
  unfold Builtin.bitAnd
  have h : decide (0 ≤ Builtin.bitNot (b : Int)) = false := decide_eq_false (by unfold Builtin.bitNot; omega)
  have h2 : ∀ c : Int, Builtin.bitNot (Builtin.bitNot c) = c := fun c => by unfold Builtin.bitNot; omega
  rw [decide_eq_true (Int.natCast_nonneg a), h]
  simp only [h2]
  simp
/-- the bits as a datum -/
abbrev bI (n : Nat) (z : Nat → Bool) : D := .int ((bitN n z : Nat) : Int)
theorem fAnd_bI (n : Nat) (z y : Nat → Bool) : fAnd (bI n z) (bI n y) = some (bI n fun i => z i && y i) := by
  show some (D.int (Builtin.bitAnd _ _)) = _
  rw [band_nat, bitN_and]
theorem fOr_bI (n : Nat) (z y : Nat → Bool) : fOr (bI n z) (bI n y) = some (bI n fun i => z i || y i) := by
  show some (D.int (Builtin.bitOr _ _)) = _
  rw [bor_nat, bitN_or]
theorem fInv_and_bI (n : Nat) (z y : Nat → Bool) : (fInv (bI n y)).bind (fun w => fAnd (bI n z) w) = some (bI n fun i => z i && !y i) := by
  show some (D.int (Builtin.bitAnd _ (Builtin.bitNot _))) = _
  rw [bnot_nat, bitN_and]
  have := bitN_split z y n
  congr 2
  omega
theorem truOf_bI (n : Nat) (z : Nat → Bool) : truOf (bI n z) = some (!decide (∀ i < n, z i = false)) := by
  show some (((bitN n z : Nat) : Int) != 0) = _
  congr 1
  by_cases h : ∀ i < n, z i = false
  · rw [bitN_zero.mpr h, decide_eq_true h]; rfl
  · rw [decide_eq_false h]
    have : bitN n z ≠ 0 := fun e => h (bitN_zero.mp e)
    simp [this]
/-- b >> i & 1 -/
theorem bit_at (b i : Nat) : (fShr (.int (b : Int)) (.int (i : Int))).bind (fun w => (fAnd w (.int 1)).bind truOf) = some (b.testBit i) := by
  have e : fShr (.int (b : Int)) (.int (i : Int)) = some (.int ((b / 2 ^ i : Nat) : Int)) := by
    show (if (0 : Int) ≤ (i : Int) then some (D.int ((b : Int) / 2 ^ (i : Int).toNat)) else none) = _
    rw [if_pos (Int.natCast_nonneg i), Int.toNat_natCast]
    congr 2
  have e2 : fAnd (.int ((b / 2 ^ i : Nat) : Int)) (.int 1) = some (.int ((b / 2 ^ i % 2 : Nat) : Int)) := by
    have h1 : (1 : Int) = ((1 : Nat) : Int) := rfl
    show some (D.int (Builtin.bitAnd _ _)) = _
    rw [h1, band_nat, Nat.and_one_is_mod]
  rw [e, Option.bind_some, e2, Option.bind_some, Nat.testBit_eq_decide_div_mod_eq]
  show some (((b / 2 ^ i % 2 : Nat) : Int) != 0) = _
  congr 1
  rcases Nat.mod_two_eq_zero_or_one (b / 2 ^ i) with h | h <;> rw [h] <;> rfl
end PL
namespace PL
open PySem L2 Den
/-- ascending stands, told by their set -/
theorem asc_setI {n : Nat} {ss : List Int} (ha : ss.Pairwise (· < ·)) (h : ∀ x ∈ ss, 0 ≤ x ∧ x < (n : Int)) : ss = setI n fun i => decide ((i : Int) ∈ ss) := asc_ext ha (setI_asc _ _) fun x => by
  rw [setI_mem]
  constructor
  · intro hx
    obtain ⟨h0, h1⟩ := h x hx
    exact ⟨x.toNat, by omega, by rw [Int.toNat_of_nonneg h0]; simpa using hx, by omega⟩
  · rintro ⟨i, hi, hd, rfl⟩
    simpa using hd
theorem setI_succ (n : Nat) (z : Nat → Bool) : setI (n + 1) z = setI n z ++ if z n then [(n : Int)] else [] := by
  unfold setI
  rw [List.range_succ, List.filter_append, List.map_append]
  congr 1
  cases h : z n <;> simp [h]
theorem sum_app (a b : List Int) : (a ++ b).sum = a.sum + b.sum := by
  induction a with
  | nil => simp
  | cons x a ih => simp [ih, Int.add_assoc]
theorem sum_setI (z : Nat → Bool) : ∀ n, ((setI n z).map fun x => (1 : Int) * 2 ^ x.toNat).sum = ((bitN n z : Nat) : Int)
  | 0 => rfl
  | n + 1 => by
    rw [setI_succ, List.map_append, sum_app, sum_setI z n]
    show _ = ((bitN n z + (if z n = true then 2 ^ n else 0) : Nat) : Int)
    cases h : z n <;> simp
theorem bits_list {n : Nat} (hn : n ≤ 1000) (z : Nat → Bool) {d : D} (hd : seqOf d = some ((setI n z).map .int)) (p : S) : D_bits_of [d] p = .ok (bI n z) p := by
  have hl := setI_len n z
  obtain ⟨L, hL⟩ : ∃ L, L = (setI n z).map fun x => (1 : Int) * 2 ^ x.toNat := ⟨_, rfl⟩
  have K : c_bits_of_1 [dd d, none] p = .ok (L.map .int) p := by
    rw [hL]
    unfold c_bits_of_1
    rw [mcomp_ev (ds := (setI n z).map .int) (p' := p) (by simp [mvar, hd]) (by rw [List.length_map]; omega)]
    rw [comp_mapL (by simp) D.int (fun x => .int ((1 : Int) * 2 ^ x.toNat)) (fun x hx => ?_), List.map_map]
    · rfl
    · obtain ⟨i, hi, _, rfl⟩ := setI_mem.mp hx
      have : fShl (.int 1) (.int (i : Int)) = some (.int (1 * 2 ^ (i : Int).toNat)) := by
        show (if (0 : Int) ≤ (i : Int) ∧ (i : Int).natAbs ≤ 1000000 ∧ (1 : Int).natAbs < 18446744073709551616 then some (D.int (1 * 2 ^ (i : Int).toNat)) else none) = _
        rw [if_pos ⟨Int.natCast_nonneg i, by omega, by decide⟩]
      simp [mvar, this]
  have e1 : fSum [.lst (L.map .int)] = some (bI n z) := by
    show (intsOf _).map _ = _
    rw [intsOf_map, Option.map_some, hL, sum_setI]
  simp [D_bits_of, denF, dn_bits_of, locOf, K, e1]
theorem intBits_bd (b : Nat) (i : Nat) (h : b.testBit i = true) : i < Builtin.Int.intBits (b : Int) := by
  apply Classical.byContradiction
  intro c
  have h2 : Builtin.Int.intBits (b : Int) ≤ i := by omega
  have h3 := (intBits_le_iff (m := i) (x := (b : Int))).mp h2
  rw [Int.natAbs_natCast] at h3
  rw [Nat.testBit_lt_two_pow h3] at h
  cases h
theorem stands_list (A : CA) {n : Nat} (hn : n ≤ 900) (z : Nat → Bool) (p : S) : D_stands_of A [bI n z] p = .ok (tI (setI n z)) p := by
  have hb : Builtin.Int.intBits ((bitN n z : Nat) : Int) ≤ n := intBits_le_iff.mpr (by rw [Int.natAbs_natCast]; exact bitN_lt z n)
  obtain ⟨m, hm⟩ : ∃ m, m = Builtin.Int.intBits ((bitN n z : Nat) : Int) := ⟨_, rfl⟩
  have K : c_stands_of_1 [dd (bI n z), none] p = .ok ((setI n z).map .int) p := by
    unfold c_stands_of_1
    have e0 : fBits (bI n z) = some (.int (m : Int)) := by rw [hm]; rfl
    have e1 := rng1_int (n := (m : Int)) (by omega)
    rw [mcomp_ev (ds := rngD 0 m) (p' := p) (by simp [mvar, e0, e1]) (by rw [rngD_len]; omega)]
    rw [rngD_map]
    rw [comp_filterL (by simp) D.int (fun x => (bitN n z).testBit x.toNat) (fun x hx => by
      obtain ⟨i, hi, _, rfl⟩ := setI_mem.mp hx
      have hb := bit_at (bitN n z) i
      rw [Int.toNat_natCast]
      cases e2 : fShr (bI n z) (.int (i : Int)) with
      | none => rw [e2] at hb; cases hb
      | some w =>
        rw [e2, Option.bind_some] at hb
        cases e3 : fAnd w (.int 1) with
        | none => rw [e3] at hb; cases hb
        | some u =>
          rw [e3, Option.bind_some] at hb
          simp [mvar, e2, e3, hb]) (fun x hx => by simp [mvar])]
    rw [setI_filter m (fun _ => true) (fun i => (bitN n z).testBit i) _ (fun i hi _ => by rw [Int.toNat_natCast])]
    congr 2
    refine asc_ext (setI_asc _ _) (setI_asc _ _) fun x => ?_
    rw [setI_mem, setI_mem]
    constructor
    · rintro ⟨i, hi, hb, rfl⟩
      rw [Bool.true_and, bitN_test, Bool.and_eq_true] at hb
      exact ⟨i, of_decide_eq_true hb.1, hb.2, rfl⟩
    · rintro ⟨i, hi, hb, rfl⟩
      have ht : (bitN n z).testBit i = true := by rw [bitN_test, decide_eq_true hi, hb]; rfl
      exact ⟨i, by rw [hm]; exact intBits_bd _ _ ht, by rw [ht]; rfl, rfl⟩
  simp [D_stands_of, denF, dn_stands_of, locOf, K]
/-- a bit of a set -/
theorem bit_bI {n i : Nat} (hi : i < n) (z : Nat → Bool) : (fShr (bI n z) (.int (i : Int))).bind (fun w => (fAnd w (.int 1)).bind truOf) = some (z i) := by
  rw [bit_at, bitN_test, decide_eq_true hi, Bool.true_and]
end PL
namespace PL
open PySem L2 Den
theorem nomrL_all : ∀ ds : List D, nomrL ds = ds.all nomr
  | [] => rfl
  | d :: ds => by rw [nomrL, nomrL_all ds, List.all_cons]
theorem nomr_ints (ns : List Int) : nomrL (ns.map D.int) = true := by
  rw [nomrL_all, List.all_eq_true]
  intro d hd
  obtain ⟨i, _, rfl⟩ := List.mem_map.mp hd
  rfl
@[simp] theorem nomr_lI (ns : List Int) : nomr (.lst (ns.map D.int)) = true := by rw [nomr]; exact nomr_ints ns
@[simp] theorem nomr_tI (ns : List Int) : nomr (.tup (ns.map D.int)) = true := by rw [nomr]; exact nomr_ints ns
theorem nomr_row {rd : D} {r : List Int} (h : IsRow rd r) : nomr rd = true := by
  rcases h with rfl | rfl
  · exact nomr_lI r
  · exact nomr_tI r
theorem nomr_map {α : Type} (f : α → D) (h : ∀ a, nomr (f a) = true) (xs : List α) : nomrL (xs.map f) = true := by
  rw [nomrL_all, List.all_eq_true]
  intro d hd
  obtain ⟨a, _, rfl⟩ := List.mem_map.mp hd
  exact h a
theorem nomr_due (d : Due) : nomr (dDue d) = true := by
  rcases d with _ | ⟨_ | _, x⟩ <;> rfl
theorem nomr_rng (f : D → Bool) (n : Nat) : nomrL ((rngD 0 n).filter f) = true := by
  rw [nomrL_all, List.all_eq_true]
  intro d hd
  have h1 := (List.mem_filter.mp hd).1
  unfold rngD at h1
  obtain ⟨a, _, rfl⟩ := List.mem_map.mp h1
  rfl
@[simp] theorem nomr_web (A : CA) (wb : Wb) : nomr (insW A wb) = true := by
  have g : nomr (gdD wb) = true := by unfold gdD; split <;> rfl
  have f1 := nomr_map dS (fun ss => nomr_tI _) wb.first
  have f2 := nomr_map dS (fun ss => nomr_tI _) wb.second
  have f3 := nomr_ints wb.marks
  have f4 := nomr_map dDue nomr_due wb.dues
  have f5 := nomr_rng (fun d => !moves wb d) wb.marks.length
  have f6 := nomr_rng (fun d => moves wb d) wb.marks.length
  unfold insW wfields
  simp only [nomr, nomrL, f1, f2, f3, f4, f5, f6, g, Bool.and_self]
def mvB (wb : Wb) (i : Nat) : Bool := !(wb.first[i]?.getD []).isEmpty
def fsB (wb : Wb) (i j : Nat) : Bool := decide ((j : Int) ∈ wb.first[i]?.getD [])
def scB (wb : Wb) (i j : Nat) : Bool := decide ((j : Int) ∈ wb.second[i]?.getD [])
def bfB (wb : Wb) (i j : Nat) : Bool := mvB wb j && (fsB wb j i || scB wb j i)
theorem moves_ev (wb : Wb) (V : Valid wb) {i : Nat} (hi : i < wb.marks.length) : moves wb (.int (i : Int)) = mvB wb i := by
  have l1 := V.l1
  have e : fIx (.lst (wb.first.map dI)) (.int (i : Int)) = some (dI (wb.first[i]?.getD [])) := by
    show atI _ _ = _
    refine atI_nat ?_
    rw [List.getElem?_map, List.getElem?_eq_getElem (by omega)]
    rfl
  unfold moves mvB
  rw [e]
  simp only [Option.bind_some]
  unfold dI
  cases wb.first[i]?.getD [] <;> rfl
theorem rng_filt (wb : Wb) (V : Valid wb) : (rngD 0 wb.marks.length).filter (fun d => moves wb d) = (setI wb.marks.length (mvB wb)).map .int := by
  unfold rngD setI
  rw [List.filter_map, List.map_map]
  congr 1
  · funext i
    show D.int (0 + (i : Int)) = _
    rw [Int.zero_add]; rfl
  · refine List.filter_congr fun i hi => ?_
    show moves wb (.int (0 + (i : Int))) = _
    rw [Int.zero_add]
    exact moves_ev wb V (List.mem_range.mp hi)
@[simp] theorem f_moving (A : CA) {wb : Wb} (V : Valid wb) : fFld A.Web "_moving" (insW A wb) = some (tI (setI wb.marks.length (mvB wb))) := by
  unfold insW
  rw [fld_ins]
  refine (lk_ne (by decide +kernel)).trans ?_
  refine (lk_ne (by decide +kernel)).trans ?_
  refine (lk_ne (by decide +kernel)).trans ?_
  refine (lk_ne (by decide +kernel)).trans ?_
  refine (lk_ne (by decide +kernel)).trans ?_
  refine (lk_ne (by decide +kernel)).trans ?_
  refine lk_eq.trans ?_
  rw [rng_filt wb V]
def hNames : List Str := ["_marks", "_moving", "_row", "_firsts", "_seconds", "_before", "_lows", "_highs", "_low_stands", "_high_stands"]
def setsD (n : Nat) (f : Nat → Nat → Bool) : List D := (List.range n).map fun i => bI n (f i)
def hD (wb : Wb) (n : Nat) : List D := [.tup (wb.marks.map .int), tI (setI wb.marks.length (mvB wb)), .mr (n + 1), .lst (setsD wb.marks.length (fsB wb)), .lst (setsD wb.marks.length (scB wb)), .lst (setsD wb.marks.length (bfB wb)), .mr (n + 2), .mr (n + 3), .mr (n + 4), .mr (n + 5)]
theorem setsD_at {n : Nat} (f : Nat → Nat → Bool) {i : Nat} (hi : i < n) : atI (setsD n f) (i : Int) = some (bI n (f i)) := atI_nat (by
  unfold setsD
  rw [List.getElem?_map, List.getElem?_range hi]
  rfl)
/-- the object at n, its row, lows, highs and sets -/
structure HV (A : CA) (wb : Wb) (n : Nat) (row lo hi : List Int) (ls hs : List D) (p : S) : Prop where
  ob : p.st[n]? = some (.ins A.Heights hNames (hD wb n))
  rw : p.st[n + 1]? = some (.lst (row.map .int))
  lo : p.st[n + 2]? = some (.lst (lo.map .int))
  hi : p.st[n + 3]? = some (.lst (hi.map .int))
  ls : p.st[n + 4]? = some (.lst ls)
  hs : p.st[n + 5]? = some (.lst hs)
section
variable {A : CA} {wb : Wb} {n : Nat} {row lo hi : List Int} {ls hs : List D} {p : S}
theorem fldM_mr {C : Addr} {f : Str} {ns : List Str} {ds : List D} {j : Nat} (h : p.st[j]? = some (.ins C ns ds)) : fldM C f (.mr j) p = (ns.zip ds).lookup f := by
  unfold fldM
  dsimp only
  rw [h]
  exact if_pos rfl
theorem HV.marks (h : HV A wb n row lo hi ls hs p) : fldM A.Heights "_marks" (.mr n) p = some (.tup (wb.marks.map .int)) := by
  rw [fldM_mr h.ob]
  exact lk_eq
theorem HV.moving (h : HV A wb n row lo hi ls hs p) : fldM A.Heights "_moving" (.mr n) p = some (tI (setI wb.marks.length (mvB wb))) := by
  rw [fldM_mr h.ob]
  refine (lk_ne (by decide +kernel)).trans ?_
  exact lk_eq
theorem HV.fRow (h : HV A wb n row lo hi ls hs p) : fldM A.Heights "_row" (.mr n) p = some (.mr (n + 1)) := by
  rw [fldM_mr h.ob]
  refine (lk_ne (by decide +kernel)).trans ?_
  refine (lk_ne (by decide +kernel)).trans ?_
  exact lk_eq
theorem HV.fFirsts (h : HV A wb n row lo hi ls hs p) : fldM A.Heights "_firsts" (.mr n) p = some (.lst (setsD wb.marks.length (fsB wb))) := by
  rw [fldM_mr h.ob]
  refine (lk_ne (by decide +kernel)).trans ?_
  refine (lk_ne (by decide +kernel)).trans ?_
  refine (lk_ne (by decide +kernel)).trans ?_
  exact lk_eq
theorem HV.fSeconds (h : HV A wb n row lo hi ls hs p) : fldM A.Heights "_seconds" (.mr n) p = some (.lst (setsD wb.marks.length (scB wb))) := by
  rw [fldM_mr h.ob]
  refine (lk_ne (by decide +kernel)).trans ?_
  refine (lk_ne (by decide +kernel)).trans ?_
  refine (lk_ne (by decide +kernel)).trans ?_
  refine (lk_ne (by decide +kernel)).trans ?_
  exact lk_eq
theorem HV.fBefore (h : HV A wb n row lo hi ls hs p) : fldM A.Heights "_before" (.mr n) p = some (.lst (setsD wb.marks.length (bfB wb))) := by
  rw [fldM_mr h.ob]
  refine (lk_ne (by decide +kernel)).trans ?_
  refine (lk_ne (by decide +kernel)).trans ?_
  refine (lk_ne (by decide +kernel)).trans ?_
  refine (lk_ne (by decide +kernel)).trans ?_
  refine (lk_ne (by decide +kernel)).trans ?_
  exact lk_eq
theorem HV.fLows (h : HV A wb n row lo hi ls hs p) : fldM A.Heights "_lows" (.mr n) p = some (.mr (n + 2)) := by
  rw [fldM_mr h.ob]
  refine (lk_ne (by decide +kernel)).trans ?_
  refine (lk_ne (by decide +kernel)).trans ?_
  refine (lk_ne (by decide +kernel)).trans ?_
  refine (lk_ne (by decide +kernel)).trans ?_
  refine (lk_ne (by decide +kernel)).trans ?_
  refine (lk_ne (by decide +kernel)).trans ?_
  exact lk_eq
theorem HV.fHighs (h : HV A wb n row lo hi ls hs p) : fldM A.Heights "_highs" (.mr n) p = some (.mr (n + 3)) := by
  rw [fldM_mr h.ob]
  refine (lk_ne (by decide +kernel)).trans ?_
  refine (lk_ne (by decide +kernel)).trans ?_
  refine (lk_ne (by decide +kernel)).trans ?_
  refine (lk_ne (by decide +kernel)).trans ?_
  refine (lk_ne (by decide +kernel)).trans ?_
  refine (lk_ne (by decide +kernel)).trans ?_
  refine (lk_ne (by decide +kernel)).trans ?_
  exact lk_eq
theorem HV.fLs (h : HV A wb n row lo hi ls hs p) : fldM A.Heights "_low_stands" (.mr n) p = some (.mr (n + 4)) := by
  rw [fldM_mr h.ob]
  refine (lk_ne (by decide +kernel)).trans ?_
  refine (lk_ne (by decide +kernel)).trans ?_
  refine (lk_ne (by decide +kernel)).trans ?_
  refine (lk_ne (by decide +kernel)).trans ?_
  refine (lk_ne (by decide +kernel)).trans ?_
  refine (lk_ne (by decide +kernel)).trans ?_
  refine (lk_ne (by decide +kernel)).trans ?_
  refine (lk_ne (by decide +kernel)).trans ?_
  exact lk_eq
theorem HV.fHs (h : HV A wb n row lo hi ls hs p) : fldM A.Heights "_high_stands" (.mr n) p = some (.mr (n + 5)) := by
  rw [fldM_mr h.ob]
  refine (lk_ne (by decide +kernel)).trans ?_
  refine (lk_ne (by decide +kernel)).trans ?_
  refine (lk_ne (by decide +kernel)).trans ?_
  refine (lk_ne (by decide +kernel)).trans ?_
  refine (lk_ne (by decide +kernel)).trans ?_
  refine (lk_ne (by decide +kernel)).trans ?_
  refine (lk_ne (by decide +kernel)).trans ?_
  refine (lk_ne (by decide +kernel)).trans ?_
  refine (lk_ne (by decide +kernel)).trans ?_
  exact lk_eq
theorem ixM_mr {j : Nat} {ds : List D} {i : Int} (h : p.st[j]? = some (.lst ds)) : ixM (.mr j) (.int i) p = atI ds i := by
  unfold ixM
  dsimp only
  rw [h]
theorem plcM_mr {j : Nat} {ds : List D} (h : p.st[j]? = some (.lst ds)) : plcM (.mr j) p = some (j, ds) := by
  unfold plcM
  dsimp only
  rw [h]
/-- a method of the object -/
theorem HV.meth (h : HV A wb n row lo hi ls hs p) {m : Str} (hm : hNames.contains m = false) : insMM A.Heights m (.mr n) p = some (.mr n) := by
  unfold insMM
  dsimp only
  rw [h.ob]
  exact if_pos ⟨rfl, hm⟩
end
end PL
namespace PL
open PySem L2 Den
section
variable {A : CA} {wb : Wb} {n : Nat} {row : List Int} {p : S}
def loI (wb : Wb) (row : List Int) : List Int := tabI wb.marks.length fun i => if mvB wb i then lowI row (wb.first[i]?.getD []) else 0
def hiI (wb : Wb) (row : List Int) : List Int := tabI wb.marks.length fun i => if mvB wb i then highI row (wb.second[i]?.getD []) else 0
def lsB (wb : Wb) (row : List Int) (i j : Nat) : Bool := mvB wb i && fsB wb i j && decide (row[j]?.getD 0 = lowI row (wb.first[i]?.getD []))
def hsB2 (wb : Wb) (row : List Int) (i j : Nat) : Bool := mvB wb i && scB wb i j && decide (row[j]?.getD 0 = highI row (wb.second[i]?.getD []))
/-- the object as it is between its methods -/
def HG (A : CA) (wb : Wb) (n : Nat) (row : List Int) (p : S) : Prop := row.length = wb.marks.length ∧ HV A wb n row (loI wb row) (hiI wb row) (setsD wb.marks.length (lsB wb row)) (setsD wb.marks.length (hsB2 wb row)) p
theorem tabI_at {n : Nat} (f : Nat → Int) {i : Nat} (hi : i < n) : atI ((tabI n f).map D.int) (i : Int) = some (.int (f i)) := atI_nat (by
  unfold tabI
  rw [List.getElem?_map, List.getElem?_map, List.getElem?_range hi]
  rfl)
/-- the steps of a stand that has some -/
theorem first_in (V : Valid wb) (i : Nat) : ∀ x ∈ wb.first[i]?.getD [], 0 ≤ x ∧ x < (wb.marks.length : Int) := fun x hx => by
  cases e : wb.first[i]? with
  | none => rw [e] at hx; cases hx
  | some f => rw [e] at hx; exact (V.s1 f (List.mem_of_getElem? e)).2 x hx
theorem second_in (V : Valid wb) (i : Nat) : ∀ x ∈ wb.second[i]?.getD [], 0 ≤ x ∧ x < (wb.marks.length : Int) := fun x hx => by
  cases e : wb.second[i]? with
  | none => rw [e] at hx; cases hx
  | some f => rw [e] at hx; exact (V.s2 f (List.mem_of_getElem? e)).2 x hx
theorem first_ne {i : Nat} (hm : mvB wb i = true) : wb.first[i]?.getD [] ≠ [] := fun e => by
  unfold mvB at hm
  rw [e] at hm
  cases hm
theorem second_ne (V : Valid wb) {i : Nat} (hi : i < wb.marks.length) (hm : mvB wb i = true) : wb.second[i]?.getD [] ≠ [] := by
  have l1 := V.l1
  have l2 := V.l2
  have h1 := List.getElem?_eq_getElem (l := wb.first) (i := i) (by omega)
  have h2 := List.getElem?_eq_getElem (l := wb.second) (i := i) (by omega)
  have b := V.both i _ _ h1 h2
  have f := first_ne hm
  rw [h1] at f
  rw [h2]
  intro e
  have e : wb.second[i] = [] := e
  rw [e] at b
  exact f (List.isEmpty_iff.mp (b.trans rfl))
theorem rowAt_up {z : Nat → Bool} {x : Int} (h0 : 0 ≤ x) (h1 : x < (row.length : Int)) : rowAt (upI row z) x = rowAt row x + if z x.toNat then 1 else 0 := by
  unfold rowAt
  rw [upI_getD, if_pos (by omega)]
theorem low_up (V : Valid wb) {i : Nat} (hm : mvB wb i = true) (hl : row.length = wb.marks.length) (z : Nat → Bool) : lowI (upI row z) (wb.first[i]?.getD []) = lowI row (wb.first[i]?.getD []) + if (∀ j < wb.marks.length, (lsB wb row i j && !z j) = false) then 1 else 0 := by
  have hf := first_in V i
  have hne := first_ne hm
  obtain ⟨f, ef⟩ : ∃ f, f = wb.first[i]?.getD [] := ⟨_, rfl⟩
  have hls : ∀ x ∈ f, rowAt row x = lowI row f → lsB wb row i x.toNat = true := fun x hx e => by
    obtain ⟨h0, h1⟩ := hf x (ef ▸ hx)
    unfold lsB fsB
    rw [hm, ← ef, Int.toNat_of_nonneg h0, decide_eq_true hx]
    unfold rowAt at e
    simp [e]
  rw [← ef] at hf hne ⊢
  have hlow := lowI_is (r := row) hne
  have hup := lowI_is (r := upI row z) hne
  refine hup.uniq ?_
  by_cases c : ∀ j < wb.marks.length, (lsB wb row i j && !z j) = false
  · rw [if_pos c]
    have raised : ∀ x ∈ f, rowAt row x = lowI row f → z x.toNat = true := fun x hx e => by
      have := c x.toNat (by have := hf x hx; omega)
      rw [hls x hx e] at this
      simpa using this
    refine ⟨?_, fun x hx => ?_⟩
    · obtain ⟨x, hx, e⟩ := hlow.1
      have b := hf x hx
      exact ⟨x, hx, by rw [rowAt_up b.1 (by omega), e, raised x hx e]; rfl⟩
    · have b := hf x hx
      have g := hlow.2 x hx
      rw [rowAt_up b.1 (by omega)]
      by_cases e : rowAt row x = lowI row f
      · rw [raised x hx e, if_pos rfl]; omega
      · split <;> omega
  · rw [if_neg c]
    have : ∃ j, j < wb.marks.length ∧ lsB wb row i j = true ∧ z j = false := Classical.byContradiction fun w => c fun j hj => by
      cases h1 : lsB wb row i j with
      | false => rfl
      | true => cases h2 : z j with
        | true => rfl
        | false => exact absurd ⟨j, hj, h1, h2⟩ w
    obtain ⟨j, hj, h1, h2⟩ := this
    unfold lsB fsB at h1
    rw [← ef] at h1
    simp only [Bool.and_eq_true, decide_eq_true_eq] at h1
    refine ⟨⟨(j : Int), h1.1.2, ?_⟩, fun x hx => ?_⟩
    · rw [rowAt_up (by omega) (by omega), Int.toNat_natCast, h2, rowAt_nat]
      simp [h1.2]
    · have b := hf x hx
      have g := hlow.2 x hx
      rw [rowAt_up b.1 (by omega)]
      split <;> omega
theorem high_up (V : Valid wb) {i : Nat} (hi : i < wb.marks.length) (hm : mvB wb i = true) (hl : row.length = wb.marks.length) (z : Nat → Bool) : highI (upI row z) (wb.second[i]?.getD []) = highI row (wb.second[i]?.getD []) + if (∀ j < wb.marks.length, (hsB2 wb row i j && z j) = false) then 0 else 1 := by
  have hf := second_in V i
  have hne := second_ne V hi hm
  obtain ⟨f, ef⟩ : ∃ f, f = wb.second[i]?.getD [] := ⟨_, rfl⟩
  have hls : ∀ x ∈ f, rowAt row x = highI row f → hsB2 wb row i x.toNat = true := fun x hx e => by
    obtain ⟨h0, h1⟩ := hf x (ef ▸ hx)
    unfold hsB2 scB
    rw [hm, ← ef, Int.toNat_of_nonneg h0, decide_eq_true hx]
    unfold rowAt at e
    simp [e]
  rw [← ef] at hf hne ⊢
  have hhi := highI_is (r := row) hne
  have hup := highI_is (r := upI row z) hne
  refine hup.uniq ?_
  by_cases c : ∀ j < wb.marks.length, (hsB2 wb row i j && z j) = false
  · rw [if_pos c, Int.add_zero]
    have low : ∀ x ∈ f, rowAt row x = highI row f → z x.toNat = false := fun x hx e => by
      have := c x.toNat (by have := hf x hx; omega)
      rw [hls x hx e] at this
      simpa using this
    refine ⟨?_, fun x hx => ?_⟩
    · obtain ⟨x, hx, e⟩ := hhi.1
      have b := hf x hx
      exact ⟨x, hx, by rw [rowAt_up b.1 (by omega), e, low x hx e]; simp⟩
    · have b := hf x hx
      have g := hhi.2 x hx
      rw [rowAt_up b.1 (by omega)]
      by_cases e : rowAt row x = highI row f
      · rw [low x hx e]; simp; omega
      · split <;> omega
  · rw [if_neg c]
    have : ∃ j, j < wb.marks.length ∧ hsB2 wb row i j = true ∧ z j = true := Classical.byContradiction fun w => c fun j hj => by
      cases h1 : hsB2 wb row i j with
      | false => rfl
      | true => cases h2 : z j with
        | false => rfl
        | true => exact absurd ⟨j, hj, h1, h2⟩ w
    obtain ⟨j, hj, h1, h2⟩ := this
    unfold hsB2 scB at h1
    rw [← ef] at h1
    simp only [Bool.and_eq_true, decide_eq_true_eq] at h1
    refine ⟨⟨(j : Int), h1.1.2, ?_⟩, fun x hx => ?_⟩
    · rw [rowAt_up (by omega) (by omega), Int.toNat_natCast, h2, rowAt_nat]
      simp [h1.2]
    · have b := hf x hx
      have g := hhi.2 x hx
      rw [rowAt_up b.1 (by omega)]
      split <;> omega
/-- the price of a stand with steps -/
def pmI (wb : Wb) (r : List Int) (i : Nat) : Int := halfI (wb.marks[i]?.getD 0) (lowI r (wb.first[i]?.getD [])) (highI r (wb.second[i]?.getD []))
theorem prI_mv {i : Nat} (hm : mvB wb i = true) (k : Int) (r : List Int) : prI wb k r i = pmI wb r i := by
  unfold prI pmI
  unfold mvB at hm
  rw [if_neg (by simpa using hm)]
theorem prI_end {i : Nat} (hm : mvB wb i = false) (k : Int) (r : List Int) : prI wb k r i = k + 1 := by
  unfold prI
  unfold mvB at hm
  rw [if_pos (by simpa using hm)]
theorem marks_at {i : Nat} (hi : i < wb.marks.length) : atI (wb.marks.map D.int) (i : Int) = some (.int (wb.marks[i]?.getD 0)) := atI_row hi
theorem raised_price_ev (V : Valid wb) (h : HG A wb n row p) {i : Nat} (hi : i < wb.marks.length) (hm : mvB wb i = true) (z : Nat → Bool) : D_Heightsraised_price A [.mr n, .int (i : Int), bI wb.marks.length z] p = .ok (.int (pmI wb (upI row z) i)) p := by
  obtain ⟨hl, h⟩ := h
  have e1 : ixM (.mr (n + 2)) (.int (i : Int)) p = some (.int (lowI row (wb.first[i]?.getD []))) := by
    rw [ixM_mr h.lo]
    unfold loI
    rw [tabI_at _ hi, if_pos hm]
  have e2 : ixM (.mr (n + 4)) (.int (i : Int)) p = some (bI wb.marks.length (lsB wb row i)) := by
    rw [ixM_mr h.ls, setsD_at _ hi]
  have e3 : ixM (.mr (n + 3)) (.int (i : Int)) p = some (.int (highI row (wb.second[i]?.getD []))) := by
    rw [ixM_mr h.hi]
    unfold hiI
    rw [tabI_at _ hi, if_pos hm]
  have e4 : ixM (.mr (n + 5)) (.int (i : Int)) p = some (bI wb.marks.length (hsB2 wb row i)) := by
    rw [ixM_mr h.hs, setsD_at _ hi]
  have e5 : ixM (.tup (wb.marks.map D.int)) (.int (i : Int)) p = some (.int (wb.marks[i]?.getD 0)) := marks_at hi
  obtain ⟨w, ew⟩ : ∃ w, fInv (bI wb.marks.length z) = some w := ⟨_, rfl⟩
  have ea : fAnd (bI wb.marks.length (lsB wb row i)) w = some (bI wb.marks.length fun j => lsB wb row i j && !z j) := by
    have := fInv_and_bI wb.marks.length (lsB wb row i) z
    rw [ew, Option.bind_some] at this
    exact this
  have eb := fAnd_bI wb.marks.length (hsB2 wb row i) z
  have t1 := truOf_bI wb.marks.length fun j => lsB wb row i j && !z j
  have t2 := truOf_bI wb.marks.length fun j => hsB2 wb row i j && z j
  have l := low_up V hm hl z
  have g := high_up V hi hm hl z
  unfold D_Heightsraised_price
  rw [denF_ev (by rfl)]
  show outR (dn_Heightsraised_price A [dd (.mr n), dd (.int (i : Int)), dd (bI wb.marks.length z), none, none] p) = _
  obtain ⟨L, hL⟩ : ∃ L, L = lowI row (wb.first[i]?.getD []) := ⟨_, rfl⟩
  obtain ⟨G, hG⟩ : ∃ G, G = highI row (wb.second[i]?.getD []) := ⟨_, rfl⟩
  rw [← hL] at e1 l
  rw [← hG] at e3 g
  have T1 : b_Heightsraised_price_1 A [dd (.mr n), dd (.int (i : Int)), dd (bI wb.marks.length z), none, none] p = .nx [dd (.mr n), dd (.int (i : Int)), dd (bI wb.marks.length z), dd (.int L), none] p := by
    simp [b_Heightsraised_price_1, mvar, h.fLows, e1]
  have T2 : b_Heightsraised_price_2 A [dd (.mr n), dd (.int (i : Int)), dd (bI wb.marks.length z), dd (.int L), none] p = .nx [dd (.mr n), dd (.int (i : Int)), dd (bI wb.marks.length z), dd (.int (lowI (upI row z) (wb.first[i]?.getD []))), none] p := by
    rw [l]
    by_cases c : ∀ j < wb.marks.length, (lsB wb row i j && !z j) = false
    · rw [decide_eq_true c] at t1
      rw [if_pos c]
      have s1 : saug 3 (fun i j => i + j) (mret (D.int 1)) [dd (.mr n), dd (.int (i : Int)), dd (bI wb.marks.length z), dd (.int L), none] p = .nx [dd (.mr n), dd (.int (i : Int)), dd (bI wb.marks.length z), dd (.int (L + 1)), none] p := saug_ev rfl rfl
      simp [b_Heightsraised_price_2, mvar, h.fLs, e2, ew, ea, t1, s1]
    · rw [decide_eq_false c] at t1
      rw [if_neg c]
      simp [b_Heightsraised_price_2, mvar, h.fLs, e2, ew, ea, t1]
  have T3 : b_Heightsraised_price_3 A [dd (.mr n), dd (.int (i : Int)), dd (bI wb.marks.length z), dd (.int (lowI (upI row z) (wb.first[i]?.getD []))), none] p = .nx [dd (.mr n), dd (.int (i : Int)), dd (bI wb.marks.length z), dd (.int (lowI (upI row z) (wb.first[i]?.getD []))), dd (.int G)] p := by
    simp [b_Heightsraised_price_3, mvar, h.fHighs, e3]
  have T4 : b_Heightsraised_price_4 A [dd (.mr n), dd (.int (i : Int)), dd (bI wb.marks.length z), dd (.int (lowI (upI row z) (wb.first[i]?.getD []))), dd (.int G)] p = .nx [dd (.mr n), dd (.int (i : Int)), dd (bI wb.marks.length z), dd (.int (lowI (upI row z) (wb.first[i]?.getD []))), dd (.int (highI (upI row z) (wb.second[i]?.getD [])))] p := by
    rw [g]
    by_cases c : ∀ j < wb.marks.length, (hsB2 wb row i j && z j) = false
    · rw [decide_eq_true c] at t2
      rw [if_pos c]
      simp [b_Heightsraised_price_4, mvar, h.fHs, e4, eb, t2]
    · rw [decide_eq_false c] at t2
      rw [if_neg c]
      have s1 : saug 4 (fun i j => i + j) (mret (D.int 1)) [dd (.mr n), dd (.int (i : Int)), dd (bI wb.marks.length z), dd (.int (lowI (upI row z) (wb.first[i]?.getD []))), dd (.int G)] p = .nx [dd (.mr n), dd (.int (i : Int)), dd (bI wb.marks.length z), dd (.int (lowI (upI row z) (wb.first[i]?.getD []))), dd (.int (G + 1))] p := saug_ev rfl rfl
      simp [b_Heightsraised_price_4, mvar, h.fHs, e4, eb, t2, s1]
  unfold dn_Heightsraised_price
  rw [seq_nx T1, seq_nx T2, seq_nx T3, seq_nx T4]
  simp [b_Heightsraised_price_5, mvar, h.marks, e5, half_of_ev, pmI]
end
end PL
namespace PL
open PySem L2 Den
/-- a loop that gathers stands into a set -/
theorem loop_union {tg : D → Den.Loc → Option Den.Loc} {body : MS} (F : (Nat → Bool) → Option L → Den.Loc) {p : S} (hF : ∀ z o d, tg d (F z o) = some (F z (some (.dat d)))) (c : Nat → Bool) (hc : ∀ z y o, (∀ j, z j = y j) → F z o = F y o) : ∀ (xs : List Nat), (∀ x ∈ xs, ∀ z, ∃ z', body (F z (dd (.int (x : Int)))) p = .nx (F z' (dd (.int (x : Int)))) p ∧ ∀ j, z' j = (z j || (decide (j = x) && c j))) →
    ∀ z o, ∃ z' o', loop tg body (xs.map fun x : Nat => .int (x : Int)) (F z o) p = .nx (F z' o') p ∧ ∀ j, z' j = (z j || (decide (j ∈ xs) && c j))
  | [], _, z, o => ⟨z, o, rfl, fun j => by simp⟩
  | x :: xs, h, z, o => by
    obtain ⟨z1, e1, h1⟩ := h x List.mem_cons_self z
    obtain ⟨z2, o2, e2, h2⟩ := loop_union F hF c hc xs (fun y hy => h y (List.mem_cons_of_mem _ hy)) z1 (dd (.int (x : Int)))
    refine ⟨z2, o2, (loop_cons (hF z o _) e1).trans e2, fun j => ?_⟩
    rw [h2, h1]
    by_cases e : j = x
    · subst e
      cases z j <;> cases c j <;> simp
    · simp [e]
section
variable {A : CA} {wb : Wb} {n : Nat} {row : List Int} {p : S}
theorem setI_nats (n : Nat) (z : Nat → Bool) : (setI n z).map D.int = ((List.range n).filter z).map fun x : Nat => D.int (x : Int) := by
  unfold setI
  rw [List.map_map]
  rfl
theorem shl_one {n : Nat} (hn : n ≤ 1000) {x : Nat} (hx : x < n) : fShl (.int 1) (.int (x : Int)) = some (bI n fun j => decide (j = x)) := by
  show (if (0 : Int) ≤ (x : Int) ∧ (x : Int).natAbs ≤ 1000000 ∧ (1 : Int).natAbs < 18446744073709551616 then some (D.int (1 * 2 ^ (x : Int).toNat)) else none) = _
  rw [if_pos ⟨Int.natCast_nonneg x, by omega, by decide⟩, Int.toNat_natCast]
  have : 2 ^ x = bitN n fun j => decide (j = x) := bitN_ext fun i => by
    rw [Nat.testBit_two_pow]
    by_cases c : x = i
    · subst c; simp [hx]
    · simp [c, Ne.symm c]
  congr 2
  rw [← this]
  simp
theorem b0 (n : Nat) : D.int 0 = bI n fun _ => false := by
  have : bitN n (fun _ => false) = 0 := bitN_zero.mpr fun _ _ => rfl
  unfold bI
  rw [this]; rfl
theorem bI_congr {n : Nat} {z y : Nat → Bool} (h : ∀ i < n, z i = y i) : bI n z = bI n y := by
  unfold bI
  rw [bitN_congr h]
/-- stand i leaves, with the raised ones z greater by 1 -/
def offB2 (wb : Wb) (row : List Int) (z : Nat → Bool) (i : Nat) : Bool := mvB wb i && decide (pmI wb (upI row z) i ≤ row[i]?.getD 0)
theorem leavers_ev (V : Valid wb) (h : HG A wb n row p) (z y : Nat → Bool) : D_Heightsleavers A [.mr n, bI wb.marks.length z, bI wb.marks.length y] p = .ok (bI wb.marks.length fun i => y i && offB2 wb row z i) p := by
  have n2 := V.n2
  obtain ⟨N, hN⟩ : ∃ N, N = wb.marks.length := ⟨_, rfl⟩
  unfold D_Heightsleavers
  rw [denF_ev (by rfl)]
  show outR (dn_Heightsleavers A [dd (.mr n), dd (bI wb.marks.length z), dd (bI wb.marks.length y), none, none] p) = _
  have T1 : sasg (mret (D.int 0)) (gset 3) [dd (.mr n), dd (bI wb.marks.length z), dd (bI wb.marks.length y), none, none] p = .nx [dd (.mr n), dd (bI wb.marks.length z), dd (bI wb.marks.length y), dd (bI wb.marks.length fun _ => false), none] p := by
    rw [← b0]
    simp
  obtain ⟨z', o', e, hz'⟩ := loop_union (tg := gset 4) (body := L_Heightsleavers_2 A) (fun w o => [dd (.mr n), dd (bI wb.marks.length z), dd (bI wb.marks.length y), dd (bI wb.marks.length w), o]) (p := p) (fun _ _ _ => rfl) (fun i => y i && offB2 wb row z i) (fun w v o hw => by rw [bI_congr fun i _ => hw i]) ((List.range wb.marks.length).filter (mvB wb)) (fun i hi w => by
    obtain ⟨hi, hm⟩ := List.mem_filter.mp hi
    have hi := List.mem_range.mp hi
    have eb := bit_bI hi y
    have ep := raised_price_ev V h hi hm z
    have er : ixM (.mr (n + 1)) (.int (i : Int)) p = some (.int (row[i]?.getD 0)) := by
      rw [ixM_mr h.2.rw]
      exact atI_row (by have := h.1; omega)
    have es := shl_one (n := wb.marks.length) (by omega) hi
    have em := h.2.meth (m := "_raised_price") (by decide +kernel)
    have eo := fOr_bI wb.marks.length w fun j => decide (j = i)
    obtain ⟨u, eu⟩ : ∃ u, fShr (bI wb.marks.length y) (.int (i : Int)) = some u := by
      cases e : fShr (bI wb.marks.length y) (.int (i : Int)) with
      | none => rw [e] at eb; cases eb
      | some u => exact ⟨u, rfl⟩
    rw [eu, Option.bind_some] at eb
    obtain ⟨v, ev⟩ : ∃ v, fAnd u (.int 1) = some v := by
      cases e : fAnd u (.int 1) with
      | none => rw [e] at eb; cases eb
      | some v => exact ⟨v, rfl⟩
    rw [ev, Option.bind_some] at eb
    unfold L_Heightsleavers_2
    by_cases c1 : y i = true
    · rw [c1] at eb
      by_cases c2 : pmI wb (upI row z) i ≤ row[i]?.getD 0
      · refine ⟨fun j => w j || decide (j = i), ?_, fun j => ?_⟩
        · simp [mvar, eu, ev, eb, em, ep, h.2.fRow, er, c2, es, eo]
        · by_cases e : j = i
          · subst e; simp [c1, offB2, hm, c2]
          · simp [e]
      · refine ⟨w, ?_, fun j => ?_⟩
        · simp [mvar, eu, ev, eb, em, ep, h.2.fRow, er, c2]
        · by_cases e : j = i
          · subst e; simp [offB2, c2]
          · simp [e]
    · rw [Bool.not_eq_true] at c1
      rw [c1] at eb
      refine ⟨w, ?_, fun j => ?_⟩
      · simp [mvar, eu, ev, eb]
      · by_cases e : j = i
        · subst e; simp [c1]
        · simp [e]) (fun _ => false) none
  have T2 : b_Heightsleavers_2 A [dd (.mr n), dd (bI wb.marks.length z), dd (bI wb.marks.length y), dd (bI wb.marks.length fun _ => false), none] p = .nx [dd (.mr n), dd (bI wb.marks.length z), dd (bI wb.marks.length y), dd (bI wb.marks.length z'), o'] p := by
    unfold b_Heightsleavers_2
    rw [← setI_nats] at e
    simp only [sfor_ev, mbind_ev, mfldM_ev, mvar, List.getElem?_cons_zero, bind_ok, h.2.moving, mlift_some, tupOf, toO_ok]
    exact e
  unfold dn_Heightsleavers
  rw [seq_nx T1, seq_nx T2]
  have : bI wb.marks.length z' = bI wb.marks.length fun i => y i && offB2 wb row z i := bI_congr fun i hi => by
    rw [hz']
    cases hm : mvB wb i with
    | true => simp [hi, hm]
    | false => simp [hm, offB2]
  rw [this]
  simp [mvar]
/-- a test of parts by their places -/
theorem filt_places {α : Type} (z : Nat → Bool) (xs : List α) : ((xs.zipIdx 0).filterMap fun q => if z q.2 = true then some (D.int (q.2 : Int)) else none) = (setI xs.length z).map .int := by
  have e : ((xs.zipIdx 0).filterMap fun q => if z q.2 = true then some (D.int (q.2 : Int)) else none) = ((xs.zipIdx 0).map Prod.snd).filterMap fun m => if z m = true then some (D.int (m : Int)) else none := by
    rw [List.filterMap_map]
    rfl
  rw [e, List.zipIdx_map_snd, setI_nats, List.range_eq_range']
  generalize List.range' 0 xs.length = ys
  induction ys with
  | nil => rfl
  | cons y ys ih =>
    rw [List.filterMap_cons]
    by_cases c : z y = true
    · simp [c, ih]
    · simp [c, ih]
theorem below_ev (V : Valid wb) (h : HG A wb n row p) {ms : List Int} {md : D} (hm : IsRow md ms) (hl : ms.length = wb.marks.length) : D_Heights_below A [.mr n, md] p = .ok (bI wb.marks.length fun i => decide (row[i]?.getD 0 < ms[i]?.getD 0)) p := by
  have n2 := V.n2
  have hr := h.1
  have ck : ckM (n + 1) (row.map D.int) p := h.2.rw
  have K : c_Heights_below_1 A [dd (.mr n), dd md, none, none] p = .ok ((setI row.length fun i => decide (row[i]?.getD 0 < ms[i]?.getD 0)).map .int) p := by
    unfold c_Heights_below_1 mcomp2M
    have es : msrc (mfldM A.Heights "_row" (mvar 0)) [dd (.mr n), dd md, none, none] p = .ok (n + 1, row.map D.int) p := by
      simp [mvar, h.2.fRow, plcM_mr h.2.rw]
    rw [mbind_ok es]
    dsimp only
    rw [if_pos (by rw [enumD_len, List.length_map]; omega)]
    rw [comp2_enum (by simp) (by simp) D.int (fun m _ => if (fun i => decide (row[i]?.getD 0 < ms[i]?.getD 0)) m = true then some (.int (m : Int)) else none) fun m x hx => ?_]
    · rw [filt_places (fun i => decide (row[i]?.getD 0 < ms[i]?.getD 0)) row]
      exact fin2_pos ck
    · have hmr : m < row.length := (List.getElem?_eq_some_iff.mp hx).1
      have e1 : ixM md (.int (m : Int)) p = some (.int (ms[m]?.getD 0)) := by
        rcases hm with rfl | rfl
        · exact atI_row (by omega)
        · exact atI_row (by omega)
      have ex : row[m]?.getD 0 = x := by rw [hx]; rfl
      unfold turn
      rw [mck_bind ck, Nat.zero_add]
      show _ = R.ok (if decide (row[m]?.getD 0 < ms[m]?.getD 0) = true then some (D.int (m : Int)) else none) p
      rw [ex]
      by_cases c : x < ms[m]?.getD 0
      · simp [mvar, e1, c]
      · simp [mvar, e1, c]
  have sl := setI_len row.length fun i => decide (row[i]?.getD 0 < ms[i]?.getD 0)
  have eb := bits_list (n := wb.marks.length) (by omega) (fun i => decide (row[i]?.getD 0 < ms[i]?.getD 0)) (d := .lst ((setI row.length fun i => decide (row[i]?.getD 0 < ms[i]?.getD 0)).map .int)) (by rw [hr]; rfl) p
  simp [D_Heights_below, denF, dn_Heights_below, locOf, K, eb]
end
end PL
namespace PL
open PySem L2 Den
section
variable (wb : Wb) (row : List Int) (w : Nat → Bool)
/-- those of left that leave -/
def goB (lf : Nat → Bool) (i : Nat) : Bool := lf i && offB2 wb row (fun j => lf j || w j) i
def lvB (lf0 : Nat → Bool) : Nat → Nat → Bool
  | 0 => lf0
  | j + 1 => fun i => lvB lf0 j i && !goB wb row w (lvB lf0 j) i
end
section
variable {A : CA} {wb : Wb} {n : Nat} {row : List Int} {p : S}
theorem lvB_sub (w lf0 : Nat → Bool) (i : Nat) : ∀ j, lvB wb row w lf0 (j + 1) i = true → lvB wb row w lf0 j i = true := fun j h => by
  have h : (lvB wb row w lf0 j i && !goB wb row w (lvB wb row w lf0 j) i) = true := h
  rw [Bool.and_eq_true] at h
  exact h.1
/-- prices look at the steps alone -/
theorem pm_congr (V : Valid wb) {z y : Nat → Bool} {i : Nat} (hi : i < wb.marks.length) (hl : row.length = wb.marks.length) (h : ∀ j < wb.marks.length, fsB wb i j = true ∨ scB wb i j = true → z j = y j) : pmI wb (upI row z) i = pmI wb (upI row y) i := by
  have e1 : lowI (upI row z) (wb.first[i]?.getD []) = lowI (upI row y) (wb.first[i]?.getD []) := by
    unfold lowI
    congr 1
    refine List.map_congr_left fun x hx => ?_
    have b := first_in V i x hx
    rw [rowAt_up b.1 (by omega), rowAt_up b.1 (by omega), h x.toNat (by omega) (.inl (by unfold fsB; rw [Int.toNat_of_nonneg b.1]; exact decide_eq_true hx))]
  have e2 : highI (upI row z) (wb.second[i]?.getD []) = highI (upI row y) (wb.second[i]?.getD []) := by
    unfold highI
    congr 1
    refine List.map_congr_left fun x hx => ?_
    have b := second_in V i x hx
    rw [rowAt_up b.1 (by omega), rowAt_up b.1 (by omega), h x.toNat (by omega) (.inr (by unfold scB; rw [Int.toNat_of_nonneg b.1]; exact decide_eq_true hx))]
  unfold pmI
  rw [e1, e2]
/-- only those with a step to one that has left need be asked -/
theorem asked_all (V : Valid wb) (hl : row.length = wb.marks.length) (w lf0 : Nat → Bool) (j : Nat) {i : Nat} (hi : i < wb.marks.length) (hq : ∀ x < wb.marks.length, goB wb row w (lvB wb row w lf0 j) x = true → bfB wb x i = false) : goB wb row w (lvB wb row w lf0 (j + 1)) i = false := by
  cases hlf : lvB wb row w lf0 (j + 1) i with
  | false => unfold goB; rw [hlf]; rfl
  | true =>
    have h0 := lvB_sub w lf0 i j hlf
    have h1 : goB wb row w (lvB wb row w lf0 j) i = false := by
      have : (lvB wb row w lf0 j i && !goB wb row w (lvB wb row w lf0 j) i) = true := hlf
      rw [h0] at this
      simpa using this
    unfold goB at h1 ⊢
    rw [h0, Bool.true_and] at h1
    rw [hlf, Bool.true_and]
    unfold offB2 at h1 ⊢
    cases hm : mvB wb i with
    | false => rfl
    | true =>
      try rw [hm] at h1
      rw [Bool.true_and] at h1 ⊢
      rw [← h1]
      have ep := pm_congr (row := row) (z := fun x => lvB wb row w lf0 (j + 1) x || w x) (y := fun x => lvB wb row w lf0 j x || w x) V hi hl fun x hx hs => by
        have hg : goB wb row w (lvB wb row w lf0 j) x = false := by
          cases e : goB wb row w (lvB wb row w lf0 j) x with
          | false => rfl
          | true =>
            have := hq x hx e
            unfold bfB at this
            rw [hm, Bool.true_and] at this
            rcases hs with hs | hs <;> rw [hs] at this <;> simp at this
        show (lvB wb row w lf0 j x && !goB wb row w (lvB wb row w lf0 j) x || w x) = _
        rw [hg]
        simp
      rw [ep]
/-- what was found after j rounds -/
abbrev SLv (n N : Nat) (lf w : Nat → Bool) (found : List D) (g : Nat → Bool) (o5 o6 : Option L) : Den.Loc := [dd (.mr n), dd (bI N lf), dd (bI N w), some (.cell found), dd (bI N g), o5, o6]
theorem leaving_turn (V : Valid wb) (h : HG A wb n row p) (w lf0 : Nat → Bool) (j : Nat) (found : List D) (hf : found.length < 1000) (o5 o6 : Option L) : ∃ o5' o6', W_Heights_leaving_3 A (SLv n wb.marks.length (lvB wb row w lf0 j) w found (goB wb row w (lvB wb row w lf0 j)) o5 o6) p = .nx (SLv n wb.marks.length (lvB wb row w lf0 (j + 1)) w (found ++ [bI wb.marks.length (goB wb row w (lvB wb row w lf0 j))]) (goB wb row w (lvB wb row w lf0 (j + 1))) o5' o6') p := by
  have n2 := V.n2
  obtain ⟨lf, hlf⟩ : ∃ lf, lf = lvB wb row w lf0 j := ⟨_, rfl⟩
  obtain ⟨g, hg⟩ : ∃ g, g = goB wb row w lf := ⟨_, rfl⟩
  obtain ⟨lf', hlf'⟩ : ∃ lf', lf' = lvB wb row w lf0 (j + 1) := ⟨_, rfl⟩
  have elf : ∀ i, lf' i = (lf i && !g i) := fun i => by rw [hlf', hg, hlf]; rfl
  rw [← hlf, ← hg, ← hlf']
  have T1 : sappend 3 (mvar 4) (SLv n wb.marks.length lf w found g o5 o6) p = .nx (SLv n wb.marks.length lf w (found ++ [bI wb.marks.length g]) g o5 o6) p := by
    rw [sappend_ev rfl hf]
    simp [mvar]
  have T2 : b_Heights_leaving_3w2 (SLv n wb.marks.length lf w (found ++ [bI wb.marks.length g]) g o5 o6) p = .nx (SLv n wb.marks.length lf' w (found ++ [bI wb.marks.length g]) g o5 o6) p := by
    obtain ⟨u, eu⟩ : ∃ u, fInv (bI wb.marks.length g) = some u := ⟨_, rfl⟩
    have ea := fInv_and_bI wb.marks.length lf g
    rw [eu, Option.bind_some] at ea
    rw [bI_congr (y := lf') fun i _ => (elf i).symm] at ea
    simp [b_Heights_leaving_3w2, mvar, eu, ea]
  have T3 : sasg (mret (D.int 0)) (gset 5) (SLv n wb.marks.length lf' w (found ++ [bI wb.marks.length g]) g o5 o6) p = .nx (SLv n wb.marks.length lf' w (found ++ [bI wb.marks.length g]) g (dd (bI wb.marks.length fun _ => false)) o6) p := by
    rw [← b0]
    simp
  have T4 : ∃ z o6', b_Heights_leaving_3w4 A (SLv n wb.marks.length lf' w (found ++ [bI wb.marks.length g]) g (dd (bI wb.marks.length fun _ => false)) o6) p = .nx (SLv n wb.marks.length lf' w (found ++ [bI wb.marks.length g]) g (dd (bI wb.marks.length z)) o6') p ∧ ∀ i, z i = decide (∃ x, x < wb.marks.length ∧ g x = true ∧ bfB wb x i = true) := by
    have key : ∀ (xs : List Nat), (∀ x ∈ xs, x < wb.marks.length) → ∀ z o6, ∃ z' o6', loop (gset 6) (L_Heights_leaving_3w4 A) (xs.map fun x : Nat => .int (x : Int)) (SLv n wb.marks.length lf' w (found ++ [bI wb.marks.length g]) g (dd (bI wb.marks.length z)) o6) p = .nx (SLv n wb.marks.length lf' w (found ++ [bI wb.marks.length g]) g (dd (bI wb.marks.length z')) o6') p ∧ ∀ i, z' i = (z i || xs.any fun x => bfB wb x i) := by
      intro xs
      induction xs with
      | nil => exact fun _ z o6 => ⟨z, o6, rfl, fun i => by simp⟩
      | cons x xs ih =>
        intro hx z o6
        have e1 : ixM (.lst (setsD wb.marks.length (bfB wb))) (.int (x : Int)) p = some (bI wb.marks.length (bfB wb x)) := setsD_at _ (hx x List.mem_cons_self)
        have e2 := fOr_bI wb.marks.length z (bfB wb x)
        obtain ⟨z', o6', e, hz⟩ := ih (fun y hy => hx y (List.mem_cons_of_mem _ hy)) (fun i => z i || bfB wb x i) (dd (.int (x : Int)))
        refine ⟨z', o6', (loop_cons (l1 := SLv n wb.marks.length lf' w (found ++ [bI wb.marks.length g]) g (dd (bI wb.marks.length z)) (dd (.int (x : Int)))) rfl ?_).trans e, fun i => ?_⟩
        · simp [L_Heights_leaving_3w4, mvar, h.2.fBefore, e1, e2]
        · rw [hz]; simp [Bool.or_assoc]
    obtain ⟨z, o6', e, hz⟩ := key ((List.range wb.marks.length).filter g) (fun x hx => List.mem_range.mp (List.mem_filter.mp hx).1) (fun _ => false) o6
    refine ⟨z, o6', ?_, fun i => ?_⟩
    · have es := stands_list A (n := wb.marks.length) (by omega) g p
      unfold b_Heights_leaving_3w4
      rw [← setI_nats] at e
      simp only [sfor_ev, mbind_ev, mcall_ev, acons_ev, anil_ev, mvar, List.getElem?_cons_zero, List.getElem?_cons_succ, bind_ok, es, mlift_some, tupOf, toO_ok]
      exact e
    · rw [hz, Bool.false_or]
      rw [Bool.eq_iff_iff, List.any_eq_true, decide_eq_true_eq]
      constructor
      · rintro ⟨x, hx, hb⟩
        obtain ⟨h1, h2⟩ := List.mem_filter.mp hx
        exact ⟨x, List.mem_range.mp h1, h2, hb⟩
      · rintro ⟨x, h1, h2, hb⟩
        exact ⟨x, List.mem_filter.mpr ⟨List.mem_range.mpr h1, h2⟩, hb⟩
  obtain ⟨z, o6', T4, hz⟩ := T4
  have T5 : b_Heights_leaving_3w5 A (SLv n wb.marks.length lf' w (found ++ [bI wb.marks.length g]) g (dd (bI wb.marks.length z)) o6') p = .nx (SLv n wb.marks.length lf' w (found ++ [bI wb.marks.length g]) (goB wb row w lf') (dd (bI wb.marks.length z)) o6') p := by
    have em := h.2.meth (m := "_leavers") (by decide +kernel)
    have e1 := fOr_bI wb.marks.length lf' w
    have e2 := fAnd_bI wb.marks.length lf' z
    have el := leavers_ev V h (fun j => lf' j || w j) fun i => lf' i && z i
    have ec : bI wb.marks.length (fun i => (lf' i && z i) && offB2 wb row (fun j => lf' j || w j) i) = bI wb.marks.length (goB wb row w lf') := bI_congr fun i hi => by
      cases c : z i with
      | true => unfold goB; simp
      | false =>
        rw [hz, decide_eq_false_iff_not] at c
        have := asked_all V h.1 w lf0 j hi fun x hx hgx => by
          cases hb : bfB wb x i with
          | false => rfl
          | true => exact absurd ⟨x, hx, by rw [hg, hlf]; exact hgx, hb⟩ c
        rw [← hlf'] at this
        rw [this]; simp
    rw [ec] at el
    simp [b_Heights_leaving_3w5, mvar, em, e1, e2, el]
  refine ⟨dd (bI wb.marks.length z), o6', ?_⟩
  unfold W_Heights_leaving_3
  rw [seq_nx T1, seq_nx T2, seq_nx T3, seq_nx T4, T5]
/-- the rounds end -/
theorem leaving_while (V : Valid wb) (h : HG A wb n row p) (w lf0 : Nat → Bool) : ∀ (m j : Nat) (found : List D) (o5 o6 : Option L), cntB wb.marks.length (lvB wb row w lf0 j) ≤ m → found.length + m < 1000 →
    ∃ J o5' o6', j ≤ J ∧ J ≤ j + m ∧ (∀ i < wb.marks.length, goB wb row w (lvB wb row w lf0 J) i = false) ∧ (∀ t, j ≤ t → t < J → ∃ i, i < wb.marks.length ∧ goB wb row w (lvB wb row w lf0 t) i = true) ∧
      whileN (mtru (mvar 4)) (W_Heights_leaving_3 A) (m + 1) (SLv n wb.marks.length (lvB wb row w lf0 j) w found (goB wb row w (lvB wb row w lf0 j)) o5 o6) p = .nx (SLv n wb.marks.length (lvB wb row w lf0 J) w (found ++ (List.range' j (J - j)).map fun t => bI wb.marks.length (goB wb row w (lvB wb row w lf0 t))) (goB wb row w (lvB wb row w lf0 J)) o5' o6') p := by
  intro m
  induction m with
  | zero =>
    intro j found o5 o6 hc hf
    have hz : ∀ i < wb.marks.length, lvB wb row w lf0 j i = false := fun i hi => by
      cases e : lvB wb row w lf0 j i with
      | false => rfl
      | true =>
        have : (i : Int) ∈ setI wb.marks.length (lvB wb row w lf0 j) := setI_nat.mpr ⟨hi, e⟩
        have hl : (setI wb.marks.length (lvB wb row w lf0 j)).length = 0 := Nat.le_zero.mp hc
        rw [List.length_eq_zero_iff.mp hl] at this
        cases this
    have hg : ∀ i < wb.marks.length, goB wb row w (lvB wb row w lf0 j) i = false := fun i hi => by unfold goB; rw [hz i hi]; rfl
    refine ⟨j, o5, o6, Nat.le_refl _, Nat.le_refl _, hg, fun t h1 h2 => absurd h2 (by omega), ?_⟩
    have et : mtru (mvar 4) (SLv n wb.marks.length (lvB wb row w lf0 j) w found (goB wb row w (lvB wb row w lf0 j)) o5 o6) p = .ok false p := by
      have := truOf_bI wb.marks.length (goB wb row w (lvB wb row w lf0 j))
      rw [decide_eq_true hg] at this
      simp [mvar, this]
    rw [Nat.sub_self]
    simp only [List.range'_zero, List.map_nil, List.append_nil]
    unfold whileN sbind
    rw [et]
    rfl
  | succ m ih =>
    intro j found o5 o6 hc hf
    by_cases c : ∀ i < wb.marks.length, goB wb row w (lvB wb row w lf0 j) i = false
    · refine ⟨j, o5, o6, Nat.le_refl _, Nat.le_add_right _ _, c, fun t h1 h2 => absurd h2 (by omega), ?_⟩
      have et : mtru (mvar 4) (SLv n wb.marks.length (lvB wb row w lf0 j) w found (goB wb row w (lvB wb row w lf0 j)) o5 o6) p = .ok false p := by
        have := truOf_bI wb.marks.length (goB wb row w (lvB wb row w lf0 j))
        rw [decide_eq_true c] at this
        simp [mvar, this]
      rw [Nat.sub_self]
      simp only [List.range'_zero, List.map_nil, List.append_nil]
      unfold whileN sbind
      rw [et]
      rfl
    · have some_go : ∃ i, i < wb.marks.length ∧ goB wb row w (lvB wb row w lf0 j) i = true := Classical.byContradiction fun nn => c fun i hi => by
        cases e : goB wb row w (lvB wb row w lf0 j) i with
        | false => rfl
        | true => exact absurd ⟨i, hi, e⟩ nn
      obtain ⟨o5a, o6a, eb⟩ := leaving_turn V h w lf0 j found (by omega) o5 o6
      have less := (cntB_le (n := wb.marks.length) (z := lvB wb row w lf0 (j + 1)) (y := lvB wb row w lf0 j) fun i _ => lvB_sub w lf0 i j).2 (by
        obtain ⟨i, hi, e⟩ := some_go
        refine ⟨i, hi, ?_, ?_⟩
        · unfold goB at e
          rw [Bool.and_eq_true] at e
          exact e.1
        · show (lvB wb row w lf0 j i && !goB wb row w (lvB wb row w lf0 j) i) = false
          rw [e]; simp)
      obtain ⟨J, o5', o6', h1, h2, h3, h4, h5⟩ := ih (j + 1) (found ++ [bI wb.marks.length (goB wb row w (lvB wb row w lf0 j))]) o5a o6a (by omega) (by rw [List.length_append, List.length_singleton]; omega)
      refine ⟨J, o5', o6', by omega, by omega, h3, fun t ht1 ht2 => ?_, ?_⟩
      · by_cases e : t = j
        · subst e; exact some_go
        · exact h4 t (by omega) ht2
      · have et : mtru (mvar 4) (SLv n wb.marks.length (lvB wb row w lf0 j) w found (goB wb row w (lvB wb row w lf0 j)) o5 o6) p = .ok true p := by
          have := truOf_bI wb.marks.length (goB wb row w (lvB wb row w lf0 j))
          rw [decide_eq_false c] at this
          simp [mvar, this]
        have ej : J - j = (J - (j + 1)) + 1 := by omega
        rw [ej, List.range'_succ, List.map_cons, ← List.singleton_append, ← List.append_assoc]
        rw [whileN]
        unfold sbind
        rw [et]
        simp only [if_true, eb]
        exact h5
theorem leaving_ev (V : Valid wb) (h : HG A wb n row p) (w lf0 : Nat → Bool) : ∃ J, J ≤ wb.marks.length ∧ (∀ i < wb.marks.length, goB wb row w (lvB wb row w lf0 J) i = false) ∧ (∀ t < J, ∃ i, i < wb.marks.length ∧ goB wb row w (lvB wb row w lf0 t) i = true) ∧
    D_Heights_leaving A [.mr n, bI wb.marks.length lf0, bI wb.marks.length w] p = .ok (.lst ((List.range J).map fun t => bI wb.marks.length (goB wb row w (lvB wb row w lf0 t)))) p := by
  have n2 := V.n2
  have sl := setI_len wb.marks.length (lvB wb row w lf0 0)
  obtain ⟨J, o5, o6, _, h2, h3, h4, h5⟩ := leaving_while V h w lf0 wb.marks.length 0 [] none none sl (by simp; omega)
  refine ⟨J, by omega, h3, fun t ht => h4 t (Nat.zero_le _) ht, ?_⟩
  rw [Nat.sub_zero, ← List.range_eq_range', List.nil_append] at h5
  have em := h.2.meth (m := "_leavers") (by decide +kernel)
  have e1 := fOr_bI wb.marks.length lf0 w
  have el := leavers_ev V h (fun j => lf0 j || w j) lf0
  have ec : bI wb.marks.length (fun i => lf0 i && offB2 wb row (fun j => lf0 j || w j) i) = bI wb.marks.length (goB wb row w lf0) := rfl
  rw [ec] at el
  have T1 : sown (mshort anil) 3 [dd (.mr n), dd (bI wb.marks.length lf0), dd (bI wb.marks.length w), none, none, none, none] p = .nx [dd (.mr n), dd (bI wb.marks.length lf0), dd (bI wb.marks.length w), some (.cell []), none, none, none] p := by simp
  have T2 : b_Heights_leaving_2 A [dd (.mr n), dd (bI wb.marks.length lf0), dd (bI wb.marks.length w), some (.cell []), none, none, none] p = .nx (SLv n wb.marks.length lf0 w [] (goB wb row w lf0) none none) p := by
    simp [b_Heights_leaving_2, mvar, em, e1, el]
  have T3 : b_Heights_leaving_3 A (SLv n wb.marks.length lf0 w [] (goB wb row w lf0) none none) p = _ := swhile_ev h5 (by simp)
  unfold D_Heights_leaving denD
  rw [if_neg (by simp), denF_ev (by rfl)]
  show outR (dn_Heights_leaving A [dd (.mr n), dd (bI wb.marks.length lf0), dd (bI wb.marks.length w), none, none, none, none] p) = _
  unfold dn_Heights_leaving
  rw [seq_nx T1, seq_nx T2, seq_nx T3]
  simp [sgive, mvar]
end
end PL
namespace PL
open PySem L2 Den
theorem put_at {q : S} {j k : Nat} {m : MO} : (q.put j m).st[k]? = if k = j then (if j < q.st.length then some m else none) else q.st[k]? := by
  show (q.st.set j m)[k]? = _
  rw [List.getElem?_set]
  by_cases c : k = j
  · subst c; simp
  · simp [c, Ne.symm c]
theorem mor_at2 {q : S} {k : Nat} {m x : MO} (h : q.st[k]? = some x) : (q.mor m).st[k]? = some x := by
  show (q.st ++ [m])[k]? = _
  rw [List.getElem?_append_left (List.getElem?_eq_some_iff.mp h).1, h]
theorem mor_end {q : S} {m : MO} : (q.mor m).st[q.st.length]? = some m := by
  show (q.st ++ [m])[q.st.length]? = _
  rw [List.getElem?_append_right (Nat.le_refl _), Nat.sub_self]
  rfl
section
variable {A : CA} {wb : Wb} {n : Nat} {row lo hi lo' hi' : List Int} {ls hs ls' hs' : List D} {p q : S}
theorem HV.lt (h : HV A wb n row lo hi ls hs p) : n + 5 < p.st.length := (List.getElem?_eq_some_iff.mp h.hs).1
theorem HV.mor (h : HV A wb n row lo hi ls hs p) (m : MO) : HV A wb n row lo hi ls hs (p.mor m) := ⟨mor_at2 h.ob, mor_at2 h.rw, mor_at2 h.lo, mor_at2 h.hi, mor_at2 h.ls, mor_at2 h.hs⟩
theorem HV.putLo (h : HV A wb n row lo hi ls hs p) (lo' : List Int) : HV A wb n row lo' hi ls hs (p.put (n + 2) (.lst (lo'.map .int))) := by
  have := h.lt
  refine ⟨?_, ?_, ?_, ?_, ?_, ?_⟩ <;> rw [put_at]
  · rw [if_neg (by omega)]; exact h.ob
  · rw [if_neg (by omega)]; exact h.rw
  · rw [if_pos rfl, if_pos (by omega)]
  · rw [if_neg (by omega)]; exact h.hi
  · rw [if_neg (by omega)]; exact h.ls
  · rw [if_neg (by omega)]; exact h.hs
theorem HV.putHi (h : HV A wb n row lo hi ls hs p) (hi' : List Int) : HV A wb n row lo hi' ls hs (p.put (n + 3) (.lst (hi'.map .int))) := by
  have := h.lt
  refine ⟨?_, ?_, ?_, ?_, ?_, ?_⟩ <;> rw [put_at]
  · rw [if_neg (by omega)]; exact h.ob
  · rw [if_neg (by omega)]; exact h.rw
  · rw [if_neg (by omega)]; exact h.lo
  · rw [if_pos rfl, if_pos (by omega)]
  · rw [if_neg (by omega)]; exact h.ls
  · rw [if_neg (by omega)]; exact h.hs
theorem HV.putLs (h : HV A wb n row lo hi ls hs p) (ls' : List D) : HV A wb n row lo hi ls' hs (p.put (n + 4) (.lst ls')) := by
  have := h.lt
  refine ⟨?_, ?_, ?_, ?_, ?_, ?_⟩ <;> rw [put_at]
  · rw [if_neg (by omega)]; exact h.ob
  · rw [if_neg (by omega)]; exact h.rw
  · rw [if_neg (by omega)]; exact h.lo
  · rw [if_neg (by omega)]; exact h.hi
  · rw [if_pos rfl, if_pos (by omega)]
  · rw [if_neg (by omega)]; exact h.hs
theorem HV.putHs (h : HV A wb n row lo hi ls hs p) (hs' : List D) : HV A wb n row lo hi ls hs' (p.put (n + 5) (.lst hs')) := by
  have := h.lt
  refine ⟨?_, ?_, ?_, ?_, ?_, ?_⟩ <;> rw [put_at]
  · rw [if_neg (by omega)]; exact h.ob
  · rw [if_neg (by omega)]; exact h.rw
  · rw [if_neg (by omega)]; exact h.lo
  · rw [if_neg (by omega)]; exact h.hi
  · rw [if_neg (by omega)]; exact h.ls
  · rw [if_pos rfl, if_pos (by omega)]
theorem HV.putRow (h : HV A wb n row lo hi ls hs p) (row' : List Int) : HV A wb n row' lo hi ls hs (p.put (n + 1) (.lst (row'.map .int))) := by
  have := h.lt
  refine ⟨?_, ?_, ?_, ?_, ?_, ?_⟩ <;> rw [put_at]
  · rw [if_neg (by omega)]; exact h.ob
  · rw [if_pos rfl, if_pos (by omega)]
  · rw [if_neg (by omega)]; exact h.lo
  · rw [if_neg (by omega)]; exact h.hi
  · rw [if_neg (by omega)]; exact h.ls
  · rw [if_neg (by omega)]; exact h.hs
/-- what a change of one of the object's lists leaves -/
structure Fra (n : Nat) (p q : S) : Prop where
  pot : q.pot = p.pot
  len : p.st.length ≤ q.st.length
  st : ∀ (j : Nat) (x : MO), p.st[j]? = some x → j < n + 1 ∨ n + 5 < j → q.st[j]? = some x
theorem Fra.refl : Fra n p p := ⟨rfl, Nat.le_refl _, fun _ _ h _ => h⟩
theorem Fra.trans {r : S} (a : Fra n p q) (b : Fra n q r) : Fra n p r := ⟨b.pot.trans a.pot, Nat.le_trans a.len b.len, fun j x h g => b.st j x (a.st j x h g) g⟩
theorem Fra.put {j : Nat} (h1 : n + 1 ≤ j) (h2 : j ≤ n + 5) (m : MO) : Fra n p (p.put j m) := ⟨rfl, by show _ ≤ (p.st.set j m).length; rw [List.length_set]; exact Nat.le_refl _, fun k x h g => by rw [put_at, if_neg (by omega)]; exact h⟩
theorem Fra.mor (m : MO) : Fra n p (p.mor m) := ⟨rfl, by show _ ≤ (p.st ++ [m]).length; rw [List.length_append]; omega, fun k x h _ => mor_at2 h⟩
def PlOk (N : Nat) (row : List Int) (m : Nat) (kvs : List (Key × V)) : Prop := kvs.length ≤ m ∧ ∀ v : Int, getD kvs (.int v) (.int 0) = some (bI N fun j => decide (j < m) && decide (row[j]?.getD 0 = v))
theorem plOk_nil (N : Nat) (row : List Int) : PlOk N row 0 [] := ⟨Nat.le_refl _, fun v => by
  show some (D.int 0) = _
  rw [b0 N]
  exact congrArg some (bI_congr fun i _ => by simp)⟩
theorem plOk_put {N m : Nat} {row : List Int} {kvs : List (Key × V)} (h : PlOk N row m kvs) : PlOk N row (m + 1) (putK kvs (.inl (row[m]?.getD 0)) (.int ((bitN N fun j => (decide (j < m) && decide (row[j]?.getD 0 = row[m]?.getD 0)) || decide (j = m) : Nat) : Int))) := by
  refine ⟨Nat.le_trans (putK_len _ _ _) (Nat.succ_le_succ h.1), fun v => ?_⟩
  have h2 := h.2 v
  unfold getD at h2 ⊢
  simp only [keyD, Option.bind_some] at h2 ⊢
  rw [valV_put]
  by_cases c : v = row[m]?.getD 0
  · subst c
    rw [if_pos rfl]
    show some (bI N _) = _
    congr 1
    refine bI_congr fun i hi => ?_
    by_cases e : i = m
    · subst e; simp
    · have : (i < m + 1) ↔ (i < m) := by omega
      simp [e, this]
  · rw [if_neg (by intro z; exact c (Sum.inl.inj z)), h2]
    congr 1
    refine bI_congr fun i hi => ?_
    by_cases e : i = m
    · subst e; simp [Ne.symm c]
    · have : (i < m + 1) ↔ (i < m) := by omega
      simp [this]
theorem mdget2_at {a b z : M D} {l : Den.Loc} {q : S} {d : Nat} {kvs : List (Key × V)} {y w : D} (ha : a l q = .ok (.mr d) q) (hd : q.st[d]? = some (.dct kvs)) (hb : b l q = .ok y q) (hz : z l q = .ok w q) : mdget2 a b z l q = mlift (getD kvs y w) l q := by
  have e : dctM (.mr d) q = some kvs := by
    unfold dctM
    dsimp only
    rw [hd]
  unfold mdget2
  rw [mbind_ok ha]
  simp only [e]
  rw [mbind_ok hb, mbind_ok hz]
  simp only [e]
  rfl
theorem lput_at {j : Nat} {i : Nat} {d : D} {l : Den.Loc} {q : S} {es : List D} (h : q.st[j]? = some (.lst es)) (hi : i < es.length) : lput j (i : Int) d l q = .nx l (q.put j (.lst (es.set i d))) := by
  have : ixN es.length (i : Int) = some i := by
    unfold ixN
    rw [if_pos (by omega), if_pos (by omega)]; simp
  unfold lput
  rw [h]
  dsimp only
  rw [this]
theorem tab_set (N : Nat) (f : Nat → Int) (i : Nat) (v : Int) : ((tabI N f).map D.int).set i (.int v) = (tabI N fun j => if j = i then v else f j).map .int := by
  rw [← List.map_set, tabI_set]
theorem dtab_set {N : Nat} (f : Nat → D) (i : Nat) (d : D) : ((List.range N).map f).set i d = (List.range N).map fun j => if j = i then d else f j := by
  refine List.ext_getElem? fun k => ?_
  rw [List.getElem?_set]
  by_cases c : i = k
  · subst c
    by_cases hi : i < N
    · simp [hi]
    · simp [hi]
  · simp only [if_neg c, List.getElem?_map]
    by_cases hk : k < N
    · simp [hk, Ne.symm c]
    · simp [hk]
end
end PL
namespace PL
open PySem L2 Den
section
variable {A : CA} {wb : Wb} {n : Nat} {row : List Int} {p q : S}
/-- the stands of first at part v: some just if it is attained -/
theorem some_first (V : Valid wb) (hl : row.length = wb.marks.length) {i : Nat} (v : Int) : (∀ j < wb.marks.length, (fsB wb i j && (decide (j < wb.marks.length) && decide (row[j]?.getD 0 = v))) = false) ↔ ∀ x ∈ wb.first[i]?.getD [], rowAt row x ≠ v := by
  constructor
  · intro h x hx e
    have b := first_in V i x hx
    have := h x.toNat (by omega)
    unfold fsB at this
    rw [Int.toNat_of_nonneg b.1, decide_eq_true hx] at this
    unfold rowAt at e
    have hlt : x.toNat < wb.marks.length := by omega
    simp [hlt, e] at this
  · intro h j hj
    cases e : fsB wb i j with
    | false => rfl
    | true =>
      unfold fsB at e
      have := h (j : Int) (of_decide_eq_true e)
      rw [rowAt_nat] at this
      simp [this]
theorem some_second (V : Valid wb) (hl : row.length = wb.marks.length) {i : Nat} (v : Int) : (∀ j < wb.marks.length, (scB wb i j && (decide (j < wb.marks.length) && decide (row[j]?.getD 0 = v))) = false) ↔ ∀ x ∈ wb.second[i]?.getD [], rowAt row x ≠ v := by
  constructor
  · intro h x hx e
    have b := second_in V i x hx
    have := h x.toNat (by omega)
    unfold scB at this
    rw [Int.toNat_of_nonneg b.1, decide_eq_true hx] at this
    unfold rowAt at e
    have hlt : x.toNat < wb.marks.length := by omega
    simp [hlt, e] at this
  · intro h j hj
    cases e : scB wb i j with
    | false => rfl
    | true =>
      unfold scB at e
      have := h (j : Int) (of_decide_eq_true e)
      rw [rowAt_nat] at this
      simp [this]
theorem look_turn (V : Valid wb) (hl : row.length = wb.marks.length) {Lf Hf : Nat → Int} {lf hf : Nat → D} {d : Nat} {kvs : List (Key × L2.V)} (h : HV A wb n row (tabI wb.marks.length Lf) (tabI wb.marks.length Hf) ((List.range wb.marks.length).map lf) ((List.range wb.marks.length).map hf) q)
    (hd : n + 5 < d) (hq : q.st[d]? = some (.dct kvs)) (hk : PlOk wb.marks.length row wb.marks.length kvs) {i : Nat} (hi : i < wb.marks.length) (hm : mvB wb i = true)
    (c1 : Lf i = lowI row (wb.first[i]?.getD []) ∨ Lf i = lowI row (wb.first[i]?.getD []) - 1) (c2 : Hf i = highI row (wb.second[i]?.getD []) ∨ Hf i = highI row (wb.second[i]?.getD []) - 1) (o3 o4 o5 : Option L) :
    ∃ q', L_Heightslook_3 A [dd (.mr n), dd (.mr d), dd (.int (i : Int)), o3, o4, o5] q = .nx [dd (.mr n), dd (.mr d), dd (.int (i : Int)), o3, dd (bI wb.marks.length (fsB wb i)), dd (bI wb.marks.length (scB wb i))] q' ∧
      HV A wb n row (tabI wb.marks.length fun j => if j = i then lowI row (wb.first[i]?.getD []) else Lf j) (tabI wb.marks.length fun j => if j = i then highI row (wb.second[i]?.getD []) else Hf j)
        ((List.range wb.marks.length).map fun j => if j = i then bI wb.marks.length (lsB wb row i) else lf j) ((List.range wb.marks.length).map fun j => if j = i then bI wb.marks.length (hsB2 wb row i) else hf j) q' ∧ q'.st[d]? = some (.dct kvs) ∧ Fra n q q' := by
  have n2 := V.n2
  obtain ⟨N, hN⟩ : ∃ N, N = wb.marks.length := ⟨_, rfl⟩
  obtain ⟨lw, hlw⟩ : ∃ lw, lw = lowI row (wb.first[i]?.getD []) := ⟨_, rfl⟩
  obtain ⟨hg, hhg⟩ : ∃ hg, hg = highI row (wb.second[i]?.getD []) := ⟨_, rfl⟩
  have hlow := lowI_is (r := row) (first_ne hm)
  have hhigh := highI_is (r := row) (second_ne V hi hm)
  rw [← hlw] at c1 hlow
  rw [← hhg] at c2 hhigh
  have keep : ∀ {q1 : S} {j : Nat} (m : MO), q1.st[d]? = some (.dct kvs) → j ≤ n + 5 → (q1.put j m).st[d]? = some (.dct kvs) := fun {q1 j} m h1 h2 => by
    rw [put_at, if_neg (by omega)]; exact h1
  have get : ∀ (q1 : S) (l : Den.Loc) (b : M D) (x : Int), l[1]? = some (dd (.mr d)) → q1.st[d]? = some (.dct kvs) → b l q1 = .ok (.int x) q1 → mdget2 (mvar 1) b (mret (D.int 0)) l q1 = .ok (bI N fun j => decide (j < N) && decide (row[j]?.getD 0 = x)) q1 := fun q1 l b x h1 h2 h3 => by
    rw [mdget2_at (d := d) (kvs := kvs) (y := .int x) (w := .int 0) (by unfold mvar; rw [h1]) h2 h3 rfl, hk.2 x, ← hN]
    rfl
  have a1 : ixM (.lst (setsD N (fsB wb))) (.int (i : Int)) q = some (bI N (fsB wb i)) := by rw [hN]; exact setsD_at _ hi
  have T1 : b_Heightslook_3l1 A [dd (.mr n), dd (.mr d), dd (.int (i : Int)), o3, o4, o5] q = .nx [dd (.mr n), dd (.mr d), dd (.int (i : Int)), o3, dd (bI N (fsB wb i)), o5] q := by
    have := h.fFirsts
    rw [← hN] at this
    simp [b_Heightslook_3l1, mvar, this, a1]
  -- the low
  have eL : ∀ q1 : S, q1.st[n + 2]? = q.st[n + 2]? → ixM (.mr (n + 2)) (.int (i : Int)) q1 = some (.int (Lf i)) := fun q1 e => by
    rw [ixM_mr (e.trans h.lo), tabI_at _ hi]
  have T2 : ∃ q2, b_Heightslook_3l2 A [dd (.mr n), dd (.mr d), dd (.int (i : Int)), o3, dd (bI N (fsB wb i)), o5] q = .nx [dd (.mr n), dd (.mr d), dd (.int (i : Int)), o3, dd (bI N (fsB wb i)), o5] q2 ∧ HV A wb n row (tabI wb.marks.length fun j => if j = i then lw else Lf j) (tabI wb.marks.length Hf) ((List.range wb.marks.length).map lf) ((List.range wb.marks.length).map hf) q2 ∧ q2.st[d]? = some (.dct kvs) ∧ Fra n q q2 := by
    have e0 := eL q rfl
    have g := get q [dd (.mr n), dd (.mr d), dd (.int (i : Int)), o3, dd (bI N (fsB wb i)), o5] (mixM (mfldM A.Heights "_lows" (mvar 0)) (mvar 2)) (Lf i) rfl hq (by simp [mvar, h.fLows, e0])
    have ea := fAnd_bI N (fsB wb i) fun j => decide (j < N) && decide (row[j]?.getD 0 = Lf i)
    have et := truOf_bI N fun j => fsB wb i j && (decide (j < N) && decide (row[j]?.getD 0 = Lf i))
    have sf := some_first (i := i) V hl (Lf i)
    rw [← hN] at sf
    by_cases c : Lf i = lw
    · have ne : ¬ ∀ j < N, (fsB wb i j && (decide (j < N) && decide (row[j]?.getD 0 = Lf i))) = false := fun z => by
        obtain ⟨x, hx, e⟩ := hlow.1
        exact sf.mp z x hx (by rw [e, c])
      rw [decide_eq_false ne] at et
      refine ⟨q, ?_, ?_, hq, Fra.refl⟩
      · simp [b_Heightslook_3l2, mvar, g, ea, et]
      · have : (fun j => if j = i then lw else Lf j) = Lf := by
          funext j
          split
          · rename_i e; subst e; exact c.symm
          · rfl
        rw [this]; exact h
    · have c1' : Lf i = lw - 1 := c1.resolve_left c
      have al : ∀ j < N, (fsB wb i j && (decide (j < N) && decide (row[j]?.getD 0 = Lf i))) = false := sf.mpr fun x hx e => by
        have := hlow.2 x hx
        omega
      rw [decide_eq_true al] at et
      have s1 : saugM (fun i j => i + j) (mfldM A.Heights "_lows" (mvar 0)) (mvar 2) (mret (D.int 1)) [dd (.mr n), dd (.mr d), dd (.int (i : Int)), o3, dd (bI N (fsB wb i)), o5] q = .nx [dd (.mr n), dd (.mr d), dd (.int (i : Int)), o3, dd (bI N (fsB wb i)), o5] (q.put (n + 2) (.lst ((tabI wb.marks.length fun j => if j = i then lw else Lf j).map .int))) := by
        have hat := tabI_at (n := wb.marks.length) Lf hi
        have el := lput_at (d := .int (Lf i + 1)) (l := [dd (.mr n), dd (.mr d), dd (.int (i : Int)), o3, dd (bI N (fsB wb i)), o5]) (i := i) h.lo (by rw [List.length_map, tabI_len]; exact hi)
        rw [tab_set, show Lf i + 1 = lw by omega] at el
        simp [mvar, h.fLows, h.lo, hat]
        show lput (n + 2) (i : Int) (.int (Lf i + 1)) _ q = _
        rw [show Lf i + 1 = lw by omega]
        exact el
      refine ⟨_, ?_, h.putLo _, keep _ hq (by omega), Fra.put (by omega) (by omega) _⟩
      simp only [b_Heightslook_3l2, sif_ev, mnot_ev, mtru_ev, op2_ev, mvar, g, List.getElem?_cons_succ, List.getElem?_cons_zero, bind_ok, ea, mlift_some, et, Bool.not_false, toO_ok, if_true]
      simpa using s1
  obtain ⟨q2, T2, h2, hq2, f2⟩ := T2
  have T3 : ∃ q3, b_Heightslook_3l3 A [dd (.mr n), dd (.mr d), dd (.int (i : Int)), o3, dd (bI N (fsB wb i)), o5] q2 = .nx [dd (.mr n), dd (.mr d), dd (.int (i : Int)), o3, dd (bI N (fsB wb i)), o5] q3 ∧ HV A wb n row (tabI wb.marks.length fun j => if j = i then lw else Lf j) (tabI wb.marks.length Hf) ((List.range wb.marks.length).map fun j => if j = i then bI wb.marks.length (lsB wb row i) else lf j) ((List.range wb.marks.length).map hf) q3 ∧ q3.st[d]? = some (.dct kvs) ∧ Fra n q2 q3 := by
    have e0 : ixM (.mr (n + 2)) (.int (i : Int)) q2 = some (.int lw) := by
      rw [ixM_mr h2.lo, tabI_at _ hi, if_pos rfl]
    have g := get q2 [dd (.mr n), dd (.mr d), dd (.int (i : Int)), o3, dd (bI N (fsB wb i)), o5] (mixM (mfldM A.Heights "_lows" (mvar 0)) (mvar 2)) lw rfl hq2 (by simp [mvar, h2.fLows, e0])
    have ea := fAnd_bI N (fsB wb i) fun j => decide (j < N) && decide (row[j]?.getD 0 = lw)
    have eb : bI N (fun j => fsB wb i j && (decide (j < N) && decide (row[j]?.getD 0 = lw))) = bI wb.marks.length (lsB wb row i) := by
      rw [← hN]
      refine bI_congr fun j hj => ?_
      unfold lsB
      rw [hm, ← hlw, decide_eq_true hj, Bool.true_and, Bool.true_and]
    rw [eb] at ea
    have el := lput_at (d := bI wb.marks.length (lsB wb row i)) (l := [dd (.mr n), dd (.mr d), dd (.int (i : Int)), o3, dd (bI N (fsB wb i)), o5]) (i := i) h2.ls (by rw [List.length_map, List.length_range]; exact hi)
    rw [dtab_set] at el
    refine ⟨_, ?_, h2.putLs _, keep _ hq2 (by omega), Fra.put (by omega) (by omega) _⟩
    simp only [b_Heightslook_3l3, sputM_ev, op2_ev, mvar, g, List.getElem?_cons_succ, List.getElem?_cons_zero, bind_ok, ea, mlift_some, toO_ok, mfldM_ev, h2.fLs]
    exact el
  obtain ⟨q3, T3, h3, hq3, f3⟩ := T3
  have a4 : ixM (.lst (setsD N (scB wb))) (.int (i : Int)) q3 = some (bI N (scB wb i)) := by rw [hN]; exact setsD_at _ hi
  have T4 : b_Heightslook_3l4 A [dd (.mr n), dd (.mr d), dd (.int (i : Int)), o3, dd (bI N (fsB wb i)), o5] q3 = .nx [dd (.mr n), dd (.mr d), dd (.int (i : Int)), o3, dd (bI N (fsB wb i)), dd (bI N (scB wb i))] q3 := by
    have := h3.fSeconds
    rw [← hN] at this
    simp [b_Heightslook_3l4, mvar, this, a4]
  have T5 : ∃ q5, b_Heightslook_3l5 A [dd (.mr n), dd (.mr d), dd (.int (i : Int)), o3, dd (bI N (fsB wb i)), dd (bI N (scB wb i))] q3 = .nx [dd (.mr n), dd (.mr d), dd (.int (i : Int)), o3, dd (bI N (fsB wb i)), dd (bI N (scB wb i))] q5 ∧ HV A wb n row (tabI wb.marks.length fun j => if j = i then lw else Lf j) (tabI wb.marks.length fun j => if j = i then hg else Hf j) ((List.range wb.marks.length).map fun j => if j = i then bI wb.marks.length (lsB wb row i) else lf j) ((List.range wb.marks.length).map hf) q5 ∧ q5.st[d]? = some (.dct kvs) ∧ Fra n q3 q5 := by
    have e0 : ixM (.mr (n + 3)) (.int (i : Int)) q3 = some (.int (Hf i)) := by
      rw [ixM_mr h3.hi, tabI_at _ hi]
    have g := get q3 [dd (.mr n), dd (.mr d), dd (.int (i : Int)), o3, dd (bI N (fsB wb i)), dd (bI N (scB wb i))] (op2 fAdd (mixM (mfldM A.Heights "_highs" (mvar 0)) (mvar 2)) (mret (D.int 1))) (Hf i + 1) rfl hq3 (by simp [mvar, h3.fHighs, e0])
    have ea := fAnd_bI N (scB wb i) fun j => decide (j < N) && decide (row[j]?.getD 0 = Hf i + 1)
    have et := truOf_bI N fun j => scB wb i j && (decide (j < N) && decide (row[j]?.getD 0 = Hf i + 1))
    have sf := some_second (i := i) V hl (Hf i + 1)
    rw [← hN] at sf
    by_cases c : Hf i = hg
    · have al : ∀ j < N, (scB wb i j && (decide (j < N) && decide (row[j]?.getD 0 = Hf i + 1))) = false := sf.mpr fun x hx e => by
        have := hhigh.2 x hx
        omega
      rw [decide_eq_true al] at et
      refine ⟨q3, ?_, ?_, hq3, Fra.refl⟩
      · simp [b_Heightslook_3l5, mvar, g, ea, et]
      · have : (fun j => if j = i then hg else Hf j) = Hf := by
          funext j
          split
          · rename_i e; subst e; exact c.symm
          · rfl
        rw [this]; exact h3
    · have c2' : Hf i = hg - 1 := c2.resolve_left c
      have ne : ¬ ∀ j < N, (scB wb i j && (decide (j < N) && decide (row[j]?.getD 0 = Hf i + 1))) = false := fun z => by
        obtain ⟨x, hx, e⟩ := hhigh.1
        exact sf.mp z x hx (by omega)
      rw [decide_eq_false ne] at et
      have s1 : saugM (fun i j => i + j) (mfldM A.Heights "_highs" (mvar 0)) (mvar 2) (mret (D.int 1)) [dd (.mr n), dd (.mr d), dd (.int (i : Int)), o3, dd (bI N (fsB wb i)), dd (bI N (scB wb i))] q3 = .nx [dd (.mr n), dd (.mr d), dd (.int (i : Int)), o3, dd (bI N (fsB wb i)), dd (bI N (scB wb i))] (q3.put (n + 3) (.lst ((tabI wb.marks.length fun j => if j = i then hg else Hf j).map .int))) := by
        have hat := tabI_at (n := wb.marks.length) Hf hi
        have el := lput_at (d := .int (Hf i + 1)) (l := [dd (.mr n), dd (.mr d), dd (.int (i : Int)), o3, dd (bI N (fsB wb i)), dd (bI N (scB wb i))]) (i := i) h3.hi (by rw [List.length_map, tabI_len]; exact hi)
        rw [tab_set, show Hf i + 1 = hg by omega] at el
        simp [mvar, h3.fHighs, h3.hi, hat]
        show lput (n + 3) (i : Int) (.int (Hf i + 1)) _ q3 = _
        rw [show Hf i + 1 = hg by omega]
        exact el
      refine ⟨_, ?_, h3.putHi _, keep _ hq3 (by omega), Fra.put (by omega) (by omega) _⟩
      simp only [b_Heightslook_3l5, sif_ev, mtru_ev, op2_ev, mvar, g, List.getElem?_cons_succ, List.getElem?_cons_zero, bind_ok, ea, mlift_some, et, Bool.not_false, toO_ok, if_true]
      simpa using s1
  obtain ⟨q5, T5, h5, hq5, f5⟩ := T5
  have T6 : ∃ q6, b_Heightslook_3l6 A [dd (.mr n), dd (.mr d), dd (.int (i : Int)), o3, dd (bI N (fsB wb i)), dd (bI N (scB wb i))] q5 = .nx [dd (.mr n), dd (.mr d), dd (.int (i : Int)), o3, dd (bI N (fsB wb i)), dd (bI N (scB wb i))] q6 ∧ HV A wb n row (tabI wb.marks.length fun j => if j = i then lw else Lf j) (tabI wb.marks.length fun j => if j = i then hg else Hf j) ((List.range wb.marks.length).map fun j => if j = i then bI wb.marks.length (lsB wb row i) else lf j) ((List.range wb.marks.length).map fun j => if j = i then bI wb.marks.length (hsB2 wb row i) else hf j) q6 ∧ q6.st[d]? = some (.dct kvs) ∧ Fra n q5 q6 := by
    have e0 : ixM (.mr (n + 3)) (.int (i : Int)) q5 = some (.int hg) := by
      rw [ixM_mr h5.hi, tabI_at _ hi, if_pos rfl]
    have g := get q5 [dd (.mr n), dd (.mr d), dd (.int (i : Int)), o3, dd (bI N (fsB wb i)), dd (bI N (scB wb i))] (mixM (mfldM A.Heights "_highs" (mvar 0)) (mvar 2)) hg rfl hq5 (by simp [mvar, h5.fHighs, e0])
    have ea := fAnd_bI N (scB wb i) fun j => decide (j < N) && decide (row[j]?.getD 0 = hg)
    have eb : bI N (fun j => scB wb i j && (decide (j < N) && decide (row[j]?.getD 0 = hg))) = bI wb.marks.length (hsB2 wb row i) := by
      rw [← hN]
      refine bI_congr fun j hj => ?_
      unfold hsB2
      rw [hm, ← hhg, decide_eq_true hj, Bool.true_and, Bool.true_and]
    rw [eb] at ea
    have el := lput_at (d := bI wb.marks.length (hsB2 wb row i)) (l := [dd (.mr n), dd (.mr d), dd (.int (i : Int)), o3, dd (bI N (fsB wb i)), dd (bI N (scB wb i))]) (i := i) h5.hs (by rw [List.length_map, List.length_range]; exact hi)
    rw [dtab_set] at el
    refine ⟨_, ?_, h5.putHs _, keep _ hq5 (by omega), Fra.put (by omega) (by omega) _⟩
    simp only [b_Heightslook_3l6, sputM_ev, op2_ev, mvar, g, List.getElem?_cons_succ, List.getElem?_cons_zero, bind_ok, ea, mlift_some, toO_ok, mfldM_ev, h5.fHs]
    exact el
  obtain ⟨q6, T6, h6, hq6, f6⟩ := T6
  refine ⟨q6, ?_, by rw [← hlw, ← hhg]; exact h6, hq6, ((f2.trans f3).trans f5).trans f6⟩
  unfold L_Heightslook_3
  rw [seq_nx T1, seq_nx T2, seq_nx T3, seq_nx T4, seq_nx T5, T6, hN]
end
end PL
namespace PL
open PySem L2 Den
section
variable {A : CA} {wb : Wb} {n : Nat} {row : List Int} {p q : S}
theorem look_loop (V : Valid wb) (hl : row.length = wb.marks.length) {d : Nat} (hd : n + 5 < d) {kvs : List (Key × L2.V)} (hk : PlOk wb.marks.length row wb.marks.length kvs) : ∀ (xs : List Nat), (∀ x ∈ xs, x < wb.marks.length ∧ mvB wb x = true) → ∀ (Lf Hf : Nat → Int) (lf hf : Nat → D) (q : S) (o2 o3 o4 o5 : Option L),
    HV A wb n row (tabI wb.marks.length Lf) (tabI wb.marks.length Hf) ((List.range wb.marks.length).map lf) ((List.range wb.marks.length).map hf) q → q.st[d]? = some (.dct kvs) →
    (∀ i < wb.marks.length, mvB wb i = true → (Lf i = lowI row (wb.first[i]?.getD []) ∨ Lf i = lowI row (wb.first[i]?.getD []) - 1) ∧ (Hf i = highI row (wb.second[i]?.getD []) ∨ Hf i = highI row (wb.second[i]?.getD []) - 1)) →
    ∃ q' o2' o4' o5', loop (gset 2) (L_Heightslook_3 A) (xs.map fun x : Nat => .int (x : Int)) [dd (.mr n), dd (.mr d), o2, o3, o4, o5] q = .nx [dd (.mr n), dd (.mr d), o2', o3, o4', o5'] q' ∧
      HV A wb n row (tabI wb.marks.length fun j => if j ∈ xs then lowI row (wb.first[j]?.getD []) else Lf j) (tabI wb.marks.length fun j => if j ∈ xs then highI row (wb.second[j]?.getD []) else Hf j)
        ((List.range wb.marks.length).map fun j => if j ∈ xs then bI wb.marks.length (lsB wb row j) else lf j) ((List.range wb.marks.length).map fun j => if j ∈ xs then bI wb.marks.length (hsB2 wb row j) else hf j) q' ∧ Fra n q q'
  | [], _, Lf, Hf, lf, hf, q, o2, o3, o4, o5, h, _, _ => ⟨q, o2, o4, o5, rfl, by simpa using h, Fra.refl⟩
  | x :: xs, hx, Lf, Hf, lf, hf, q, o2, o3, o4, o5, h, hq, hc => by
    obtain ⟨hxN, hxm⟩ := hx x List.mem_cons_self
    obtain ⟨q1, e1, h1, hq1, f1⟩ := look_turn V hl h hd hq hk hxN hxm (hc x hxN hxm).1 (hc x hxN hxm).2 o3 o4 o5
    obtain ⟨q2, o2', o4', o5', e2, h2, f2⟩ := look_loop V hl hd hk xs (fun y hy => hx y (List.mem_cons_of_mem _ hy)) _ _ _ _ q1 (dd (.int (x : Int))) o3 _ _ h1 hq1 (fun i hi hm => by
      by_cases c : i = x
      · subst c; simp
      · simp only [if_neg c]; exact hc i hi hm)
    refine ⟨q2, o2', o4', o5', (loop_cons (l1 := [dd (.mr n), dd (.mr d), dd (.int (x : Int)), o3, o4, o5]) rfl e1).trans e2, ?_, f1.trans f2⟩
    have fx : ∀ {α : Type} (g : Nat → α) (f : Nat → α), (fun j => if j ∈ x :: xs then g j else f j) = fun j => if j ∈ xs then g j else if j = x then g x else f j := fun g f => by
      funext j
      by_cases c1 : j ∈ xs
      · simp [c1]
      · by_cases c2 : j = x
        · subst c2; simp
        · simp [c1, c2]
    rw [fx, fx, fx, fx]
    exact h2
/-- what _look needs -/
structure Near (wb : Wb) (row : List Int) (Lf Hf : Nat → Int) (lf hf : Nat → D) : Prop where
  mv : ∀ i < wb.marks.length, mvB wb i = true → (Lf i = lowI row (wb.first[i]?.getD []) ∨ Lf i = lowI row (wb.first[i]?.getD []) - 1) ∧ (Hf i = highI row (wb.second[i]?.getD []) ∨ Hf i = highI row (wb.second[i]?.getD []) - 1)
  en : ∀ i < wb.marks.length, mvB wb i = false → Lf i = 0 ∧ Hf i = 0 ∧ lf i = D.int 0 ∧ hf i = D.int 0
theorem look_ev (V : Valid wb) (hl : row.length = wb.marks.length) {Lf Hf : Nat → Int} {lf hf : Nat → D} (h : HV A wb n row (tabI wb.marks.length Lf) (tabI wb.marks.length Hf) ((List.range wb.marks.length).map lf) ((List.range wb.marks.length).map hf) p) (hc : Near wb row Lf Hf lf hf) :
    ∃ q, D_Heightslook A [.mr n] p = .ok .non q ∧ HG A wb n row q ∧ Fra n p q := by
  have n2 := V.n2
  obtain ⟨d, hd⟩ : ∃ d, d = p.st.length := ⟨_, rfl⟩
  have hlt := h.lt
  have T1 : sasg mdnewM (gset 1) [dd (.mr n), none, none, none, none, none] p = .nx [dd (.mr n), dd (.mr d), none, none, none, none] (p.mor (.dct [])) := by
    rw [hd]
    simp
  have h1 := h.mor (.dct [])
  -- the places
  obtain ⟨l', q', e, kvs, v, o2, o3, rfl, rfl, hpl⟩ := loopM_run (ck := ckM (n + 1) (row.map D.int)) (tg := gset2 2 3) (body := L_Heightslook_2) (fun (m : Nat) (l : Den.Loc) (q : S) => ∃ kvs v o2 o3, l = [dd (.mr n), dd (.mr d), o2, o3, none, none] ∧ q = ⟨p.pot, p.st ++ [.dct kvs], v⟩ ∧ PlOk wb.marks.length row m kvs)
    (fun m l q ⟨kvs, v, o2, o3, _, hq, _⟩ => by
      subst hq
      show (p.st ++ [MO.dct kvs])[n + 1]? = _
      rw [List.getElem?_append_left (by omega)]
      exact h.rw) (ds := enumD 0 (row.map D.int)) (k := 0) (l := [dd (.mr n), dd (.mr d), none, none, none, none]) (p := p.mor (.dct [])) ⟨[], _, none, none, rfl, rfl, plOk_nil _ _⟩ (fun m x l q hx ⟨kvs, v, o2, o3, hl', hq, hk⟩ => by
      subst hl' hq
      rw [Nat.zero_add] at hk ⊢
      have hm : m < row.length := by
        have := (List.getElem?_eq_some_iff.mp hx).1
        rw [enumD_len, List.length_map] at this
        exact this
      have ex : x = .tup [.int (m : Int), .int (row[m]?.getD 0)] := by
        have := enumD_get (row.map D.int) 0 m (.int (row[m]?.getD 0)) (by rw [List.getElem?_map, List.getElem?_eq_getElem hm]; rfl)
        rw [hx] at this
        simpa using this
      subst ex
      refine ⟨[dd (.mr n), dd (.mr d), dd (.int (m : Int)), dd (.int (row[m]?.getD 0)), none, none], rfl, [dd (.mr n), dd (.mr d), dd (.int (m : Int)), dd (.int (row[m]?.getD 0)), none, none], (⟨p.pot, p.st ++ [.dct kvs], v⟩ : S).put d (.dct (putK kvs (.inl (row[m]?.getD 0)) (.int ((bitN wb.marks.length fun j => (decide (j < m) && decide (row[j]?.getD 0 = row[m]?.getD 0)) || decide (j = m) : Nat) : Int)))), .inl ?_, _, v + 1, _, _, rfl, ?_, plOk_put hk⟩
      · have hg : (⟨p.pot, p.st ++ [.dct kvs], v⟩ : S).st[d]? = some (.dct kvs) := by
          show (p.st ++ [MO.dct kvs])[d]? = _
          rw [hd, List.getElem?_append_right (Nat.le_refl _), Nat.sub_self]
          rfl
        have g := mdget2_at (a := mvar 1) (b := mvar 3) (z := mret (D.int 0)) (l := [dd (.mr n), dd (.mr d), dd (.int (m : Int)), dd (.int (row[m]?.getD 0)), none, none]) (y := .int (row[m]?.getD 0)) (w := .int 0) rfl hg rfl rfl
        rw [hk.2] at g
        have es := shl_one (n := wb.marks.length) (by omega) (x := m) (by omega)
        have eo := fOr_bI wb.marks.length (fun j => decide (j < m) && decide (row[j]?.getD 0 = row[m]?.getD 0)) fun j => decide (j = m)
        have hlen : kvs.length < 1000 := by have := hk.1; omega
        unfold L_Heightslook_2
        simp only [sdputM_ev, op2_ev, g, mvar, List.getElem?_cons_succ, List.getElem?_cons_zero, bind_ok, mlift_some, mret_ev, es, eo, toO_ok, hg, keyD, sc, if_pos hlen]
      · show S.mk p.pot ((p.st ++ [MO.dct kvs]).set d _) (v + 1) = _
        rw [hd, List.set_append_right _ _ (Nat.le_refl _), Nat.sub_self]
        rfl)
  rw [enumD_len, List.length_map, Nat.zero_add, hl] at hpl
  have T2 : b_Heightslook_2 A [dd (.mr n), dd (.mr d), none, none, none, none] (p.mor (.dct [])) = .nx [dd (.mr n), dd (.mr d), o2, o3, none, none] ⟨p.pot, p.st ++ [.dct kvs], v⟩ := by
    have es : msrc (mfldM A.Heights "_row" (mvar 0)) [dd (.mr n), dd (.mr d), none, none, none, none] (p.mor (.dct [])) = .ok (n + 1, row.map D.int) (p.mor (.dct [])) := by
      simp [mvar, h1.fRow, plcM_mr h1.rw]
    unfold b_Heightslook_2 sforM sbind
    rw [es]
    exact e
  have hq : (⟨p.pot, p.st ++ [.dct kvs], v⟩ : S).st[d]? = some (.dct kvs) := by
    show (p.st ++ [MO.dct kvs])[d]? = _
    rw [hd, List.getElem?_append_right (Nat.le_refl _), Nat.sub_self]
    rfl
  have at2 : ∀ {k : Nat} {x : MO}, p.st[k]? = some x → (⟨p.pot, p.st ++ [.dct kvs], v⟩ : S).st[k]? = some x := fun {k x} hh => by
    show (p.st ++ [MO.dct kvs])[k]? = _
    rw [List.getElem?_append_left (List.getElem?_eq_some_iff.mp hh).1, hh]
  have h2 : HV A wb n row (tabI wb.marks.length Lf) (tabI wb.marks.length Hf) ((List.range wb.marks.length).map lf) ((List.range wb.marks.length).map hf) ⟨p.pot, p.st ++ [.dct kvs], v⟩ := ⟨at2 h.ob, at2 h.rw, at2 h.lo, at2 h.hi, at2 h.ls, at2 h.hs⟩
  obtain ⟨q3, o2', o4', o5', e3, h3, f3⟩ := look_loop V hl (by omega : n + 5 < d) hpl ((List.range wb.marks.length).filter (mvB wb)) (fun x hx => ⟨List.mem_range.mp (List.mem_filter.mp hx).1, (List.mem_filter.mp hx).2⟩) Lf Hf lf hf ⟨p.pot, p.st ++ [.dct kvs], v⟩ o2 o3 none none h2 hq hc.mv
  have T3 : b_Heightslook_3 A [dd (.mr n), dd (.mr d), o2, o3, none, none] ⟨p.pot, p.st ++ [.dct kvs], v⟩ = .nx [dd (.mr n), dd (.mr d), o2', o3, o4', o5'] q3 := by
    unfold b_Heightslook_3
    rw [← setI_nats] at e3
    simp only [sfor_ev, mbind_ev, mfldM_ev, mvar, List.getElem?_cons_zero, bind_ok, h2.moving, mlift_some, tupOf, toO_ok]
    exact e3
  have mem : ∀ j < wb.marks.length, (j ∈ (List.range wb.marks.length).filter (mvB wb)) ↔ mvB wb j = true := fun j hj => by simp [hj]
  have g1 : (tabI wb.marks.length fun j => if j ∈ (List.range wb.marks.length).filter (mvB wb) then lowI row (wb.first[j]?.getD []) else Lf j) = loI wb row := tabI_congr fun j hj => by
    cases hm : mvB wb j with
    | true => rw [if_pos ((mem j hj).mpr hm), if_pos rfl]
    | false => rw [if_neg (fun z => by rw [(mem j hj).mp z] at hm; cases hm), (hc.en j hj hm).1]; simp
  have g2 : (tabI wb.marks.length fun j => if j ∈ (List.range wb.marks.length).filter (mvB wb) then highI row (wb.second[j]?.getD []) else Hf j) = hiI wb row := tabI_congr fun j hj => by
    cases hm : mvB wb j with
    | true => rw [if_pos ((mem j hj).mpr hm), if_pos rfl]
    | false => rw [if_neg (fun z => by rw [(mem j hj).mp z] at hm; cases hm), (hc.en j hj hm).2.1]; simp
  have g3 : ((List.range wb.marks.length).map fun j => if j ∈ (List.range wb.marks.length).filter (mvB wb) then bI wb.marks.length (lsB wb row j) else lf j) = setsD wb.marks.length (lsB wb row) := List.map_congr_left fun j hj => by
    have hj := List.mem_range.mp hj
    cases hm : mvB wb j with
    | true => rw [if_pos ((mem j hj).mpr hm)]
    | false =>
      rw [if_neg (fun z => by rw [(mem j hj).mp z] at hm; cases hm), (hc.en j hj hm).2.2.1, b0 wb.marks.length]
      exact bI_congr fun i _ => by unfold lsB; rw [hm]; rfl
  have g4 : ((List.range wb.marks.length).map fun j => if j ∈ (List.range wb.marks.length).filter (mvB wb) then bI wb.marks.length (hsB2 wb row j) else hf j) = setsD wb.marks.length (hsB2 wb row) := List.map_congr_left fun j hj => by
    have hj := List.mem_range.mp hj
    cases hm : mvB wb j with
    | true => rw [if_pos ((mem j hj).mpr hm)]
    | false =>
      rw [if_neg (fun z => by rw [(mem j hj).mp z] at hm; cases hm), (hc.en j hj hm).2.2.2, b0 wb.marks.length]
      exact bI_congr fun i _ => by unfold hsB2; rw [hm]; rfl
  rw [g1, g2, g3, g4] at h3
  have f0 : Fra n p ⟨p.pot, p.st ++ [.dct kvs], v⟩ := ⟨rfl, by show _ ≤ (p.st ++ [MO.dct kvs]).length; rw [List.length_append]; omega, fun j x hh _ => at2 hh⟩
  refine ⟨q3, ?_, ⟨hl, h3⟩, f0.trans f3⟩
  unfold D_Heightslook
  rw [denF_ev (by rfl)]
  show outR (dn_Heightslook A [dd (.mr n), none, none, none, none, none] p) = _
  unfold dn_Heightslook
  rw [seq_nx T1, seq_nx T2, T3]
  rfl
end
end PL
namespace PL
open PySem L2 Den
theorem putN_new {f : Str} {d : D} : ∀ {ns : List Str} {ds : List D}, ns.length = ds.length → ns.contains f = false → putN f d ns ds = (ns ++ [f], ds ++ [d])
  | [], [], _, _ => rfl
  | [], _ :: _, h, _ => by cases h
  | _ :: _, [], h, _ => by cases h
  | n :: ns, e :: es, h, hc => by
    simp only [List.contains_cons, Bool.or_eq_false_iff] at hc
    have ne : ¬ n = f := fun z => by have := hc.1; rw [z] at this; simp at this
    unfold putN
    rw [if_neg ne, putN_new (by simpa using h) hc.2]
    rfl
section
variable {A : CA} {wb : Wb} {n : Nat} {row : List Int} {p q : S}
/-- a field more of the object that is made at n -/
theorem sfld_new {C : Addr} {f : Str} {a e : M D} {l : Den.Loc} {p q : S} {d : D} {ns : List Str} {ds : List D} (he : e l p = .ok d q) (ha : a l q = .ok (.mr n) q) (ho : q.st[n]? = some (.ins C ns ds)) (hl : ns.length = ds.length) (h9 : ns.length < 1000) (hc : ns.contains f = false) : sfldM C f a e l p = .nx l (q.put n (.ins C (ns ++ [f]) (ds ++ [d]))) := by
  rw [sfldM_ev, he, toO_ok, ha, toO_ok]
  dsimp only
  rw [ho]
  dsimp only
  rw [if_pos ⟨rfl, h9⟩, putN_new hl hc]
theorem sort_setI (V : Valid wb) (i : Nat) : sortSet (wb.first[i]?.getD []) = setI wb.marks.length (fsB wb i) := by
  rw [asc_setI (n := wb.marks.length) (sortSet_asc _) fun x hx => first_in V i x (mem_sortSet.mp hx)]
  exact setI_congr fun j _ => by
    unfold fsB
    rw [Bool.eq_iff_iff, decide_eq_true_eq, decide_eq_true_eq, mem_sortSet]
theorem sort_setI2 (V : Valid wb) (i : Nat) : sortSet (wb.second[i]?.getD []) = setI wb.marks.length (scB wb i) := by
  rw [asc_setI (n := wb.marks.length) (sortSet_asc _) fun x hx => second_in V i x (mem_sortSet.mp hx)]
  exact setI_congr fun j _ => by
    unfold scB
    rw [Bool.eq_iff_iff, decide_eq_true_eq, decide_eq_true_eq, mem_sortSet]
theorem map_range {α : Type} (xs : List (List Int)) (f : List Int → α) : xs.map f = (List.range xs.length).map fun i => f (xs[i]?.getD []) := by
  refine List.ext_getElem? fun i => ?_
  by_cases h : i < xs.length
  · simp [h]
  · simp [h]
theorem bits_dS (V : Valid wb) (i : Nat) (p : S) : D_bits_of [dS (wb.first[i]?.getD [])] p = .ok (bI wb.marks.length (fsB wb i)) p := by
  have n2 := V.n2
  refine bits_list (by omega) _ ?_ p
  show seqOf (.tup _) = _
  rw [sort_setI V i]
  rfl
theorem bits_dS2 (V : Valid wb) (i : Nat) (p : S) : D_bits_of [dS (wb.second[i]?.getD [])] p = .ok (bI wb.marks.length (scB wb i)) p := by
  have n2 := V.n2
  refine bits_list (by omega) _ ?_ p
  show seqOf (.tup _) = _
  rw [sort_setI2 V i]
  rfl
abbrev SI0 (A : CA) (wb : Wb) (n : Nat) (rd : D) : Den.Loc := [dd (.mr n), dd (insW A wb), dd rd, none, none, none]
theorem init_firsts (V : Valid wb) (rd : D) (p : S) : c_Heights_init_1 A (SI0 A wb n rd) p = .ok (setsD wb.marks.length (fsB wb)) p := by
  have n2 := V.n2
  have l1 := V.l1
  unfold c_Heights_init_1
  rw [mcomp_ev (ds := wb.first.map dS) (p' := p) (by simp [mvar, tupOf]) (by rw [List.length_map]; omega)]
  rw [map_range wb.first dS, l1]
  exact comp_mapL (by simp) (fun i => dS (wb.first[i]?.getD [])) (fun i => bI wb.marks.length (fsB wb i)) fun i _ => by
    have := bits_dS V i p
    simp [mvar, this]
theorem init_seconds (V : Valid wb) (rd : D) (p : S) : c_Heights_init_2 A (SI0 A wb n rd) p = .ok (setsD wb.marks.length (scB wb)) p := by
  have n2 := V.n2
  have l2 := V.l2
  unfold c_Heights_init_2
  rw [mcomp_ev (ds := wb.second.map dS) (p' := p) (by simp [mvar, tupOf]) (by rw [List.length_map]; omega)]
  rw [map_range wb.second dS, l2]
  exact comp_mapL (by simp) (fun i => dS (wb.second[i]?.getD [])) (fun i => bI wb.marks.length (scB wb i)) fun i _ => by
    have := bits_dS2 V i p
    simp [mvar, this]
/-- the object after its first five fields -/
theorem leading_ev (V : Valid wb) {ds : List D} (ho : p.st[n]? = some (.ins A.Heights ["_marks", "_moving", "_row", "_firsts", "_seconds"] [.tup (wb.marks.map .int), tI (setI wb.marks.length (mvB wb)), .mr (n + 1), .lst (setsD wb.marks.length (fsB wb)), .lst (setsD wb.marks.length (scB wb))])) {i : Nat} (hi : i < wb.marks.length) :
    D_Heightsleading_to A [.mr n, .int (i : Int)] p = .ok (bI wb.marks.length (bfB wb i)) p := by
  have n2 := V.n2
  have sl := setI_len wb.marks.length (mvB wb)
  have e2 : fldM A.Heights "_moving" (.mr n) p = some (tI (setI wb.marks.length (mvB wb))) := by
    rw [fldM_mr ho]
    refine (lk_ne (by decide +kernel)).trans ?_
    exact lk_eq
  have e4 : fldM A.Heights "_firsts" (.mr n) p = some (.lst (setsD wb.marks.length (fsB wb))) := by
    rw [fldM_mr ho]
    refine (lk_ne (by decide +kernel)).trans ?_
    refine (lk_ne (by decide +kernel)).trans ?_
    refine (lk_ne (by decide +kernel)).trans ?_
    exact lk_eq
  have e5 : fldM A.Heights "_seconds" (.mr n) p = some (.lst (setsD wb.marks.length (scB wb))) := by
    rw [fldM_mr ho]
    refine (lk_ne (by decide +kernel)).trans ?_
    refine (lk_ne (by decide +kernel)).trans ?_
    refine (lk_ne (by decide +kernel)).trans ?_
    refine (lk_ne (by decide +kernel)).trans ?_
    exact lk_eq
  have K : c_Heightsleading_to_1 A [dd (.mr n), dd (.int (i : Int)), none] p = .ok ((setI wb.marks.length (bfB wb i)).map .int) p := by
    unfold c_Heightsleading_to_1
    rw [mcomp_ev (ds := (setI wb.marks.length (mvB wb)).map .int) (p' := p) (by simp [mvar, e2, tupOf]) (by rw [List.length_map]; omega)]
    rw [comp_filterL (by simp) D.int (fun x => fsB wb x.toNat i || scB wb x.toNat i) (fun x hx => by
      obtain ⟨j, hj, _, rfl⟩ := setI_mem.mp hx
      have a1 : ixM (.lst (setsD wb.marks.length (fsB wb))) (.int (j : Int)) p = some (bI wb.marks.length (fsB wb j)) := setsD_at _ hj
      have a2 : ixM (.lst (setsD wb.marks.length (scB wb))) (.int (j : Int)) p = some (bI wb.marks.length (scB wb j)) := setsD_at _ hj
      have a3 := fOr_bI wb.marks.length (fsB wb j) (scB wb j)
      have a4 := bit_bI hi fun x => fsB wb j x || scB wb j x
      obtain ⟨u, eu⟩ : ∃ u, fShr (bI wb.marks.length fun x => fsB wb j x || scB wb j x) (.int (i : Int)) = some u := by
        cases e : fShr (bI wb.marks.length fun x => fsB wb j x || scB wb j x) (.int (i : Int)) with
        | none => rw [e] at a4; cases a4
        | some u => exact ⟨u, rfl⟩
      rw [eu, Option.bind_some] at a4
      obtain ⟨v, ev⟩ : ∃ v, fAnd u (.int 1) = some v := by
        cases e : fAnd u (.int 1) with
        | none => rw [e] at a4; cases a4
        | some v => exact ⟨v, rfl⟩
      rw [ev, Option.bind_some] at a4
      rw [Int.toNat_natCast]
      simp [mvar, e4, e5, a1, a2, a3, eu, ev, a4]) (fun x hx => by simp [mvar])]
    rw [setI_filter wb.marks.length (mvB wb) (fun j => fsB wb j i || scB wb j i) _ (fun j _ _ => by rw [Int.toNat_natCast])]
    rfl
  have eb := bits_list (n := wb.marks.length) (by omega) (bfB wb i) (d := .lst ((setI wb.marks.length (bfB wb i)).map .int)) rfl p
  simp [D_Heightsleading_to, denF, dn_Heightsleading_to, locOf, K, eb]
/-- least and greatest parts -/
theorem fMinD_L {ns : List D} {d : D} (h : ns ≠ []) : fMinD [.lst ns] [d] = fMinL [.lst ns] := by
  show (intsOf ns).bind _ = (intsOf ns).bind leastOf
  cases e : intsOf ns with
  | none => rfl
  | some is =>
    cases is with
    | nil => exact absurd (intsOf_is e) (by simpa using h)
    | cons i is => rfl
theorem fMaxD_L {ns : List D} {d : D} (h : ns ≠ []) : fMaxD [.lst ns] [d] = fMaxL [.lst ns] := by
  show (intsOf ns).bind _ = (intsOf ns).bind mostOf
  cases e : intsOf ns with
  | none => rfl
  | some is =>
    cases is with
    | nil => exact absurd (intsOf_is e) (by simpa using h)
    | cons i is => rfl
theorem init_lows (V : Valid wb) (hl : row.length = wb.marks.length) {rd : D} (hr : IsRow rd row) (p : S) : c_Heights_init_5 A (SI0 A wb n rd) p = .ok ((loI wb row).map .int) p := by
  have n2 := V.n2
  have l1 := V.l1
  unfold c_Heights_init_5
  rw [mcomp_ev (ds := wb.first.map dS) (p' := p) (by simp [mvar, tupOf]) (by rw [List.length_map]; omega)]
  rw [map_range wb.first dS, l1]
  unfold loI tabI
  rw [List.map_map]
  refine comp_mapL (by simp) (fun i => dS (wb.first[i]?.getD [])) _ fun i hi => ?_
  have hi := List.mem_range.mp hi
  have hin := first_in V i
  obtain ⟨f, hf⟩ : ∃ f, f = wb.first[i]?.getD [] := ⟨_, rfl⟩
  rw [← hf] at hin ⊢
  have hlen : (sortSet f).length ≤ 60 := by
    rw [hf, sort_setI V i]
    exact Nat.le_trans (setI_len _ _) n2
  have K : c_Heights_init_4 [dd (.mr n), dd (insW A wb), dd rd, dd (dS f), none, none] p = .ok ((sortSet f).map fun x => .int (rowAt row x)) p := by
    unfold c_Heights_init_4
    rw [mcomp_ev (ds := (sortSet f).map .int) (p' := p) (by simp [mvar, dS, tupOf]) (by rw [List.length_map]; omega)]
    refine comp_mapL (by simp) D.int (fun x => .int (rowAt row x)) fun x hx => ?_
    have b := hin x (mem_sortSet.mp hx)
    have : ixM rd (.int x) p = some (.int (rowAt row x)) := by
      rcases hr with rfl | rfl <;> exact row_at b.1 (by omega)
    simp [mvar, this]
  show _ = R.ok (D.int (if mvB wb i = true then lowI row (wb.first[i]?.getD []) else 0)) p
  rw [← hf]
  by_cases hm : mvB wb i = true
  · have hne : f ≠ [] := by rw [hf]; exact first_ne hm
    obtain ⟨v, ev, hv⟩ := minL_low (r := row) (sortSet_ne hne)
    have e1 : fMinD [.lst ((sortSet f).map fun x => .int (rowAt row x))] [.int 0] = some (.int v) := (fMinD_L (by simpa using sortSet_ne hne)).trans ev
    have e2 : v = lowI row f := hv.sort.uniq (lowI_is hne)
    rw [if_pos hm, ← e2]
    simp [K, e1]
  · have hne : f = [] := by
      rw [hf]
      unfold mvB at hm
      simpa using hm
    have e1 : fMinD [.lst ((sortSet f).map fun x => .int (rowAt row x))] [.int 0] = some (.int 0) := by rw [hne]; rfl
    rw [if_neg hm]
    simp [K, e1]
theorem init_highs (V : Valid wb) (hl : row.length = wb.marks.length) {rd : D} (hr : IsRow rd row) (p : S) : c_Heights_init_7 A (SI0 A wb n rd) p = .ok ((hiI wb row).map .int) p := by
  have n2 := V.n2
  have l2 := V.l2
  unfold c_Heights_init_7
  rw [mcomp_ev (ds := wb.second.map dS) (p' := p) (by simp [mvar, tupOf]) (by rw [List.length_map]; omega)]
  rw [map_range wb.second dS, l2]
  unfold hiI tabI
  rw [List.map_map]
  refine comp_mapL (by simp) (fun i => dS (wb.second[i]?.getD [])) _ fun i hi => ?_
  have hi := List.mem_range.mp hi
  have hin := second_in V i
  obtain ⟨f, hf⟩ : ∃ f, f = wb.second[i]?.getD [] := ⟨_, rfl⟩
  rw [← hf] at hin ⊢
  have hlen : (sortSet f).length ≤ 60 := by
    rw [hf, sort_setI2 V i]
    exact Nat.le_trans (setI_len _ _) n2
  have K : c_Heights_init_6 [dd (.mr n), dd (insW A wb), dd rd, dd (dS f), none, none] p = .ok ((sortSet f).map fun x => .int (rowAt row x)) p := by
    unfold c_Heights_init_6
    rw [mcomp_ev (ds := (sortSet f).map .int) (p' := p) (by simp [mvar, dS, tupOf]) (by rw [List.length_map]; omega)]
    refine comp_mapL (by simp) D.int (fun x => .int (rowAt row x)) fun x hx => ?_
    have b := hin x (mem_sortSet.mp hx)
    have : ixM rd (.int x) p = some (.int (rowAt row x)) := by
      rcases hr with rfl | rfl <;> exact row_at b.1 (by omega)
    simp [mvar, this]
  show _ = R.ok (D.int (if mvB wb i = true then highI row (wb.second[i]?.getD []) else 0)) p
  rw [← hf]
  by_cases hm : mvB wb i = true
  · have hne : f ≠ [] := by rw [hf]; exact second_ne V hi hm
    obtain ⟨v, ev, hv⟩ := maxL_high (r := row) (sortSet_ne hne)
    have e1 : fMaxD [.lst ((sortSet f).map fun x => .int (rowAt row x))] [.int 0] = some (.int v) := (fMaxD_L (by simpa using sortSet_ne hne)).trans ev
    have e2 : v = highI row f := hv.sort.uniq (highI_is hne)
    rw [if_pos hm, ← e2]
    simp [K, e1]
  · have hne : f = [] := by
      have li : i < wb.first.length := by have := V.l1; omega
      have h1 := List.getElem?_eq_getElem (l := wb.first) (i := i) li
      have h2 := List.getElem?_eq_getElem (l := wb.second) (i := i) (by omega)
      have b := V.both i _ _ h1 h2
      unfold mvB at hm
      rw [h1] at hm
      rw [hf, h2]
      have : wb.first[i].isEmpty = true := by simpa using hm
      rw [this] at b
      exact List.isEmpty_iff.mp b.symm
    have e1 : fMaxD [.lst ((sortSet f).map fun x => .int (rowAt row x))] [.int 0] = some (.int 0) := by rw [hne]; rfl
    rw [if_neg hm]
    simp [K, e1]
end
end PL
namespace PL
open PySem L2 Den
section
variable {A : CA} {wb : Wb} {n : Nat} {row : List Int} {p q : S}
/-- what a step of the making leaves: the object, and all that stood elsewhere -/
structure Stg (C : Addr) (n : Nat) (ns : List Str) (ds : List D) (p q : S) : Prop where
  ob : q.st[n]? = some (.ins C ns ds)
  pot : q.pot = p.pot
  st : ∀ (j : Nat) (x : MO), j ≠ n → p.st[j]? = some x → q.st[j]? = some x
theorem fstep {C : Addr} {f : Str} {e : M D} {l : Den.Loc} {p : S} {d : D} {ns : List Str} {ds : List D} (he : e l p = .ok d p) (ha : mvar 0 l p = .ok (.mr n) p) (ho : p.st[n]? = some (.ins C ns ds)) (hl : ns.length = ds.length) (h9 : ns.length < 1000) (hc : ns.contains f = false) :
    ∃ q, sfldM C f (mvar 0) e l p = .nx l q ∧ Stg C n (ns ++ [f]) (ds ++ [d]) p q ∧ q.st.length = p.st.length := by
  have hn := (List.getElem?_eq_some_iff.mp ho).1
  refine ⟨_, sfld_new he ha ho hl h9 hc, ⟨?_, rfl, fun j x hj h => ?_⟩, ?_⟩
  · rw [put_at, if_pos rfl, if_pos hn]
  · rw [put_at, if_neg hj]; exact h
  · show (p.st.set n _).length = _
    rw [List.length_set]
theorem lstep {C : Addr} {f : Str} {e : M (List D)} {l : Den.Loc} {p : S} {es : List D} {ns : List Str} {ds : List D} (he : e l p = .ok es p) (ha : ∀ q, mvar 0 l q = .ok (.mr n) q) (ho : p.st[n]? = some (.ins C ns ds)) (hl : ns.length = ds.length) (h9 : ns.length < 1000) (hc : ns.contains f = false) :
    ∃ q, sfldM C f (mvar 0) (mnewM e) l p = .nx l q ∧ Stg C n (ns ++ [f]) (ds ++ [.mr p.st.length]) p q ∧ q.st.length = p.st.length + 1 ∧ q.st[p.st.length]? = some (.lst es) := by
  have hn := (List.getElem?_eq_some_iff.mp ho).1
  have ho2 : (p.mor (.lst es)).st[n]? = some (.ins C ns ds) := mor_at2 ho
  have hlen : (p.mor (.lst es)).st.length = p.st.length + 1 := by
    show (p.st ++ [MO.lst es]).length = _
    rw [List.length_append]; rfl
  refine ⟨_, sfld_new (q := p.mor (.lst es)) (by rw [mnewM_ev, he]; rfl) (ha _) ho2 hl h9 hc, ⟨?_, rfl, fun j x hj h => ?_⟩, ?_, ?_⟩
  · rw [put_at, if_pos rfl, if_pos (by omega)]
  · rw [put_at, if_neg hj]; exact mor_at2 h
  · show (((p.mor (.lst es)).st).set n _).length = _
    rw [List.length_set, hlen]
  · rw [put_at, if_neg (by omega)]
    exact mor_end
theorem Stg.trans {C : Addr} {ns ns' : List Str} {ds ds' : List D} {r : S} (a : Stg C n ns ds p q) (b : Stg C n ns' ds' q r) : Stg C n ns' ds' p r := ⟨b.ob, b.pot.trans a.pot, fun j x hj h => b.st j x hj (a.st j x hj h)⟩
theorem rep0 (N : Nat) : List.replicate N (D.int 0) = (List.range N).map fun _ => D.int 0 := by
  induction N with
  | zero => rfl
  | succ N ih => rw [List.replicate_succ', ih, List.range_succ, List.map_append]; rfl
theorem init_ev (V : Valid wb) (hl : row.length = wb.marks.length) {rd : D} (hr : IsRow rd row) (ho : p.st[n]? = some (.ins A.Heights [] [])) (hn : p.st.length = n + 1) :
    ∃ q, D_Heights_init A [.mr n, insW A wb, rd] p = .ok .non q ∧ HG A wb n row q ∧ q.pot = p.pot ∧ ∀ (j : Nat) (x : MO), j < n → p.st[j]? = some x → q.st[j]? = some x := by
  have n2 := V.n2
  have v0 : ∀ q, mvar 0 (SI0 A wb n rd) q = .ok (.mr n) q := fun _ => rfl
  obtain ⟨q1, e1, g1, l1⟩ := fstep (C := A.Heights) (f := "_marks") (n := n) (e := mfld A.Web "_marks" (mvar 1)) (l := SI0 A wb n rd) (p := p) (d := .tup (wb.marks.map .int)) (by simp [mvar]) (v0 _) ho rfl (by decide) (by decide +kernel)
  obtain ⟨q2, e2, g2, l2⟩ := fstep (C := A.Heights) (f := "_moving") (n := n) (e := mfld A.Web "_moving" (mvar 1)) (l := SI0 A wb n rd) (p := q1) (d := tI (setI wb.marks.length (mvB wb))) (by simp [mvar, f_moving A V]) (v0 _) g1.ob rfl (by decide) (by decide +kernel)
  obtain ⟨q3, e3, g3, l3, c3⟩ := lstep (C := A.Heights) (f := "_row") (n := n) (e := mlistN (acons (mvar 2) anil)) (l := SI0 A wb n rd) (p := q2) (es := row.map .int) (by
    have := hr.sq
    simp [mvar, fSeq1, this]) v0 g2.ob rfl (by decide) (by decide +kernel)
  obtain ⟨q4, e4, g4, l4⟩ := fstep (C := A.Heights) (f := "_firsts") (n := n) (e := mfreeze (c_Heights_init_1 A)) (l := SI0 A wb n rd) (p := q3) (d := .lst (setsD wb.marks.length (fsB wb))) (by rw [mfreeze_ev, init_firsts V rd q3]; rfl) (v0 _) g3.ob rfl (by decide) (by decide +kernel)
  obtain ⟨q5, e5, g5, l5⟩ := fstep (C := A.Heights) (f := "_seconds") (n := n) (e := mfreeze (c_Heights_init_2 A)) (l := SI0 A wb n rd) (p := q4) (d := .lst (setsD wb.marks.length (scB wb))) (by rw [mfreeze_ev, init_seconds V rd q4]; rfl) (v0 _) g4.ob rfl (by decide) (by decide +kernel)
  have n1 : q2.st.length = n + 1 := by omega
  have o5 := g5.ob
  rw [n1] at o5
  have K6 : c_Heights_init_3 A (SI0 A wb n rd) q5 = .ok (setsD wb.marks.length (bfB wb)) q5 := by
    have em : insMM A.Heights "_leading_to" (.mr n) q5 = some (.mr n) := by
      unfold insMM
      dsimp only
      rw [o5]
      exact if_pos ⟨rfl, by decide +kernel⟩
    unfold c_Heights_init_3
    rw [mcomp_ev (ds := rngD 0 wb.marks.length) (p' := q5) (by simp [mvar, rngN (n := wb.marks.length) (by omega)]) (by rw [rngD_len]; omega)]
    unfold rngD
    refine comp_mapL (by simp) (fun i : Nat => D.int (0 + (i : Int))) (fun i => bI wb.marks.length (bfB wb i)) fun i hi => ?_
    have hi := List.mem_range.mp hi
    have := leading_ev V (ds := []) o5 hi
    rw [Int.zero_add]
    simp [mvar, em, this]
  obtain ⟨q6, e6, g6, l6⟩ := fstep (C := A.Heights) (f := "_before") (n := n) (e := mfreeze (c_Heights_init_3 A)) (l := SI0 A wb n rd) (p := q5) (d := .lst (setsD wb.marks.length (bfB wb))) (by rw [mfreeze_ev, K6]; rfl) (v0 _) g5.ob rfl (by decide) (by decide +kernel)
  obtain ⟨q7, e7, g7, l7, c7⟩ := lstep (C := A.Heights) (f := "_lows") (n := n) (e := c_Heights_init_5 A) (l := SI0 A wb n rd) (p := q6) (es := (loI wb row).map .int) (init_lows V hl hr q6) v0 g6.ob rfl (by decide) (by decide +kernel)
  obtain ⟨q8, e8, g8, l8, c8⟩ := lstep (C := A.Heights) (f := "_highs") (n := n) (e := c_Heights_init_7 A) (l := SI0 A wb n rd) (p := q7) (es := (hiI wb row).map .int) (init_highs V hl hr q7) v0 g7.ob rfl (by decide) (by decide +kernel)
  have er : ∀ q, mrepN (mfreeze (mshort (acons (mret (D.int 0)) anil))) (mfld A.Web "_size" (mvar 1)) (SI0 A wb n rd) q = .ok ((List.range wb.marks.length).map fun _ => D.int 0) q := fun q => by
    have : fRepN (.lst [D.int 0]) (.int (wb.marks.length : Int)) = some ((List.range wb.marks.length).map fun _ => D.int 0) := by
      show (if 0 ≤ (wb.marks.length : Int) ∧ (wb.marks.length : Int) ≤ 1000 then some (List.replicate (wb.marks.length : Int).toNat (D.int 0)) else none) = _
      rw [if_pos ⟨by omega, by omega⟩, Int.toNat_natCast, rep0]
    simp [mvar, this]
  obtain ⟨q9, e9, g9, l9, c9⟩ := lstep (C := A.Heights) (f := "_low_stands") (n := n) (l := SI0 A wb n rd) (p := q8) (er q8) v0 g8.ob rfl (by decide) (by decide +kernel)
  obtain ⟨q10, e10, g10, l10, c10⟩ := lstep (C := A.Heights) (f := "_high_stands") (n := n) (l := SI0 A wb n rd) (p := q9) (er q9) v0 g9.ob rfl (by decide) (by decide +kernel)
  have n6 : q6.st.length = n + 2 := by omega
  have n7 : q7.st.length = n + 3 := by omega
  have n8 : q8.st.length = n + 4 := by omega
  have n9 : q9.st.length = n + 5 := by omega
  rw [n1] at c3
  rw [n6] at c7
  rw [n7] at c8
  rw [n8] at c9
  rw [n9] at c10
  have o10 := g10.ob
  rw [n1, n6, n7, n8, n9] at o10
  have ne : ∀ k, n + (k + 1) ≠ n := fun k => by omega
  have HVq : HV A wb n row (tabI wb.marks.length fun i => if mvB wb i then lowI row (wb.first[i]?.getD []) else 0) (tabI wb.marks.length fun i => if mvB wb i then highI row (wb.second[i]?.getD []) else 0) ((List.range wb.marks.length).map fun _ => D.int 0) ((List.range wb.marks.length).map fun _ => D.int 0) q10 := by
    refine ⟨o10, ?_, ?_, ?_, ?_, c10⟩
    · exact g10.st _ _ (ne 0) (g9.st _ _ (ne 0) (g8.st _ _ (ne 0) (g7.st _ _ (ne 0) (g6.st _ _ (ne 0) (g5.st _ _ (ne 0) (g4.st _ _ (ne 0) c3))))))
    · exact g10.st _ _ (ne 1) (g9.st _ _ (ne 1) (g8.st _ _ (ne 1) c7))
    · exact g10.st _ _ (ne 2) (g9.st _ _ (ne 2) c8)
    · exact g10.st _ _ (ne 3) c9
  obtain ⟨q, e11, hg, fr⟩ := look_ev V hl HVq ⟨fun i _ hm => ⟨.inl (by rw [hm]; rfl), .inl (by rw [hm]; rfl)⟩, fun i _ hm => ⟨by rw [hm]; rfl, by rw [hm]; rfl, rfl, rfl⟩⟩
  have em := HVq.meth (m := "_look") (by decide +kernel)
  have T11 : b_Heights_init_11 A (SI0 A wb n rd) q10 = .nx (SI0 A wb n rd) q := by
    simp [b_Heights_init_11, mvar, em, e11]
  refine ⟨q, ?_, hg, ?_, fun j x hj h => ?_⟩
  · unfold D_Heights_init
    rw [denF_ev (by rfl)]
    show outR (dn_Heights_init A (SI0 A wb n rd) p) = _
    unfold dn_Heights_init
    rw [seq_nx (a := b_Heights_init_01 A) e1, seq_nx (a := b_Heights_init_02 A) e2, seq_nx (a := b_Heights_init_03 A) e3, seq_nx (a := b_Heights_init_04 A) e4, seq_nx (a := b_Heights_init_05 A) e5, seq_nx (a := b_Heights_init_06 A) e6, seq_nx (a := b_Heights_init_07 A) e7, seq_nx (a := b_Heights_init_08 A) e8, seq_nx (a := b_Heights_init_09 A) e9, seq_nx (a := b_Heights_init_10 A) e10, T11]
    rfl
  · exact fr.pot.trans (g10.pot.trans (g9.pot.trans (g8.pot.trans (g7.pot.trans (g6.pot.trans (g5.pot.trans (g4.pot.trans (g3.pot.trans (g2.pot.trans g1.pot)))))))))
  · have nj : j ≠ n := by omega
    exact fr.st j x (g10.st _ _ nj (g9.st _ _ nj (g8.st _ _ nj (g7.st _ _ nj (g6.st _ _ nj (g5.st _ _ nj (g4.st _ _ nj (g3.st _ _ nj (g2.st _ _ nj (g1.st _ _ nj h)))))))))) (.inl (by omega))
/-- Heights(web, row) -/
theorem heights_make (V : Valid wb) (hl : row.length = wb.marks.length) {rd : D} (hr : IsRow rd row) {a : M (List D)} {l : Den.Loc} (ha : a l p = .ok [insW A wb, rd] p) : ∃ q, mmakeM A.Heights (D_Heights_init A) a l p = .ok (.mr p.st.length) q ∧ HG A wb p.st.length row q ∧ q.pot = p.pot ∧ ∀ (j : Nat) (x : MO), p.st[j]? = some x → q.st[j]? = some x := by
  obtain ⟨q, e, hg, hp, hs⟩ := init_ev (A := A) (n := p.st.length) (p := p.mor (.ins A.Heights [] [])) V hl hr mor_end (by
    show (p.st ++ [MO.ins A.Heights [] []]).length = _
    rw [List.length_append]; rfl)
  refine ⟨q, ?_, hg, hp, fun j x h => hs j x (List.getElem?_eq_some_iff.mp h).1 (mor_at2 h)⟩
  unfold mmakeM
  rw [mbind_ok ha]
  simp only [e]
end
end PL
namespace PL
open PySem L2 Den
section
variable {A : CA} {wb : Wb} {n : Nat} {row : List Int} {p q : S}
theorem dueI_most (d : Due) {k : Int} (k0 : 0 ≤ k) (hd : ∀ b x, d = some (b, x) → 0 ≤ x) : dueI d k ≤ k + 1 := by
  rcases d with _ | ⟨_ | _, x⟩
  · exact Int.le_refl _
  · have := hd false x rfl
    show max 0 (k + 1 - x) ≤ k + 1
    omega
  · show min x (k + 1) ≤ k + 1
    omega
theorem due_pos (V : Valid wb) (i : Nat) : ∀ b x, wb.dues[i]?.getD none = some (b, x) → 0 ≤ x := fun b x h => by
  cases e : wb.dues[i]? with
  | none => rw [e] at h; cases h
  | some d => rw [e] at h; exact (V.du d (List.mem_of_getElem? e) b x h).1
theorem lf_sub0 (wb : Wb) (k : Int) (r : List Int) (i : Nat) : ∀ j, lfB wb k r j i = true → lfB wb k r 0 i = true
  | 0, h => h
  | j + 1, h => lf_sub0 wb k r i j (by
    have h : (lfB wb k r j i && !outB wb k r (lfB wb k r j) i) = true := h
    rw [Bool.and_eq_true] at h
    exact h.1)
theorem go_out (V : Valid wb) {k : Int} (k0 : 0 ≤ k) (hl : row.length = wb.marks.length) {lf lf' : Nat → Bool} (e : ∀ i < wb.marks.length, lf i = lf' i) (h0 : ∀ i < wb.marks.length, lf' i = true → lfB wb k row 0 i = true) {i : Nat} (hi : i < wb.marks.length) : goB wb row (fun _ => false) lf i = outB wb k row lf' i := by
  have eu : upI row (fun j => lf j || false) = upI row lf' := upI_congr fun j hj => by rw [Bool.or_false]; exact e j (by omega)
  unfold goB outB offB2
  rw [e i hi, eu]
  cases h : lf' i with
  | false => rfl
  | true =>
    rw [Bool.true_and, Bool.true_and]
    cases hm : mvB wb i with
    | true => rw [prI_mv hm, Bool.true_and]
    | false =>
      rw [prI_end hm, Bool.false_and]
      have h1 := h0 i hi h
      have h1 : decide (row[i]?.getD 0 < dueI (wb.dues[i]?.getD none) k) = true := h1
      have h2 := of_decide_eq_true h1
      have h3 := dueI_most (wb.dues[i]?.getD none) k0 (due_pos V i)
      exact (decide_eq_false (by omega)).symm
theorem lv_lf (V : Valid wb) {k : Int} (k0 : 0 ≤ k) (hl : row.length = wb.marks.length) : ∀ (j : Nat) {i : Nat}, i < wb.marks.length → lvB wb row (fun _ => false) (lfB wb k row 0) j i = lfB wb k row j i
  | 0, i, _ => rfl
  | j + 1, i, hi => by
    show (lvB wb row (fun _ => false) (lfB wb k row 0) j i && !goB wb row (fun _ => false) (lvB wb row (fun _ => false) (lfB wb k row 0) j) i) = (lfB wb k row j i && !outB wb k row (lfB wb k row j) i)
    rw [lv_lf V k0 hl j hi, go_out V k0 hl (fun i hi => lv_lf V k0 hl j hi) (fun i hi h => lf_sub0 wb k row i j h) hi]
/-- behind the last round nothing changes -/
theorem lf_rest {k : Int} {J : Nat} (h : ∀ i < wb.marks.length, outB wb k row (lfB wb k row J) i = false) (hl : row.length = wb.marks.length) : ∀ (t : Nat) {i : Nat}, i < wb.marks.length → lfB wb k row (J + t) i = lfB wb k row J i ∧ rkB wb k row (J + t) i = rkB wb k row J i
  | 0, i, _ => ⟨rfl, rfl⟩
  | t + 1, i, hi => by
    have ih := lf_rest h hl t hi
    have eo : outB wb k row (lfB wb k row (J + t)) i = false := by
      have eu : upI row (lfB wb k row (J + t)) = upI row (lfB wb k row J) := upI_congr fun j hj => (lf_rest h hl t (by omega)).1
      have := h i hi
      unfold outB at this ⊢
      rw [eu, ih.1]
      exact this
    constructor
    · show (lfB wb k row (J + t) i && !outB wb k row (lfB wb k row (J + t)) i) = _
      rw [eo, ih.1]; simp
    · show (if outB wb k row (lfB wb k row (J + t)) i = true then ((J + t : Nat) : Int) + 1 else rkB wb k row (J + t) i) = _
      rw [eo, ih.2]; simp
end
end PL
namespace PL
open PySem L2 Den
section
variable {A : CA} {wb : Wb} {n : Nat} {row : List Int} {p q : S}
theorem told_ev (h : HG A wb n row p) : D_Heights_told A [.mr n] p = .ok (tI row) p := by
  have e1 := h.2.fRow
  have e2 : lstM (.mr (n + 1)) p = some (row.map .int) := by
    unfold lstM
    dsimp only
    rw [h.2.rw]
  unfold D_Heights_told
  rw [denF_ev (by rfl)]
  show outR (dn_Heights_told A [dd (.mr n)] p) = _
  simp [dn_Heights_told, mvar, e1, e2]
theorem staying_ev (V : Valid wb) (h : HG A wb n row p) {k : Int} (k0 : 0 ≤ k) : D_Heights_staying A [.mr n, bI wb.marks.length (lfB wb k row 0), .int 0] p = .ok (bI wb.marks.length (lfB wb k row row.length)) p := by
  have n2 := V.n2
  have hl := h.1
  have em := h.2.meth (m := "leaving") (by decide +kernel)
  obtain ⟨J, hJ, hend, _, elv⟩ := leaving_ev V h (fun _ => false) (lfB wb k row 0)
  rw [← b0] at elv
  have hend' : ∀ i < wb.marks.length, outB wb k row (lfB wb k row J) i = false := fun i hi => by
    rw [← go_out V k0 hl (fun i hi => lv_lf V k0 hl J hi) (fun i hi hh => lf_sub0 wb k row i J hh) hi]
    exact hend i hi
  obtain ⟨l', q', e, hq, o3, rfl⟩ := loop_run (tg := gset 3) (body := L_Heights_staying_1)
    (fun (t : Nat) (l : Den.Loc) (q : S) => q = p ∧ ∃ o3, l = [dd (.mr n), dd (bI wb.marks.length (lvB wb row (fun _ => false) (lfB wb k row 0) t)), dd (.int 0), o3])
    (ds := (List.range J).map fun t => bI wb.marks.length (goB wb row (fun _ => false) (lvB wb row (fun _ => false) (lfB wb k row 0) t))) (k := 0) (p := p) ⟨rfl, none, rfl⟩ (fun t x l q hx hI => by
      obtain ⟨hq, o3, rfl⟩ := hI
      subst hq
      rw [Nat.zero_add]
      have ht : t < J := by
        have := (List.getElem?_eq_some_iff.mp hx).1
        rw [List.length_map, List.length_range] at this
        exact this
      rw [List.getElem?_map, List.getElem?_range ht] at hx
      cases hx
      obtain ⟨z, hz⟩ : ∃ z, z = goB wb row (fun _ => false) (lvB wb row (fun _ => false) (lfB wb k row 0) t) := ⟨_, rfl⟩
      obtain ⟨y, hy⟩ : ∃ y, y = lvB wb row (fun _ => false) (lfB wb k row 0) t := ⟨_, rfl⟩
      refine ⟨[dd (.mr n), dd (bI wb.marks.length y), dd (.int 0), dd (bI wb.marks.length z)], by rw [hy, hz]; rfl, [dd (.mr n), dd (bI wb.marks.length fun i => y i && !z i), dd (.int 0), dd (bI wb.marks.length z)], q, .inl ?_, rfl, dd (bI wb.marks.length z), by rw [hy, hz]; rfl⟩
      have a := fInv_and_bI wb.marks.length y z
      obtain ⟨w, ew⟩ : ∃ w, fInv (bI wb.marks.length z) = some w := by
        cases ev : fInv (bI wb.marks.length z) with
        | none => rw [ev] at a; cases a
        | some v => exact ⟨v, rfl⟩
      rw [ew, Option.bind_some] at a
      simp [L_Heights_staying_1, mvar, ew, a])
  rw [List.length_map, List.length_range, Nat.zero_add] at e
  subst hq
  have eJ : bI wb.marks.length (lvB wb row (fun _ => false) (lfB wb k row 0) J) = bI wb.marks.length (lfB wb k row row.length) := bI_congr fun i hi => by
    rw [lv_lf V k0 hl J hi]
    have := lf_rest hend' hl (row.length - J) hi
    rw [show J + (row.length - J) = row.length by omega] at this
    exact this.1.symm
  rw [eJ] at e
  have T1 : b_Heights_staying_1 A [dd (.mr n), dd (bI wb.marks.length (lfB wb k row 0)), dd (.int 0), none] q' = .nx [dd (.mr n), dd (bI wb.marks.length (lfB wb k row row.length)), dd (.int 0), o3] q' := by
    unfold b_Heights_staying_1
    simp only [sfor_ev, mbind_ev, acons_ev, anil_ev, mmethM_ev, mvar, List.getElem?_cons_zero, List.getElem?_cons_succ, bind_ok, em, elv, mlift_some, lstOf, toO_ok]
    exact e
  unfold D_Heights_staying
  rw [denF_ev (by rfl)]
  show outR (dn_Heights_staying A [dd (.mr n), dd (bI wb.marks.length (lfB wb k row 0)), dd (.int 0), none] q') = _
  unfold dn_Heights_staying
  rw [seq_nx T1]
  simp [mvar]
theorem upI_set {r : List Int} {z : Nat → Bool} {i : Nat} (hi : i < r.length) (hz : z i = false) : (upI r z).set i (r[i]?.getD 0 + 1) = upI r fun j => z j || decide (j = i) := by
  refine List.ext_getElem? fun j => ?_
  rw [List.getElem?_set]
  by_cases c : i = j
  · subst c
    rw [if_pos rfl, if_pos (by rw [upI_len]; exact hi)]
    unfold upI
    rw [List.getElem?_map, List.getElem?_range hi]
    simp
  · rw [if_neg c]
    unfold upI
    rw [List.getElem?_map, List.getElem?_map]
    by_cases hj : j < r.length
    · rw [List.getElem?_range hj]
      have : ¬ j = i := fun z => c z.symm
      simp [this]
    · rw [List.getElem?_eq_none (by rw [List.length_range]; omega)]; rfl
theorem lift_loop (row : List Int) (hl : row.length = wb.marks.length) (st : D) {lo hi : List Int} {ls hs : List D} : ∀ (xs : List Nat), xs.Nodup → (∀ x ∈ xs, x < wb.marks.length) → ∀ (z : Nat → Bool) (o2 : Option L) (q : S), (∀ x ∈ xs, z x = false) → HV A wb n (upI row z) lo hi ls hs q →
    ∃ o2' q', loop (gset 2) (L_Heights_lift_1 A) (xs.map fun x : Nat => .int (x : Int)) [dd (.mr n), dd st, o2] q = .nx [dd (.mr n), dd st, o2'] q' ∧ HV A wb n (upI row fun j => z j || decide (j ∈ xs)) lo hi ls hs q' ∧ Fra n q q'
  | [], _, _, z, o2, q, _, h => ⟨o2, q, by simp [loop], by simpa using h, .refl⟩
  | x :: xs, hn, hx, z, o2, q, hz, h => by
    have hxl := hx x List.mem_cons_self
    have hn' := List.nodup_cons.mp hn
    have e1 := h.fRow
    have e2 := h.rw
    have zx := hz x List.mem_cons_self
    have e3 : atI ((upI row z).map D.int) (x : Int) = some (.int (row[x]?.getD 0)) := by
      have := atI_row (r := upI row z) (i := x) (by rw [upI_len]; omega)
      rw [upI_getD, if_pos (by omega), zx] at this
      simpa using this
    have hw := h.putRow ((upI row z).set x (row[x]?.getD 0 + 1))
    rw [upI_set (by omega) zx] at hw
    obtain ⟨o2', q', e, hq, hf⟩ := lift_loop row hl st xs hn'.2 (fun y hy => hx y (List.mem_cons_of_mem _ hy)) (fun j => z j || decide (j = x)) (dd (.int (x : Int))) (q.put (n + 1) (.lst ((upI row fun j => z j || decide (j = x)).map .int))) (fun y hy => by
      show (z y || decide (y = x)) = false
      rw [hz y (List.mem_cons_of_mem _ hy), Bool.false_or]
      exact decide_eq_false fun c => hn'.1 (by rw [← c]; exact hy)) hw
    refine ⟨o2', q', (loop_cons (l1 := [dd (.mr n), dd st, dd (.int (x : Int))]) rfl (l2 := [dd (.mr n), dd st, dd (.int (x : Int))]) ?_).trans e, ?_, (Fra.put (Nat.le_refl _) (by omega) _).trans hf⟩
    · unfold L_Heights_lift_1
      have hp := lput_at (d := .int (row[x]?.getD 0 + 1)) (l := [dd (.mr n), dd st, dd (.int (x : Int))]) e2 (i := x) (by rw [List.length_map, upI_len]; omega)
      rw [← List.map_set, upI_set (by omega) zx] at hp
      simp only [saugM_ev, mfldM_ev, mvar, List.getElem?_cons_zero, List.getElem?_cons_succ, bind_ok, e1, mlift_some, toO_ok, e2, e3, mret_ev, sbind_ev]
      exact hp
    · have : (fun j => z j || decide (j = x) || decide (j ∈ xs)) = fun j => z j || decide (j ∈ x :: xs) := by
        funext j
        by_cases c1 : j = x
        · simp [c1]
        · simp [c1]
      rw [this] at hq
      exact hq
theorem nodup_filt (z : Nat → Bool) : ∀ xs : List Nat, xs.Nodup → (xs.filter z).Nodup
  | [], _ => by simp
  | x :: xs, h => by
    have h := List.nodup_cons.mp h
    have ih := nodup_filt z xs h.2
    rw [List.filter_cons]
    split
    · exact List.nodup_cons.mpr ⟨fun w => h.1 (List.mem_filter.mp w).1, ih⟩
    · exact ih
theorem lift_ev (V : Valid wb) (h : HG A wb n row p) (z : Nat → Bool) : ∃ q, D_Heights_lift A [.mr n, bI wb.marks.length z] p = .ok .non q ∧ HG A wb n (upI row z) q ∧ Fra n p q := by
  have n2 := V.n2
  have hl := h.1
  have em := h.2.meth (m := "_look") (by decide +kernel)
  have es := stands_list A (n := wb.marks.length) (by omega) z p
  have h0 : HV A wb n (upI row fun _ => false) (loI wb row) (hiI wb row) (setsD wb.marks.length (lsB wb row)) (setsD wb.marks.length (hsB2 wb row)) p := by
    have : upI row (fun _ => false) = row := by
      refine List.ext_getElem? fun i => ?_
      unfold upI
      rw [List.getElem?_map]
      by_cases hi : i < row.length
      · rw [List.getElem?_range hi, List.getElem?_eq_getElem hi]; simp [hi]
      · rw [List.getElem?_eq_none (by rw [List.length_range]; omega), List.getElem?_eq_none (by omega)]; rfl
    rw [this]; exact h.2
  obtain ⟨o2, q1, e, h1, f1⟩ := lift_loop (A := A) (wb := wb) (n := n) row hl (bI wb.marks.length z) ((List.range wb.marks.length).filter z) (nodup_filt z _ List.nodup_range) (fun x hx => List.mem_range.mp (List.mem_filter.mp hx).1) (fun _ => false) none p (fun _ _ => rfl) h0
  rw [← setI_nats] at e
  have eu : upI row (fun j => false || decide (j ∈ (List.range wb.marks.length).filter z)) = upI row z := upI_congr fun i hi => by
    rw [Bool.false_or]
    cases hb : z i with
    | true => exact decide_eq_true (List.mem_filter.mpr ⟨List.mem_range.mpr (by omega), hb⟩)
    | false => exact decide_eq_false fun w => by have := (List.mem_filter.mp w).2; rw [hb] at this; cases this
  rw [eu] at h1
  have hl' : (upI row z).length = wb.marks.length := by rw [upI_len]; exact hl
  obtain ⟨q2, e2, hg, f2⟩ := look_ev (p := q1) V hl' (Lf := fun i => if mvB wb i then lowI row (wb.first[i]?.getD []) else 0) (Hf := fun i => if mvB wb i then highI row (wb.second[i]?.getD []) else 0) (lf := fun i => bI wb.marks.length (lsB wb row i)) (hf := fun i => bI wb.marks.length (hsB2 wb row i)) h1 ⟨fun i hi hm => by
      rw [hm, if_pos rfl, if_pos rfl, low_up V hm hl, high_up V hi hm hl]
      constructor
      · split <;> omega
      · split <;> omega, fun i hi hm => by
      rw [hm]
      have z1 : lsB wb row i = fun _ => false := by funext j; unfold lsB; rw [hm]; rfl
      have z2 : hsB2 wb row i = fun _ => false := by funext j; unfold hsB2; rw [hm]; rfl
      rw [z1, z2, b0]
      exact ⟨rfl, rfl, rfl, rfl⟩⟩
  have em' := h1.meth (m := "_look") (by decide +kernel)
  refine ⟨q2, ?_, hg, f1.trans f2⟩
  have T1 : b_Heights_lift_1 A [dd (.mr n), dd (bI wb.marks.length z), none] p = .nx [dd (.mr n), dd (bI wb.marks.length z), o2] q1 := by
    unfold b_Heights_lift_1
    simp only [sfor_ev, mbind_ev, mcall_ev, acons_ev, anil_ev, mvar, List.getElem?_cons_zero, List.getElem?_cons_succ, bind_ok, es, mlift_some, tupOf, toO_ok]
    exact e
  unfold D_Heights_lift
  rw [denF_ev (by rfl)]
  show outR (dn_Heights_lift A [dd (.mr n), dd (bI wb.marks.length z), none] p) = _
  unfold dn_Heights_lift
  rw [seq_nx T1]
  simp [b_Heights_lift_2, mvar, em', e2]
theorem lift_once_ev (V : Valid wb) (h : HG A wb n row p) {k : Int} (k0 : 0 ≤ k) : ∃ q, D_lift_once A [insW A wb, .int k, .mr n] p = .ok .non q ∧ HG A wb n (upI row (lfB wb k row row.length)) q ∧ Fra n p q := by
  have n2 := V.n2
  have l3 := V.l3
  have hl := h.1
  have ed := dues_at_ev A V k p
  have em1 := h.2.meth (m := "below") (by decide +kernel)
  have em2 := h.2.meth (m := "staying") (by decide +kernel)
  have em3 := h.2.meth (m := "lift") (by decide +kernel)
  have eb := below_ev V h (ms := duesI wb k) (md := .tup ((duesI wb k).map .int)) (.inr rfl) (by unfold duesI; rw [List.length_map]; exact l3)
  have dd1 : (D.tup (wb.dues.map fun d => .int (dueI d k))) = .tup ((duesI wb k).map .int) := by unfold duesI; rw [List.map_map]; rfl
  rw [dd1] at ed
  have elf : bI wb.marks.length (fun i => decide (row[i]?.getD 0 < (duesI wb k)[i]?.getD 0)) = bI wb.marks.length (lfB wb k row 0) := bI_congr fun i hi => by
    rw [duesI_get V k hi]
    rfl
  rw [elf] at eb
  have es := staying_ev V h k0
  obtain ⟨q, e, hg, hf⟩ := lift_ev V h (lfB wb k row row.length)
  refine ⟨q, ?_, hg, hf⟩
  unfold D_lift_once
  rw [denF_ev (by rfl)]
  show outR (dn_lift_once A [dd (insW A wb), dd (.int k), dd (.mr n)] p) = _
  simp [dn_lift_once, mvar, em1, em2, em3, ed, eb, es, e]
theorem numbers_at_ev (V : Valid wb) {k : Int} (k0 : 0 ≤ k) (k1 : k ≤ 900) (p : S) : D_numbers_at A [insW A wb, .int k] p = .ok (tI (numI wb k)) p := by
  have n2 := V.n2
  have hrep : fRep (.lst [.int 0]) (.int (wb.marks.length : Int)) = some (lI (ownR wb 0)) := by
    show (if 0 ≤ (wb.marks.length : Int) ∧ (wb.marks.length : Int) ≤ 1000 then some (D.lst (List.replicate (wb.marks.length : Int).toNat (D.int 0))) else none) = _
    rw [if_pos ⟨by omega, by omega⟩, Int.toNat_natCast, rep0]
    unfold ownR tabI lI
    rw [List.map_map]
    rfl
  obtain ⟨q, e1, hg, hp, _⟩ := heights_make (A := A) (p := ⟨p.pot, [], 0⟩) V (row := ownR wb 0) (tabI_len _ _) (.inl rfl : IsRow (lI (ownR wb 0)) (ownR wb 0)) (a := acons (mvar 0) (acons (op2 fRep (mfreeze (mshort (acons (mret (D.int 0)) anil))) (mfld A.Web "_size" (mvar 0))) anil)) (l := [dd (insW A wb), dd (.int k), none, none]) (by simp [mvar, mshort, hrep])
  have T1 : b_numbers_at_1 A [dd (insW A wb), dd (.int k), none, none] ⟨p.pot, [], 0⟩ = .nx [dd (insW A wb), dd (.int k), dd (.mr 0), none] q := by
    simp [b_numbers_at_1, e1]
  have hrn := rngN (n := (k + 1).toNat) (by omega)
  rw [show (((k + 1).toNat : Nat) : Int) = k + 1 by omega] at hrn
  obtain ⟨l', q2, e2, o3, hl2, hg2⟩ := loop_run (tg := gset 3) (body := L_numbers_at_2 A)
    (fun (j : Nat) (l : Den.Loc) (r : S) => ∃ o3, l = [dd (insW A wb), dd (.int k), dd (.mr 0), o3] ∧ HG A wb 0 (ownR wb j) r ∧ r.pot = p.pot)
    (ds := rngD 0 (k + 1).toNat) (k := 0) (l := [dd (insW A wb), dd (.int k), dd (.mr 0), none]) (p := q) ⟨none, rfl, hg, hp⟩ (fun j d l r hd hI => by
      obtain ⟨o3, rfl, hg, hp⟩ := hI
      obtain ⟨hj, rfl⟩ := rngD_get hd
      rw [Nat.zero_add, Int.zero_add] at *
      obtain ⟨r', e, hg', hf⟩ := lift_once_ev (A := A) V hg (k := (j : Int)) (by omega)
      refine ⟨_, lset_lt 3 _ _ (by simp), _, r', .inl ?_, dd (.int (j : Int)), rfl, hg', hf.pot.trans hp⟩
      simp [L_numbers_at_2, mvar, e])
  subst hl2
  rw [rngD_len, Nat.zero_add] at hg2
  have hnum : ownR wb (k + 1).toNat = numI wb k := by
    have := ownR_num V k.toNat
    rw [show ((k.toNat : Nat) : Int) = k by omega] at this
    rw [show (k + 1).toNat = k.toNat + 1 by omega, this]
  rw [hnum] at hg2
  have T2 : b_numbers_at_2 A [dd (insW A wb), dd (.int k), dd (.mr 0), none] q = .nx [dd (insW A wb), dd (.int k), dd (.mr 0), o3] q2 := by
    unfold b_numbers_at_2
    simp only [sfor_ev, mbind_ev, op2_ev, mret_ev, acons_ev, anil_ev, mvar, List.getElem?_cons_zero, List.getElem?_cons_succ, bind_ok, fAdd_int, hrn, mlift_some, toO_ok]
    exact e2
  have em := hg2.1.2.meth (m := "told") (by decide +kernel)
  have et := told_ev hg2.1
  have e3 : I_numbers_at A [insW A wb, .int k] ⟨p.pot, [], 0⟩ = .ok (tI (numI wb k)) q2 := by
    unfold I_numbers_at
    rw [denF_ev (by rfl)]
    show outR (dn_numbers_at A [dd (insW A wb), dd (.int k), none, none] ⟨p.pot, [], 0⟩) = _
    unfold dn_numbers_at
    rw [seq_nx T1, seq_nx T2]
    simp [b_numbers_at_3, mvar, em, et]
  unfold D_numbers_at
  have nr : nomr (tI (numI wb k)) = true := nomr_row (.inr rfl : IsRow (tI (numI wb k)) (numI wb k))
  rw [frm_ok (p := p) (by simp [nomrL, nomr]) e3 nr, hg2.2]
end
end PL
namespace PL
open PySem L2 Den
section
variable {wb : Wb}
end
end PL
namespace PL
open PySem L2 Den
section
variable {A : CA} {wb : Wb} {row : List Int}
end
end PL
namespace PL
open PySem L2 Den
section
variable {A : CA} {wb : Wb} {row : List Int}
end
end PL
namespace PL
open PySem L2 Den
section
variable (A : CA) {wb : Wb}
end
end PL
namespace PL
open PySem L2 Den
section
variable {A : CA} {wb : Wb}
abbrev restI (wb : Wb) (k : Int) (r : List Int) : List Int := setI wb.marks.length (lfB wb k r r.length)
/-- a row is exact just if it is the numbers' -/
theorem exact_iff (V : Valid wb) {k : Int} (k0 : 0 ≤ k) {r : List Int} (hl : r.length = wb.marks.length) : ((overI wb k r).isEmpty && (restI wb k r).isEmpty) = decide (r = numI wb k) := by
  rw [Bool.eq_iff_iff, Bool.and_eq_true, List.isEmpty_iff, List.isEmpty_iff, decide_eq_true_iff]
  have nl := (numI_falls V k0).len
  have hrest : ∀ r : List Int, r.length = wb.marks.length → (restI wb k r = [] ↔ ∀ i < r.length, lfB wb k r r.length i = false) := fun r hl => by
    unfold restI setI
    rw [List.map_eq_nil_iff, List.filter_eq_nil_iff]
    constructor
    · intro h i hi
      simpa using h i (List.mem_range.mpr (by omega))
    · intro h i hi
      simpa using h i (by have := List.mem_range.mp hi; omega)
  constructor
  · rintro ⟨a, b⟩
    have lo := (overI_nil hl).mp a
    have le := numI_great V lo
    have ge := lower_upper V k0 (numI_lower V k0) hl (rk := ranksI wb k r) (fun i => by
      by_cases hi : i < (ranksI wb k r).length
      · exact getD_mem (fun x hx => (ranksI_nonneg wb k r x hx).1) hi
      · rw [List.getElem?_eq_none (by omega)]; exact Int.le_refl _) (fall_upper ((hrest r hl).mp b))
    refine List.ext_getElem? fun i => ?_
    by_cases hi : i < wb.marks.length
    · have h1 := le i
      have h2 := ge i
      rw [List.getElem?_eq_getElem (by omega), List.getElem?_eq_getElem (by omega)] at h1 h2 ⊢
      simp only [Option.getD_some] at h1 h2
      congr 1
      omega
    · rw [List.getElem?_eq_none (by omega), List.getElem?_eq_none (by omega)]
  · rintro rfl
    exact ⟨(overI_nil nl).mpr (numI_lower V k0), (hrest _ nl).mpr fun i hi => num_rest V k0 i hi⟩
end
end PL
namespace PL
open PySem L2 Den
section
variable {A : CA} {wb : Wb}
end
end PL
namespace PL
open PySem L2 Den
section
variable {wb : Wb} {i : Int} {f s : List Int} {mk : Int} (A : CA)
end
end PL
namespace PL
open PySem L2 Den
section
variable {wb : Wb} {i : Int} {f s : List Int} {mk : Int} (A : CA)
end
end PL
namespace PL
open PySem L2 Den
section
variable {A : CA} {wb : Wb}
end
end PL
namespace PL
open PySem L2 Den
section
variable {A : CA} {wb : Wb}
theorem check_chips_ev (k m : Int) (p : S) : D_check_chips A [insW A wb, .int k, .int m] p = if 0 ≤ k then (if k ≤ m then .ok .non p else .err 3 p) else .err 1 p := by
  have e1 := check_web_ok A wb p
  have e2 := whole1 k p
  have e3 := check_least_ev k 0 p
  have e4 := check_most_ev k m p
  by_cases c : 0 ≤ k
  · rw [if_pos c] at e3 ⊢
    by_cases c2 : k ≤ m
    · rw [if_pos c2] at e4 ⊢
      simp [D_check_chips, denF, dn_check_chips, b_check_chips_1, b_check_chips_2, b_check_chips_3, b_check_chips_4, locOf, mvar, e1, e2, e3, e4]
    · rw [if_neg c2] at e4 ⊢
      simp [D_check_chips, denF, dn_check_chips, b_check_chips_1, b_check_chips_2, b_check_chips_3, b_check_chips_4, locOf, mvar, e1, e2, e3, e4]
  · rw [if_neg c] at e3 ⊢
    simp [D_check_chips, denF, dn_check_chips, b_check_chips_1, b_check_chips_2, b_check_chips_3, locOf, mvar, e1, e2, e3]
end
end PL
namespace PL
open PySem L2 Den
section
variable {A : CA} {wb : Wb}
end
end PL
namespace PL
open PySem L2 Den
def trI (i : Nat) : Int := (i : Int) * ((i : Int) - 1) / 2
theorem trI_succ (i : Nat) : trI (i + 1) = trI i + i := by
  unfold trI
  have e : ((i + 1 : Nat) : Int) * (((i + 1 : Nat) : Int) - 1) = (i : Int) * ((i : Int) - 1) + i * 2 := by
    rw [Int.natCast_add, Int.natCast_one, Int.add_sub_cancel, Int.add_mul, Int.one_mul, Int.mul_sub, Int.mul_one]
    omega
  rw [e, Int.add_mul_ediv_right _ _ (by decide)]
theorem trI_zero : trI 0 = 0 := rfl
def bendI (n : Nat) : Int := (n : Int) * ((n : Int) - 1) / 2
theorem bend_tr (n : Nat) : bendI n = trI n := rfl
theorem bend2 (n : Nat) : bendI n * 2 = (n : Int) * ((n : Int) - 1) := by
  rw [bend_tr]
  induction n with
  | zero => rfl
  | succ n ih =>
    rw [trI_succ, Int.add_mul, ih, Int.natCast_add, Int.natCast_one, Int.add_sub_cancel, Int.add_mul, Int.one_mul, Int.mul_sub, Int.mul_one]
    omega
theorem bend_nonneg (n : Nat) : 0 ≤ bendI n := by
  rw [bend_tr]
  induction n with
  | zero => exact Int.le_refl 0
  | succ n ih => rw [trI_succ]; omega
/-- 1 for the second mark -/
def mkC (m : Int) : Int := if m = 1 then 0 else 1
def totI (n : Nat) (m k : Int) : Int := if m = 1 then k + 1 else k + 1 + bendI n
theorem totI_eq (n : Nat) (m k : Int) : totI n m k = k + 1 + mkC m * bendI n := by
  unfold totI mkC
  split <;> omega
def rI (n : Nat) (m k : Int) (i : Nat) : Int := totI n m k / n * i + max 0 ((i : Int) - n + totI n m k % n) - mkC m * trI i
def rowL (n : Nat) (m k : Int) : List Int := (List.range (n + 1)).map (rI n m k)
structure LinOk (n : Nat) (m k : Int) : Prop where
  n1 : 1 ≤ n
  n2 : n ≤ 12
  mm : m = 1 ∨ m = 2
  k0 : 0 ≤ k
  bd : m = 2 → bendI n ≤ k + 1
section
variable {n : Nat} {m k : Int}
theorem mkC_c (h : LinOk n m k) : mkC m = 0 ∨ mkC m = 1 := by unfold mkC; split <;> omega
theorem tot_nonneg (h : LinOk n m k) : 0 ≤ totI n m k := by
  have := bend_nonneg n
  have := h.k0
  unfold totI
  split <;> omega
theorem rem_range (h : LinOk n m k) : 0 ≤ totI n m k % n ∧ totI n m k % n < n := ⟨Int.emod_nonneg _ (by have := h.n1; omega), Int.emod_lt_of_pos _ (by have := h.n1; omega)⟩
theorem quo_ge (h : LinOk n m k) : mkC m * ((n : Int) - 1) ≤ totI n m k / n := by
  have n1 := h.n1
  rcases h.mm with e | e
  · have : mkC m = 0 := by unfold mkC; rw [if_pos e]
    rw [this, Int.zero_mul]
    exact Int.ediv_nonneg (tot_nonneg h) (by omega)
  · have c1 : mkC m = 1 := by unfold mkC; rw [if_neg (by omega)]
    have := h.bd e
    have b2 := bend2 n
    rw [c1, Int.one_mul]
    refine Int.le_ediv_of_mul_le (by omega) ?_
    rw [totI_eq, c1, Int.mul_comm]
    omega
theorem rI_zero (h : LinOk n m k) : rI n m k 0 = 0 := by
  have := rem_range h
  unfold rI
  rw [trI_zero, Int.mul_zero]
  show _ * 0 + _ - 0 = (0 : Int)
  omega
theorem rI_step (h : LinOk n m k) (i : Nat) : rI n m k (i + 1) = rI n m k i + totI n m k / n + (if (n : Int) - totI n m k % n ≤ i then 1 else 0) - mkC m * i := by
  unfold rI
  rw [trI_succ, Int.mul_add, Int.natCast_add, Int.natCast_one, Int.mul_add, Int.mul_one]
  have := rem_range h
  split <;> omega
theorem rI_end (h : LinOk n m k) : rI n m k n = k + 1 := by
  have r := rem_range h
  have e := Int.mul_ediv_add_emod (totI n m k) n
  have t := totI_eq n m k
  unfold rI
  rw [← bend_tr, Int.mul_comm (totI n m k / n)]
  omega
theorem rI_mono (h : LinOk n m k) {i : Nat} (hi : i < n) : rI n m k i ≤ rI n m k (i + 1) := by
  rw [rI_step h]
  have q := quo_ge h
  have : mkC m * (i : Int) ≤ mkC m * ((n : Int) - 1) := Int.mul_le_mul_of_nonneg_left (by omega) (by rcases mkC_c h with e | e <;> omega)
  split <;> omega
theorem rI_ge (h : LinOk n m k) : ∀ i ≤ n, 0 ≤ rI n m k i
  | 0, _ => by rw [rI_zero h]; exact Int.le_refl 0
  | i + 1, hi => Int.le_trans (rI_ge h i (by omega)) (rI_mono h (by omega))
theorem rI_le (h : LinOk n m k) : ∀ (t i : Nat), i + t = n → rI n m k i ≤ k + 1
  | 0, i, e => by
    have : i = n := by omega
    rw [this, rI_end h]
    exact Int.le_refl _
  | t + 1, i, e => Int.le_trans (rI_mono h (by omega)) (rI_le h t (i + 1) (by omega))
theorem rI_second (h : LinOk n m k) (i : Nat) : rI n m k i + rI n m k (i + 2) = 2 * rI n m k (i + 1) + (if (n : Int) - totI n m k % n = i + 1 then 1 else 0) - mkC m := by
  have a := rI_step h i
  have b := rI_step h (i + 1)
  have e : mkC m * ((i + 1 : Nat) : Int) = mkC m * i + mkC m := by rw [Int.natCast_add, Int.natCast_one, Int.mul_add, Int.mul_one]
  rw [e] at b
  have c : ((i + 1 : Nat) : Int) = i + 1 := by omega
  rw [c] at b
  show rI n m k i + rI n m k (i + 1 + 1) = _
  rw [b, a]
  generalize mkC m * (i : Int) = u
  split <;> split <;> split <;> omega
end
section
variable {n : Nat} {m k : Int}
theorem rowL_len : (rowL n m k).length = n + 1 := by simp [rowL]
theorem rowL_at {i : Nat} (hi : i < n + 1) : (rowL n m k)[i]?.getD 0 = rI n m k i := by
  unfold rowL
  rw [List.getElem?_map, List.getElem?_range hi]
  rfl
theorem lineW_len (n : Nat) (m : Int) : (lineW n m).marks.length = n + 1 := by simp [lineW]
theorem lineS_mid {i : Nat} (h : i + 1 < n) : (lineS n)[i + 1]?.getD [] = [(i : Int), (i : Int) + 2] := by
  unfold lineS
  rw [List.cons_append, List.getElem?_cons_succ, List.getElem?_append_left (by rw [List.length_map, List.length_range]; omega), List.getElem?_map, List.getElem?_range (by omega)]
  show [(1 : Int) + (i : Int) - 1, 1 + (i : Int) + 1] = _
  congr 1
  · omega
  · congr 1; omega
theorem lineS_zero (n : Nat) : (lineS n)[0]?.getD [] = [] := rfl
theorem lineS_last (h : 1 ≤ n) : (lineS n)[n]?.getD [] = [] := by
  obtain ⟨j, rfl⟩ : ∃ j, n = j + 1 := ⟨n - 1, by omega⟩
  unfold lineS
  rw [List.cons_append, List.getElem?_cons_succ, List.getElem?_append_right (by rw [List.length_map, List.length_range]; omega)]
  rw [List.length_map, List.length_range]
  simp
theorem price_line (hm : m = 1 ∨ m = 2) {r : List Int} {i : Nat} (h : i + 1 < n) : prI (lineW n m) k r (i + 1) = (r[i]?.getD 0 + r[i + 2]?.getD 0 + mkC m) / 2 := by
  have e : (lineW n m).first[i + 1]?.getD [] = [(i : Int), (i : Int) + 2] := lineS_mid h
  have e2 : (lineW n m).second[i + 1]?.getD [] = [(i : Int), (i : Int) + 2] := lineS_mid h
  have em : (lineW n m).marks[i + 1]?.getD 0 = m := by
    show (List.replicate (n + 1) m)[i + 1]?.getD 0 = m
    rw [List.getElem?_replicate, if_pos (by omega)]
    rfl
  unfold prI
  rw [e, e2, em, if_neg (by simp)]
  obtain ⟨⟨x, hx, ex⟩, lo⟩ := lowI_is (r := r) (ss := [(i : Int), (i : Int) + 2]) (by simp)
  obtain ⟨⟨y, hy, ey⟩, hi⟩ := highI_is (r := r) (ss := [(i : Int), (i : Int) + 2]) (by simp)
  have l1 := lo (i : Int) (by simp)
  have l2 := lo ((i : Int) + 2) (by simp)
  have h1 := hi (i : Int) (by simp)
  have h2 := hi ((i : Int) + 2) (by simp)
  have a1 : rowAt r (i : Int) = r[i]?.getD 0 := by unfold rowAt; rw [Int.toNat_natCast]
  have a2 : rowAt r ((i : Int) + 2) = r[i + 2]?.getD 0 := by unfold rowAt; rw [show ((i : Int) + 2).toNat = i + 2 by omega]
  rw [a1] at l1 h1
  rw [a2] at l2 h2
  have cx : lowI r [(i : Int), (i : Int) + 2] = r[i]?.getD 0 ∨ lowI r [(i : Int), (i : Int) + 2] = r[i + 2]?.getD 0 := by
    rcases List.mem_cons.mp hx with rfl | hx
    · left; rw [← ex, a1]
    · right; rw [List.mem_singleton.mp hx, a2] at ex; exact ex.symm
  have cy : highI r [(i : Int), (i : Int) + 2] = r[i]?.getD 0 ∨ highI r [(i : Int), (i : Int) + 2] = r[i + 2]?.getD 0 := by
    rcases List.mem_cons.mp hy with rfl | hy
    · left; rw [← ey, a1]
    · right; rw [List.mem_singleton.mp hy, a2] at ey; exact ey.symm
  generalize lowI r [(i : Int), (i : Int) + 2] = L at *
  generalize highI r [(i : Int), (i : Int) + 2] = R at *
  generalize r[i]?.getD 0 = u at *
  generalize r[i + 2]?.getD 0 = v at *
  have s : L + R = u + v := by omega
  unfold halfI mkC
  rcases hm with rfl | rfl
  · rw [if_pos rfl, if_pos rfl]
    by_cases c : R > L
    · rw [if_pos c]; omega
    · rw [if_neg c]; omega
  · rw [if_neg (show ¬ (2 : Int) = 1 by omega), if_neg (show ¬ (2 : Int) = 1 by omega)]
    by_cases c : R < L
    · omega
    · rw [if_neg c]; omega
theorem due_line0 (h : LinOk n m k) : dueI ((lineW n m).dues[0]?.getD none) k = 0 := by
  have := h.k0
  show min 0 (k + 1) = 0
  omega
theorem due_line {i : Nat} (hi : i < n) : dueI ((lineW n m).dues[i + 1]?.getD none) k = k + 1 := by
  have : (lineW n m).dues[i + 1]?.getD none = none := by
    show (some (true, (0 : Int)) :: List.replicate n none)[i + 1]?.getD none = none
    rw [List.getElem?_cons_succ, List.getElem?_replicate, if_pos hi]
    rfl
  rw [this]
  rfl
theorem price_end (h : LinOk n m k) (r : List Int) : prI (lineW n m) k r 0 = k + 1 ∧ prI (lineW n m) k r n = k + 1 := by
  constructor
  · unfold prI
    have : (lineW n m).first[0]?.getD [] = [] := lineS_zero n
    rw [this]; rfl
  · unfold prI
    have : (lineW n m).first[n]?.getD [] = [] := lineS_last h.n1
    rw [this]; rfl
theorem line_le_due (h : LinOk n m k) {i : Nat} (hi : i < n + 1) : rI n m k i ≤ dueI ((lineW n m).dues[i]?.getD none) k := by
  cases i with
  | zero => rw [due_line0 h, rI_zero h]; exact Int.le_refl 0
  | succ i => rw [due_line (by omega)]; exact rI_le h (n - (i + 1)) (i + 1) (by omega)
theorem line_le_price (h : LinOk n m k) {i : Nat} (hi : i < n + 1) : rI n m k i ≤ prI (lineW n m) k (rowL n m k) i := by
  have hle := rI_le h (n - i) i (by omega)
  by_cases c0 : i = 0
  · subst c0; rw [(price_end h _).1]; exact hle
  · by_cases cn : i = n
    · subst cn; rw [(price_end h _).2]; exact hle
    · obtain ⟨j, rfl⟩ : ∃ j, i = j + 1 := ⟨i - 1, by omega⟩
      rw [price_line h.mm (by omega), rowL_at (by omega), rowL_at (by omega)]
      have := rI_second h j
      split at this <;> omega
theorem line_rest (h : LinOk n m k) : ∀ i < (rowL n m k).length, lfB (lineW n m) k (rowL n m k) (rowL n m k).length i = false := by
  obtain ⟨Z, hZ⟩ : ∃ Z, Z = lfB (lineW n m) k (rowL n m k) (rowL n m k).length := ⟨_, rfl⟩
  have rem := rem_range h
  have n1 := h.n1
  -- what is in Z
  have key : ∀ i : Nat, i < n + 1 → Z i = true → ∃ j, i = j + 1 ∧ j + 1 < n ∧ 2 ≤ (if (n : Int) - totI n m k % n = (j : Int) + 1 then (1 : Int) else 0) + (if Z j = true then 1 else 0) + (if Z (j + 2) = true then 1 else 0) := fun i hi hz => by
    have h0 := lf_sub0 (lineW n m) k (rowL n m k) i (rowL n m k).length (by rw [← hZ]; exact hz)
    have h0 : decide ((rowL n m k)[i]?.getD 0 < dueI ((lineW n m).dues[i]?.getD none) k) = true := h0
    have h0 := of_decide_eq_true h0
    rw [rowL_at hi] at h0
    have ho := rest_out (wb := lineW n m) (k := k) (r := rowL n m k) i (by rw [rowL_len]; exact hi)
    rw [← hZ] at ho
    unfold outB at ho
    rw [hz, Bool.true_and] at ho
    have ho := of_decide_eq_false ho
    rw [rowL_at hi] at ho
    have hne0 : i ≠ 0 := fun c => by subst c; rw [due_line0 h, rI_zero h] at h0; omega
    obtain ⟨j, rfl⟩ : ∃ j, i = j + 1 := ⟨i - 1, by omega⟩
    have hnn : j + 1 ≠ n := fun c => by
      rw [due_line (by omega), c, rI_end h] at h0
      omega
    refine ⟨j, rfl, by omega, ?_⟩
    rw [price_line h.mm (by omega), upI_getD, upI_getD, rowL_len, if_pos (show j < n + 1 by omega), if_pos (show j + 2 < n + 1 by omega), rowL_at (show j < n + 1 by omega), rowL_at (show j + 2 < n + 1 by omega)] at ho
    have s := rI_second h j
    generalize rI n m k j = a at *
    generalize rI n m k (j + 1) = b at *
    generalize rI n m k (j + 2) = d at *
    generalize mkC m = c at *
    generalize (if (n : Int) - totI n m k % n = (j : Int) + 1 then (1 : Int) else 0) = e at *
    generalize (if Z j = true then (1 : Int) else 0) = x at *
    generalize (if Z (j + 2) = true then (1 : Int) else 0) = y at *
    omega
  have up : ∀ (t i : Nat), (n : Int) - totI n m k % n < i → i + t = n → Z i = true → False := by
    intro t
    induction t with
    | zero =>
      intro i _ e hz
      obtain ⟨j, e1, e2, _⟩ := key i (by omega) hz
      omega
    | succ t ih =>
      intro i hi e hz
      obtain ⟨j, rfl, e2, e3⟩ := key i (by omega) hz
      rw [if_neg (by omega)] at e3
      have : Z (j + 2) = true := by
        cases c : Z (j + 2) with
        | true => rfl
        | false => rw [c] at e3; split at e3 <;> simp at e3
      exact ih (j + 2) (by omega) (by omega) this
  have down : ∀ i : Nat, (i : Int) < (n : Int) - totI n m k % n → i < n + 1 → Z i = true → False := by
    intro i
    induction i using Nat.strongRecOn with
    | _ i ih =>
      intro hi hn hz
      obtain ⟨j, rfl, e2, e3⟩ := key i hn hz
      rw [if_neg (by omega)] at e3
      have : Z j = true := by
        cases c : Z j with
        | true => rfl
        | false =>
          exfalso
          rw [c, if_neg Bool.false_ne_true] at e3
          split at e3 <;> omega
      exact ih j (by omega) (by omega) (by omega) this
  intro i hi
  rw [rowL_len] at hi
  rw [← hZ]
  cases hz : Z i with
  | false => rfl
  | true =>
    exfalso
    by_cases c1 : (n : Int) - totI n m k % n < i
    · exact up (n - i) i c1 (by omega) hz
    · by_cases c2 : (i : Int) < (n : Int) - totI n m k % n
      · exact down i c2 hi hz
      · obtain ⟨j, rfl, e2, e3⟩ := key i hi hz
        rw [if_pos (by omega)] at e3
        by_cases c3 : Z j = true
        · exact down j (by omega) (by omega) c3
        · by_cases c4 : Z (j + 2) = true
          · exact up (n - (j + 2)) (j + 2) (by omega) (by omega) c4
          · rw [if_neg c3, if_neg c4] at e3
            omega
end
end PL
namespace PL
open PySem L2 Den
abbrev big40 : Int := 10000000000000000000000000000000000000000
theorem whole4i (a b c d : Int) (p : S) : D_check_whole [.int a, .int b, .int c, .int d] p = .ok .non p := check_whole_ok _ (all_ints [a, b, c, d]) (by simp) p
section
variable {n m k s : Int} (p : S)
theorem rn_err1 (h1 : ¬ 1 ≤ n) : D_row_number [.int n, .int m, .int k, .int s] p = .err 1 p := by
  have e1 := whole4i n m k s p
  have e2 := check_least_ev n 1 p
  rw [if_neg h1] at e2
  simp [D_row_number, denF, dn_row_number, b_row_number_01, b_row_number_02, locOf, mvar, e1, e2]
theorem rn_err2 (h1 : 1 ≤ n) (h2 : ¬ (m = 1 ∨ m = 2)) : D_row_number [.int n, .int m, .int k, .int s] p = .err 1 p := by
  have e1 := whole4i n m k s p
  have e2 := check_least_ev n 1 p
  rw [if_pos h1] at e2
  have e3 := one_or_two_no h2 p
  simp [D_row_number, denF, dn_row_number, b_row_number_01, b_row_number_02, b_row_number_03, locOf, mvar, e1, e2, e3]
theorem rn_err3 (h1 : 1 ≤ n) (h2 : m = 1 ∨ m = 2) (h3 : ¬ 0 ≤ k) : D_row_number [.int n, .int m, .int k, .int s] p = .err 1 p := by
  have e1 := whole4i n m k s p
  have e2 := check_least_ev n 1 p
  rw [if_pos h1] at e2
  have e3 := one_or_two_ok h2 p
  have e4 := check_least_ev k 0 p
  rw [if_neg h3] at e4
  simp [D_row_number, denF, dn_row_number, b_row_number_01, b_row_number_02, b_row_number_03, b_row_number_04, locOf, mvar, e1, e2, e3, e4]
theorem rn_err4 (h1 : 1 ≤ n) (h2 : m = 1 ∨ m = 2) (h3 : 0 ≤ k) (h4 : ¬ (0 ≤ s ∧ s ≤ n)) : D_row_number [.int n, .int m, .int k, .int s] p = .err 1 p := by
  have e1 := whole4i n m k s p
  have e2 := check_least_ev n 1 p
  rw [if_pos h1] at e2
  have e3 := one_or_two_ok h2 p
  have e4 := check_least_ev k 0 p
  rw [if_pos h3] at e4
  have e5 := check_range_ev s 0 n p
  rw [if_neg h4] at e5
  simp [D_row_number, denF, dn_row_number, b_row_number_01, b_row_number_02, b_row_number_03, b_row_number_04, b_row_number_05, locOf, mvar, e1, e2, e3, e4, e5]
/-- behind the first five checks -/
theorem rn_head (h1 : 1 ≤ n) (hn : n ≤ 1000) (h2 : m = 1 ∨ m = 2) (h3 : 0 ≤ k) (h4 : 0 ≤ s ∧ s ≤ n) : D_row_number [.int n, .int m, .int k, .int s] p = outR ((sseq b_row_number_07 (sseq b_row_number_08 (sseq b_row_number_09 (sseq b_row_number_10 (sseq b_row_number_11 b_row_number_12))))) [dd (.int n), dd (.int m), dd (.int k), dd (.int s), dd (.int (n * (n - 1) / 2)), none, none] p) := by
  have e1 := whole4i n m k s p
  have e2 := check_least_ev n 1 p
  rw [if_pos h1] at e2
  have e3 := one_or_two_ok h2 p
  have e4 := check_least_ev k 0 p
  rw [if_pos h3] at e4
  have e5 := check_range_ev s 0 n p
  rw [if_pos h4] at e5
  have f1 : fMul (.int n) (.int (n - 1)) = some (.int (n * (n - 1))) := fMul_int (.inl (by omega))
  have f2 : fDiv (.int (n * (n - 1))) (.int 2) = some (.int (n * (n - 1) / 2)) := fDiv_int (by decide)
  unfold D_row_number
  rw [denF_ev (by rfl)]
  show outR (dn_row_number [dd (.int n), dd (.int m), dd (.int k), dd (.int s), none, none, none] p) = _
  unfold dn_row_number
  have T1 : b_row_number_01 [dd (.int n), dd (.int m), dd (.int k), dd (.int s), none, none, none] p = .nx [dd (.int n), dd (.int m), dd (.int k), dd (.int s), none, none, none] p := by simp [b_row_number_01, mvar, e1]
  have T2 : b_row_number_02 [dd (.int n), dd (.int m), dd (.int k), dd (.int s), none, none, none] p = .nx [dd (.int n), dd (.int m), dd (.int k), dd (.int s), none, none, none] p := by simp [b_row_number_02, mvar, e2]
  have T3 : b_row_number_03 [dd (.int n), dd (.int m), dd (.int k), dd (.int s), none, none, none] p = .nx [dd (.int n), dd (.int m), dd (.int k), dd (.int s), none, none, none] p := by simp [b_row_number_03, mvar, e3]
  have T4 : b_row_number_04 [dd (.int n), dd (.int m), dd (.int k), dd (.int s), none, none, none] p = .nx [dd (.int n), dd (.int m), dd (.int k), dd (.int s), none, none, none] p := by simp [b_row_number_04, mvar, e4]
  have T5 : b_row_number_05 [dd (.int n), dd (.int m), dd (.int k), dd (.int s), none, none, none] p = .nx [dd (.int n), dd (.int m), dd (.int k), dd (.int s), none, none, none] p := by simp [b_row_number_05, mvar, e5]
  have T6 : b_row_number_06 [dd (.int n), dd (.int m), dd (.int k), dd (.int s), none, none, none] p = .nx [dd (.int n), dd (.int m), dd (.int k), dd (.int s), dd (.int (n * (n - 1) / 2)), none, none] p := by simp [b_row_number_06, mvar, f1, f2]
  rw [seq_nx T1, seq_nx T2, seq_nx T3, seq_nx T4, seq_nx T5, seq_nx T6]
theorem rn_t7 (h2 : m = 1 ∨ m = 2) (b : Int) (hb : m = 2 → b ≤ k + 1) : b_row_number_07 [dd (.int n), dd (.int m), dd (.int k), dd (.int s), dd (.int b), none, none] p = .nx [dd (.int n), dd (.int m), dd (.int k), dd (.int s), dd (.int b), none, none] p := by
  have e := check_least_ev (k + 1) b p
  rcases h2 with rfl | rfl
  · simp [b_row_number_07, mvar]
  · rw [if_pos (hb rfl)] at e
    simp [b_row_number_07, mvar, e]
theorem rn_err5 (h1 : 1 ≤ n) (hn : n ≤ 1000) (h3 : 0 ≤ k) (h4 : 0 ≤ s ∧ s ≤ n) (hb : ¬ n * (n - 1) / 2 ≤ k + 1) : D_row_number [.int n, .int 2, .int k, .int s] p = .err 1 p := by
  rw [rn_head p h1 hn (.inr rfl) h3 h4]
  have e := check_least_ev (k + 1) (n * (n - 1) / 2) p
  rw [if_neg hb] at e
  have T7 : b_row_number_07 [dd (.int n), dd (.int 2), dd (.int k), dd (.int s), dd (.int (n * (n - 1) / 2)), none, none] p = .err 1 [dd (.int n), dd (.int 2), dd (.int k), dd (.int s), dd (.int (n * (n - 1) / 2)), none, none] p := by
    simp [b_row_number_07, mvar, e]
  rw [sseq_ev, T7]
  rfl
theorem rn_err6 (h1 : 40 < n) (hn : n ≤ 1000) (h2 : m = 1 ∨ m = 2) (h3 : 0 ≤ k) (h4 : 0 ≤ s ∧ s ≤ n) (hb : m = 2 → n * (n - 1) / 2 ≤ k + 1) : D_row_number [.int n, .int m, .int k, .int s] p = .err 3 p := by
  rw [rn_head p (by omega) hn h2 h3 h4, seq_nx (rn_t7 p h2 _ hb)]
  have e := check_most_ev n 40 p
  rw [if_neg (by omega)] at e
  simp [b_row_number_08, mvar, e]
theorem rn_err7 (h1 : 1 ≤ n) (hn : n ≤ 40) (h2 : m = 1 ∨ m = 2) (h3 : 0 ≤ k) (h5 : ¬ k ≤ big40) (h4 : 0 ≤ s ∧ s ≤ n) (hb : m = 2 → n * (n - 1) / 2 ≤ k + 1) : D_row_number [.int n, .int m, .int k, .int s] p = .err 3 p := by
  rw [rn_head p h1 (by omega) h2 h3 h4, seq_nx (rn_t7 p h2 _ hb)]
  have e := check_most_ev n 40 p
  rw [if_pos hn] at e
  have e' := check_most_ev k big40 p
  rw [if_neg h5] at e'
  simp [b_row_number_08, b_row_number_09, mvar, e, e']
end
section
variable {n : Nat} {m k : Int}
theorem row_number_ev (h : LinOk n m k) (hk : k ≤ big40) {i : Nat} (hi : i ≤ n) (p : S) : D_row_number [.int (n : Int), .int m, .int k, .int (i : Int)] p = .ok (.int (rI n m k i)) p := by
  have n1 := h.n1
  have n2 := h.n2
  have hb : m = 2 → (n : Int) * ((n : Int) - 1) / 2 ≤ k + 1 := h.bd
  rw [rn_head p (by omega) (by omega) h.mm h.k0 ⟨by omega, by omega⟩, seq_nx (rn_t7 p h.mm _ hb)]
  obtain ⟨B, hB⟩ : ∃ B, B = (n : Int) * ((n : Int) - 1) / 2 := ⟨_, rfl⟩
  have hB' : B = bendI n := hB
  rw [← hB]
  have e1 := check_most_ev (n : Int) 40 p
  rw [if_pos (by omega)] at e1
  have e2 := check_most_ev k big40 p
  rw [if_pos hk] at e2
  have T8 : b_row_number_08 [dd (.int (n : Int)), dd (.int m), dd (.int k), dd (.int (i : Int)), dd (.int B), none, none] p = .nx [dd (.int (n : Int)), dd (.int m), dd (.int k), dd (.int (i : Int)), dd (.int B), none, none] p := by simp [b_row_number_08, mvar, e1]
  have T9 : b_row_number_09 [dd (.int (n : Int)), dd (.int m), dd (.int k), dd (.int (i : Int)), dd (.int B), none, none] p = .nx [dd (.int (n : Int)), dd (.int m), dd (.int k), dd (.int (i : Int)), dd (.int B), none, none] p := by simp [b_row_number_09, mvar, e2]
  have T10 : b_row_number_10 [dd (.int (n : Int)), dd (.int m), dd (.int k), dd (.int (i : Int)), dd (.int B), none, none] p = .nx [dd (.int (n : Int)), dd (.int m), dd (.int k), dd (.int (i : Int)), dd (.int B), dd (.int (totI n m k)), none] p := by
    rcases h.mm with rfl | rfl
    · simp [b_row_number_10, mvar, totI]
    · simp [b_row_number_10, mvar, totI, hB']
  obtain ⟨t, ht⟩ : ∃ t, t = totI n m k := ⟨_, rfl⟩
  have f1 : fDiv (.int t) (.int (n : Int)) = some (.int (t / n)) := fDiv_int ⟨by omega, by omega⟩
  have f2 : fMod (.int t) (.int (n : Int)) = some (.int (t % n)) := fMod_int (by omega)
  have f3 : fMul (.int (t / n)) (.int (i : Int)) = some (.int (t / n * i)) := fMul_int (.inr (by omega))
  have T11 : b_row_number_11 [dd (.int (n : Int)), dd (.int m), dd (.int k), dd (.int (i : Int)), dd (.int B), dd (.int t), none] p = .nx [dd (.int (n : Int)), dd (.int m), dd (.int k), dd (.int (i : Int)), dd (.int B), dd (.int t), dd (.int (t / n * i + max 0 ((i : Int) - n + t % n)))] p := by
    simp [b_row_number_11, mvar, f1, f2, f3, fMax2_mx, -fMax2_int]
  have f4 : fMul (.int (i : Int)) (.int ((i : Int) - 1)) = some (.int ((i : Int) * ((i : Int) - 1))) := fMul_int (.inl (by omega))
  have f5 : fDiv (.int ((i : Int) * ((i : Int) - 1))) (.int 2) = some (.int ((i : Int) * ((i : Int) - 1) / 2)) := fDiv_int (by decide)
  rw [← ht] at T10
  rw [seq_nx T8, seq_nx T9, seq_nx T10, seq_nx T11]
  have er : rI n m k i = t / n * i + max 0 ((i : Int) - n + t % n) - (if m = 1 then 0 else (i : Int) * ((i : Int) - 1) / 2) := by
    unfold rI mkC trI
    rw [← ht]
    split <;> omega
  rw [er]
  rcases h.mm with rfl | rfl
  · simp [b_row_number_12, mvar]
  · simp [b_row_number_12, mvar, f4, f5]
theorem number_row_ev {A : CA} {wb : Wb} (V : Valid wb) {k : Int} (k0 : 0 ≤ k) (k1 : k ≤ 900) (p : S) : D_number_row A [insW A wb, .int k] p = .ok (tI (numI wb k)) p := by
  have e1 := check_chips_ev (A := A) (wb := wb) k 5000 p
  rw [if_pos k0, if_pos (by omega)] at e1
  have e2 := numbers_at_ev (A := A) V k0 k1 p
  simp [D_number_row, denF, dn_number_row, b_number_row_1, b_number_row_2, locOf, mvar, e1, e2]
theorem line_numbers (h : LinOk n m k) : numI (lineW n m) k = rowL n m k := by
  have V := lineW_valid h.n1 (by have := h.n2; omega) h.mm
  have hl : (rowL n m k).length = (lineW n m).marks.length := by rw [rowL_len, lineW_len]
  have lo : Lower (lineW n m) k (rowL n m k) := ⟨hl, fun i => by
    rw [nxI_getD]
    split
    · rename_i hi
      rw [lineW_len] at hi
      have a := line_le_due h hi
      have b := line_le_price h hi
      rw [rowL_at hi]
      omega
    · rename_i hi
      rw [lineW_len] at hi
      rw [List.getElem?_eq_none (by rw [rowL_len]; omega)]
      exact Int.le_refl 0⟩
  have ex := exact_iff V h.k0 hl
  rw [(overI_nil hl).mpr lo] at ex
  have er : restI (lineW n m) k (rowL n m k) = [] := by
    unfold restI setI
    rw [List.map_eq_nil_iff, List.filter_eq_nil_iff]
    intro i hi
    rw [line_rest h i (by rw [hl]; exact List.mem_range.mp hi)]
    exact Bool.false_ne_true
  rw [er] at ex
  exact (of_decide_eq_true ex.symm).symm
theorem refusal_err {a b c d : D} {p : S} {e : Nat} (he : e = 0 ∨ e = 1 ∨ e = 3) (h : D_row_number [a, b, c, d] p = .err e p) : D_law_refusal [a, b, c, d] p = .ok (.str (codeS e)) p := by
  rcases he with rfl | rfl | rfl
  · simp [D_law_refusal, denF, dn_law_refusal, b_law_refusal_2, locOf, mvar, stryC, handle, h, noE]; rfl
  · simp [D_law_refusal, denF, dn_law_refusal, b_law_refusal_2, locOf, mvar, stryC, handle, h, noE]; rfl
  · simp [D_law_refusal, denF, dn_law_refusal, b_law_refusal_2, locOf, mvar, stryC, handle, h, noE]; rfl
theorem refusal_ok {a b c d v : D} {p : S} (h : D_row_number [a, b, c, d] p = .ok v p) : D_law_refusal [a, b, c, d] p = .ok (.str "none") p := by
  simp [D_law_refusal, denF, dn_law_refusal, b_law_refusal_2, locOf, mvar, stryC, handle, h, noE]
end
end PL
namespace PL
open PySem L2 Den
section
variable {n : Nat} {m k : Int}
def ovI (n r i : Nat) : Int := (n : Int) * max 0 ((i : Int) - n + r) - i * r
def ovB (n r i : Nat) : Bool := decide (ovI n r i ≤ 0) && decide (0 - (n : Int) * n ≤ 4 * ovI n r i) && decide (0 ≤ ovI n r i + ((i : Int) * bendI n - n * trI i)) && decide (2 * (ovI n r i + ((i : Int) * bendI n - n * trI i)) ≤ (n : Int) * i * (n - i))
theorem ov_all : ((List.range 13).all fun n => (List.range n).all fun r => (List.range (n + 1)).all fun i => ovB n r i) = true := by decide +kernel
theorem ov_chk (n : Nat) (hn : n < 13) (r : Nat) (hr : r < n) (i : Nat) (hi : i < n + 1) : (ovI n r i ≤ 0 ∧ 0 - (n : Int) * n ≤ 4 * ovI n r i) ∧ (0 ≤ ovI n r i + ((i : Int) * bendI n - n * trI i) ∧ 2 * (ovI n r i + ((i : Int) * bendI n - n * trI i)) ≤ (n : Int) * i * (n - i)) := by
  have a := List.all_eq_true.mp ov_all n (List.mem_range.mpr hn)
  have b := List.all_eq_true.mp a r (List.mem_range.mpr hr)
  have c := List.all_eq_true.mp b i (List.mem_range.mpr hi)
  unfold ovB at c
  rw [Bool.and_eq_true, Bool.and_eq_true, Bool.and_eq_true, decide_eq_true_iff, decide_eq_true_iff, decide_eq_true_iff, decide_eq_true_iff] at c
  exact ⟨⟨c.1.1.1, c.1.1.2⟩, c.1.2, c.2⟩
theorem over_eq (h : LinOk n m k) (i : Nat) : (n : Int) * rI n m k i - i * (k + 1) = ovI n (totI n m k % n).toNat i + mkC m * ((i : Int) * bendI n - n * trI i) := by
  have r := rem_range h
  have e := Int.mul_ediv_add_emod (totI n m k) n
  have t := totI_eq n m k
  have hr : (((totI n m k % n).toNat : Nat) : Int) = totI n m k % n := by omega
  unfold ovI
  rw [hr]
  obtain ⟨q, hq⟩ : ∃ q, q = totI n m k / n := ⟨_, rfl⟩
  obtain ⟨s, hs⟩ : ∃ s, s = totI n m k % n := ⟨_, rfl⟩
  unfold rI
  rw [← hq, ← hs] at e ⊢
  obtain ⟨M, hM⟩ : ∃ M, M = max 0 ((i : Int) - n + s) := ⟨_, rfl⟩
  rw [← hM]
  have hk : k + 1 = n * q + s - mkC m * bendI n := by omega
  rw [hk]
  have c := mkC_c h
  have a1 : (n : Int) * (q * i) = i * (n * q) := by rw [Int.mul_comm q, Int.mul_left_comm]
  rcases c with c | c
  · rw [c, Int.zero_mul, Int.zero_mul, Int.zero_mul, Int.sub_zero, Int.sub_zero, Int.add_zero, Int.mul_add, Int.mul_add, a1]
    omega
  · rw [c, Int.one_mul, Int.one_mul, Int.one_mul, Int.mul_sub, Int.mul_add, a1, Int.mul_sub, Int.mul_add]
    omega
theorem over_ok (h : LinOk n m k) {i : Nat} (hi : i < n + 1) : (m = 1 → (n : Int) * rI n m k i - i * (k + 1) ≤ 0 ∧ 0 - (n : Int) * n ≤ 4 * ((n : Int) * rI n m k i - i * (k + 1))) ∧ (m = 2 → 0 ≤ (n : Int) * rI n m k i - i * (k + 1) ∧ 2 * ((n : Int) * rI n m k i - i * (k + 1)) ≤ (n : Int) * i * (n - i)) := by
  have r := rem_range h
  have c := ov_chk n (by have := h.n2; omega) (totI n m k % n).toNat (by omega) i hi
  rw [over_eq h]
  constructor
  · intro e
    have : mkC m = 0 := by unfold mkC; rw [if_pos e]
    rw [this, Int.zero_mul, Int.add_zero]
    exact c.1
  · intro e
    have : mkC m = 1 := by unfold mkC; rw [if_neg (by omega)]
    rw [this, Int.one_mul]
    exact c.2
theorem distance_ev (h : LinOk n m k) (p : S) : D_law_distance [.int (n : Int), .int m, .int k, lI (rowL n m k)] p = .ok (.bl true) p := by
  have n1 := h.n1
  have n2 := h.n2
  have hrn := rngN (n := n + 1) (by omega)
  rw [show ((n + 1 : Nat) : Int) = (n : Int) + 1 by omega] at hrn
  obtain ⟨l', q, E, hq, o4, o5, rfl⟩ := loop_run (tg := gset 4) (body := L_law_distance_1)
    (fun (j : Nat) (l : Den.Loc) (q : S) => q = p ∧ ∃ o4 o5, l = [dd (.int (n : Int)), dd (.int m), dd (.int k), dd (lI (rowL n m k)), o4, o5])
    (ds := rngD 0 (n + 1)) (k := 0) (l := [dd (.int (n : Int)), dd (.int m), dd (.int k), dd (lI (rowL n m k)), none, none]) (p := p) ⟨rfl, none, none, rfl⟩ (fun i d l q hd hI => by
      obtain ⟨hq, o4, o5, rfl⟩ := hI
      subst hq
      obtain ⟨hi, rfl⟩ := rngD_get hd
      rw [Int.zero_add]
      obtain ⟨v, hv⟩ : ∃ v, v = (n : Int) * rI n m k i - i * (k + 1) := ⟨_, rfl⟩
      have ok := over_ok h hi
      rw [← hv] at ok
      have a1 := atI_row (r := rowL n m k) (i := i) (by rw [rowL_len]; exact hi)
      rw [rowL_at hi] at a1
      have f1 : fMul (.int (n : Int)) (.int (rI n m k i)) = some (.int ((n : Int) * rI n m k i)) := fMul_int (.inl (by omega))
      have f2 : fMul (.int (i : Int)) (.int (k + 1)) = some (.int ((i : Int) * (k + 1))) := fMul_int (.inl (by omega))
      have f3 : fMul (.int 4) (.int v) = some (.int (4 * v)) := fMul_int (.inl (by decide))
      have f4 : fMul (.int (n : Int)) (.int (n : Int)) = some (.int ((n : Int) * n)) := fMul_int (.inl (by omega))
      have f5 : fMul (.int 2) (.int v) = some (.int (2 * v)) := fMul_int (.inl (by decide))
      have f6 : fMul (.int (n : Int)) (.int (i : Int)) = some (.int ((n : Int) * i)) := fMul_int (.inl (by omega))
      have f7 : fMul (.int ((n : Int) * i)) (.int ((n : Int) - i)) = some (.int ((n : Int) * i * (n - i))) := fMul_int (.inr (by omega))
      refine ⟨_, lset_lt 4 _ _ (by simp), [dd (.int (n : Int)), dd (.int m), dd (.int k), dd (lI (rowL n m k)), dd (.int (i : Int)), dd (.int v)], q, .inl ?_, rfl, _, _, rfl⟩
      have S1 : b_law_distance_1l1 [dd (.int (n : Int)), dd (.int m), dd (.int k), dd (lI (rowL n m k)), dd (.int (i : Int)), o5] q = .nx [dd (.int (n : Int)), dd (.int m), dd (.int k), dd (lI (rowL n m k)), dd (.int (i : Int)), dd (.int v)] q := by
        rw [hv]
        simp [b_law_distance_1l1, mvar, a1, f1, f2]
      show L_law_distance_1 [dd (.int (n : Int)), dd (.int m), dd (.int k), dd (lI (rowL n m k)), dd (.int (i : Int)), o5] q = _
      unfold L_law_distance_1
      rw [seq_nx S1]
      have e3 : 0 - (n : Int) * n = -((n : Int) * n) := by omega
      rcases h.mm with c | c
      · obtain ⟨g1, g2⟩ := ok.1 c
        have d1 : ¬ 0 < v := by omega
        have d2 : ¬ 4 * v < -((n : Int) * n) := by omega
        simp [b_law_distance_1l2, b_law_distance_1l3, mvar, c, d1, d2, f3, f4]
      · obtain ⟨g1, g2⟩ := ok.2 c
        have d1 : ¬ v < 0 := by omega
        have d2 : ¬ (n : Int) * i * (n - i) < 2 * v := by omega
        simp [b_law_distance_1l2, b_law_distance_1l3, mvar, c, d1, d2, f5, f6, f7])
  subst hq
  unfold D_law_distance
  rw [denF_ev (by rfl)]
  show outR (dn_law_distance [dd (.int (n : Int)), dd (.int m), dd (.int k), dd (lI (rowL n m k)), none, none] q) = _
  have T1 : b_law_distance_1 [dd (.int (n : Int)), dd (.int m), dd (.int k), dd (lI (rowL n m k)), none, none] q = .nx [dd (.int (n : Int)), dd (.int m), dd (.int k), dd (lI (rowL n m k)), o4, o5] q := by
    unfold b_law_distance_1
    simp only [sfor_ev, mbind_ev, acons_ev, op2_ev, mvar, List.getElem?_cons_succ, List.getElem?_cons_zero, mret_ev, bind_ok, anil_ev, fAdd_int, hrn, mlift_some, toO_ok]
    exact E
  unfold dn_law_distance
  rw [seq_nx T1]
  simp
theorem law_line_ev (h1 : 1 ≤ n) (h2 : n ≤ 12) (p : S) : D_law_line [.int (n : Int), .int m] p = .ok (.lst (encW (lineW n m))) p := by
  obtain ⟨pre, hpre⟩ : ∃ pre : Nat → List D, pre = fun j => D.lst [] :: ((List.range j).map fun j : Nat => dI [(1 : Int) + (j : Int) - 1, 1 + (j : Int) + 1]) := ⟨_, rfl⟩
  have er : rng2 [.int 1, .int (n : Int)] = some (rngD 1 (n - 1)) := by
    rw [rng2_int (by decide) (by omega)]
    congr 2
    omega
  have T1 : b_law_line_1 [dd (.int (n : Int)), dd (.int m), none, none, none, none] p = .nx [dd (.int (n : Int)), dd (.int m), some (.cell (pre 0)), none, none, none] p := by
    rw [hpre]
    simp [b_law_line_1, mshort]
  obtain ⟨l', q, E, hq, o3, rfl⟩ := loop_run (tg := gset 3) (body := L_law_line_2)
    (fun (j : Nat) (l : Den.Loc) (q : S) => q = p ∧ ∃ o3, l = [dd (.int (n : Int)), dd (.int m), some (.cell (pre j)), o3, none, none])
    (ds := rngD 1 (n - 1)) (k := 0) (l := [dd (.int (n : Int)), dd (.int m), some (.cell (pre 0)), none, none, none]) (p := p) ⟨rfl, none, rfl⟩ (fun j d l q hd hI => by
      obtain ⟨hq, o3, rfl⟩ := hI
      subst hq
      obtain ⟨hj, rfl⟩ := rngD_get hd
      rw [Nat.zero_add]
      refine ⟨_, lset_lt 3 _ _ (by simp), [dd (.int (n : Int)), dd (.int m), some (.cell (pre (j + 1))), dd (.int (1 + (j : Int))), none, none], q, .inl ?_, rfl, _, rfl⟩
      unfold L_law_line_2
      have hs : pre (j + 1) = pre j ++ [dI [(1 : Int) + (j : Int) - 1, 1 + (j : Int) + 1]] := by
        rw [hpre]
        simp [List.range_succ]
      have hl : (pre j).length = j + 1 := by rw [hpre]; simp
      rw [hs]
      rw [sappend_ev (ds := pre j) rfl (by omega)]
      simp [mvar, mshort, dI])
  subst hq
  rw [rngD_len, Nat.zero_add] at E
  have T2 : b_law_line_2 [dd (.int (n : Int)), dd (.int m), some (.cell (pre 0)), none, none, none] q = .nx [dd (.int (n : Int)), dd (.int m), some (.cell (pre (n - 1))), o3, none, none] q := by
    unfold b_law_line_2
    simp only [sfor_ev, mbind_ev, acons_ev, mret_ev, mvar, List.getElem?_cons_succ, List.getElem?_cons_zero, bind_ok, anil_ev, er, mlift_some, toO_ok]
    exact E
  have hln : pre (n - 1) ++ [D.lst []] = (lineS n).map dI := by
    rw [hpre]
    simp [lineS, dI]
  have hpl : (pre (n - 1)).length = n := by rw [hpre]; simp; omega
  have T3 : (sappend 2 (mfreeze (mshort anil))) [dd (.int (n : Int)), dd (.int m), some (.cell (pre (n - 1))), o3, none, none] q = .nx [dd (.int (n : Int)), dd (.int m), some (.cell ((lineS n).map dI)), o3, none, none] q := by
    rw [sappend_ev (ds := pre (n - 1)) rfl (by omega), ← hln]
    simp [mshort]
  have hrn := rngN (n := n) (by omega)
  have hrn1 := rngN (n := n + 1) (by omega)
  rw [show ((n + 1 : Nat) : Int) = (n : Int) + 1 by omega] at hrn1
  have rp : ∀ (d : D) (j : Nat), ((List.range j).map fun _ : Nat => d) = List.replicate j d := fun d j => by
    rw [List.map_const', List.length_range]
  have c1 : c_law_line_1 [dd (.int (n : Int)), dd (.int m), some (.cell ((lineS n).map dI)), o3, none, none] q = .ok (List.replicate n .non) q := by
    unfold c_law_line_1
    rw [mcomp_ev (ds := rngD 0 n) (p' := q) (by simp [mvar, hrn]) (by rw [rngD_len]; omega)]
    unfold rngD
    rw [comp_mapL (by simp) (fun j : Nat => D.int (0 + (j : Int))) (fun _ => .non) (fun j _ => by simp), rp]
  have r3 : fCat (.lst [.tup [.str "chips", .int 0]]) (.lst (List.replicate n .non)) = some (.lst ((some (true, 0) :: List.replicate n none).map dDue)) := by
    show (if _ then _ else _) = _
    rw [if_pos (by simp; omega)]
    simp [dDue]
  have T4 : b_law_line_4 [dd (.int (n : Int)), dd (.int m), some (.cell ((lineS n).map dI)), o3, none, none] q = .nx [dd (.int (n : Int)), dd (.int m), some (.cell ((lineS n).map dI)), o3, dd (.lst ((some (true, 0) :: List.replicate n none).map dDue)), none] q := by
    simp only [b_law_line_4, sasg_ev, op2_ev, mfreeze_ev, mshort_ev, mtupd_ev, acons_ev, mret_ev, anil_ev, bind_ok, List.length_cons, List.length_nil, Nat.reduceAdd, Nat.reduceLeDiff, if_true, c1, r3, mlift_some, toO_ok]
    rfl
  have ll := lineS_len h1
  have c2 : c_law_line_2 [dd (.int (n : Int)), dd (.int m), dd (.lst ((lineS n).map dI)), o3, dd (.lst ((some (true, 0) :: List.replicate n none).map dDue)), none] q = .ok ((List.replicate (n + 1) m).map .int) q := by
    unfold c_law_line_2
    rw [mcomp_ev (ds := rngD 0 (n + 1)) (p' := q) (by simp [mvar, hrn1]) (by rw [rngD_len]; omega)]
    unfold rngD
    rw [comp_mapL (by simp) (fun j : Nat => D.int (0 + (j : Int))) (fun _ => .int m) (fun j _ => by simp [mvar]), rp, List.map_replicate]
  have c3 : c_law_line_3 [dd (.int (n : Int)), dd (.int m), dd (.lst ((lineS n).map dI)), o3, dd (.lst ((some (true, 0) :: List.replicate n none).map dDue)), none] q = .ok ((lineS n).map dI) q := by
    unfold c_law_line_3
    rw [mcomp_ev (ds := (lineS n).map dI) (p' := q) (by simp [mvar, lstOf]) (by rw [List.length_map]; omega)]
    rw [comp_mapL (by simp) dI dI fun ss _ => by simp [mvar, mlistN, dI]]
  have e5 : (mfreeze (mshort (acons (mvar 2) (acons (mfreeze c_law_line_3) (acons (mfreeze c_law_line_2) (acons (mvar 4) anil)))))) [dd (.int (n : Int)), dd (.int m), dd (.lst ((lineS n).map dI)), o3, dd (.lst ((some (true, 0) :: List.replicate n none).map dDue)), none] q = .ok (.lst (encW (lineW n m))) q := by
    simp only [mfreeze_ev, mshort_ev, acons_ev, anil_ev, mvar, List.getElem?_cons_succ, List.getElem?_cons_zero, bind_ok, c2, c3, List.length_cons, List.length_nil, Nat.reduceAdd, Nat.reduceLeDiff, if_true]
    rfl
  unfold D_law_line
  rw [denF_ev (by rfl)]
  show outR (dn_law_line [dd (.int (n : Int)), dd (.int m), none, none, none, none] q) = _
  unfold dn_law_line
  rw [seq_nx T1, seq_nx T2, seq_nx T3, seq_nx T4]
  show outR (sret (mfreeze (mshort (acons (mvar 2) (acons (mfreeze c_law_line_3) (acons (mfreeze c_law_line_2) (acons (mvar 4) anil)))))) [dd (.int (n : Int)), dd (.int m), dd (.lst ((lineS n).map dI)), o3, dd (.lst ((some (true, 0) :: List.replicate n none).map dDue)), none] q) = _
  rw [sret_ev, e5]
  rfl
theorem numbers_right_ev (A : CA) (h : LinOk n m k) (hk : k ≤ big40) (p : S) : D_law_numbers_right A [.int (n : Int), .int m, .int k] p = .ok (.bl true) p := by
  have n1 := h.n1
  have n2 := h.n2
  have V := lineW_valid (n := n) h.n1 (by omega) h.mm
  have hrn := rngN (n := n + 1) (by omega)
  rw [show ((n + 1 : Nat) : Int) = (n : Int) + 1 by omega] at hrn
  have T1 : sown (mshort anil) 3 [dd (.int (n : Int)), dd (.int m), dd (.int k), none, none, none, none] p = .nx [dd (.int (n : Int)), dd (.int m), dd (.int k), some (.cell []), none, none, none] p := by simp
  obtain ⟨l', q, E, hq, o4, o5, rfl⟩ := loop_run (tg := gset 4) (body := L_law_numbers_right_2)
    (fun (j : Nat) (l : Den.Loc) (q : S) => q = p ∧ ∃ o4 o5, l = [dd (.int (n : Int)), dd (.int m), dd (.int k), some (.cell (((List.range j).map (rI n m k)).map .int)), o4, o5, none])
    (ds := rngD 0 (n + 1)) (k := 0) (l := [dd (.int (n : Int)), dd (.int m), dd (.int k), some (.cell []), none, none, none]) (p := p) ⟨rfl, none, none, rfl⟩ (fun i d l q hd hI => by
      obtain ⟨hq, o4, o5, rfl⟩ := hI
      subst hq
      obtain ⟨hi, rfl⟩ := rngD_get hd
      rw [Int.zero_add, Nat.zero_add]
      have e1 := row_number_ev h hk (i := i) (by omega) q
      refine ⟨_, lset_lt 4 _ _ (by simp), [dd (.int (n : Int)), dd (.int m), dd (.int k), some (.cell (((List.range (i + 1)).map (rI n m k)).map .int)), dd (.int (i : Int)), dd (.int (rI n m k i)), none], q, .inl ?_, rfl, _, _, rfl⟩
      have S1 : b_law_numbers_right_2l1 [dd (.int (n : Int)), dd (.int m), dd (.int k), some (.cell (((List.range i).map (rI n m k)).map .int)), dd (.int (i : Int)), o5, none] q = .nx [dd (.int (n : Int)), dd (.int m), dd (.int k), some (.cell (((List.range i).map (rI n m k)).map .int)), dd (.int (i : Int)), dd (.int (rI n m k i)), none] q := by
        simp [b_law_numbers_right_2l1, mvar, e1]
      have S2 : b_law_numbers_right_2l2 [dd (.int (n : Int)), dd (.int m), dd (.int k), some (.cell (((List.range i).map (rI n m k)).map .int)), dd (.int (i : Int)), dd (.int (rI n m k i)), none] q = .nx [dd (.int (n : Int)), dd (.int m), dd (.int k), some (.cell (((List.range i).map (rI n m k)).map .int)), dd (.int (i : Int)), dd (.int (rI n m k i)), none] q := by
        simp [b_law_numbers_right_2l2, mvar, is_integer_int]
      show L_law_numbers_right_2 [dd (.int (n : Int)), dd (.int m), dd (.int k), some (.cell (((List.range i).map (rI n m k)).map .int)), dd (.int (i : Int)), o5, none] q = _
      unfold L_law_numbers_right_2
      rw [seq_nx S1, seq_nx S2, sappend_ev (ds := ((List.range i).map (rI n m k)).map .int) rfl (by rw [List.length_map, List.length_map, List.length_range]; omega), List.range_succ, List.map_append, List.map_append]
      simp [mvar])
  subst hq
  rw [rngD_len, Nat.zero_add] at E
  have T2 : b_law_numbers_right_2 [dd (.int (n : Int)), dd (.int m), dd (.int k), some (.cell []), none, none, none] q = .nx [dd (.int (n : Int)), dd (.int m), dd (.int k), some (.cell ((rowL n m k).map .int)), o4, o5, none] q := by
    unfold b_law_numbers_right_2
    simp only [sfor_ev, mbind_ev, acons_ev, op2_ev, mret_ev, mvar, List.getElem?_cons_succ, List.getElem?_cons_zero, bind_ok, anil_ev, fAdd_int, hrn, mlift_some, toO_ok]
    exact E
  have el := law_line_ev (m := m) h.n1 h.n2 q
  have et := law_true_row_ev V (k := k) (r := rowL n m k) (by rw [rowL_len, lineW_len]) (fun i hi => by
      rw [rowL_len] at hi
      rw [rowL_at hi]
      exact rI_ge h i (by omega)) (fun i hi => by
      rw [rowL_len] at hi
      rw [rowL_at hi]
      exact line_le_due h hi) (fun i hi => by
      rw [rowL_len] at hi
      rw [rowL_at hi]
      exact line_le_price h hi) (line_rest h) q
  have ed := distance_ev h q
  have T3 : b_law_numbers_right_3 [dd (.int (n : Int)), dd (.int m), dd (.int k), some (.cell ((rowL n m k).map .int)), o4, o5, none] q = .nx [dd (.int (n : Int)), dd (.int m), dd (.int k), dd (lI (rowL n m k)), o4, o5, none] q := by
    show (sif (mor (mnot (mtru (mcall D_law_true_row (acons (mcall D_law_line (acons (mvar 0) (acons (mvar 1) anil))) (acons (mvar 2) (acons (mvar 3) anil)))))) (mnot (mtru (mcall D_law_distance (acons (mvar 0) (acons (mvar 1) (acons (mvar 2) (acons (mvar 3) anil)))))))) (sret (mret (D.bl false))) sskip) [dd (.int (n : Int)), dd (.int m), dd (.int k), dd (lI (rowL n m k)), o4, o5, none] q = _
    simp [mvar, el, et, ed]
  unfold D_law_numbers_right
  rw [denF_ev (by rfl)]
  show outR (dn_law_numbers_right A [dd (.int (n : Int)), dd (.int m), dd (.int k), none, none, none, none] q) = _
  unfold dn_law_numbers_right
  rw [seq_nx T1, seq_nx T2, seq_nx T3]
  by_cases c : k ≤ 20
  · have ew := web_line_ev A (n := n) h.n1 (by omega) h.mm q
    have en := number_row_ev (A := A) V h.k0 (by omega) q
    rw [line_numbers h] at en
    have er := is_row_ev (rowL n m k) ((n : Int) + 1) q
    have er' : ((rowL n m k).length : Int) = (n : Int) + 1 := by rw [rowL_len]; omega
    rw [decide_eq_true er'] at er
    have eq := eqv_lI (rowL n m k) (rowL n m k) false
    have S1 : b_law_numbers_right_4t1 A [dd (.int (n : Int)), dd (.int m), dd (.int k), dd (lI (rowL n m k)), o4, o5, none] q = .nx [dd (.int (n : Int)), dd (.int m), dd (.int k), dd (lI (rowL n m k)), o4, o5, dd (tI (rowL n m k))] q := by
      simp [b_law_numbers_right_4t1, mvar, ew, en]
    have e2 : (vand (mcall D_law_is_row (acons (mvar 6) (acons (op2 fAdd (mvar 0) (mret (D.int 1))) anil))) (op2 (fEqD false) (mfreeze (mlistN (acons (mvar 6) anil))) (mvar 3))) [dd (.int (n : Int)), dd (.int m), dd (.int k), dd (lI (rowL n m k)), o4, o5, dd (tI (rowL n m k))] q = .ok (.bl true) q := by
      unfold vand
      simp [mvar, mlistN, er, eq]
    have T4 : b_law_numbers_right_4 A [dd (.int (n : Int)), dd (.int m), dd (.int k), dd (lI (rowL n m k)), o4, o5, none] q = .rt (.bl true) q := by
      unfold b_law_numbers_right_4
      rw [sif_t (p' := q) (by simp [mvar, c]), seq_nx S1]
      unfold b_law_numbers_right_4t2
      rw [sret_ev, e2]
      rfl
    rw [sseq_ev, T4]
    rfl
  · have T4 : b_law_numbers_right_4 A [dd (.int (n : Int)), dd (.int m), dd (.int k), dd (lI (rowL n m k)), o4, o5, none] q = .nx [dd (.int (n : Int)), dd (.int m), dd (.int k), dd (lI (rowL n m k)), o4, o5, none] q := by
      unfold b_law_numbers_right_4
      rw [sif_f (p' := q) (by simp [mvar, c])]
      simp
    rw [seq_nx T4]
    simp
end
end PL
namespace PL
open PySem L2 Den
section
variable (A : CA)
theorem fPow_1020 : fPow (.int 10) (.int 20) = some (.int 100000000000000000000) := by
  show (if (0 : Int) ≤ 20 ∧ (20 : Int).natAbs ≤ 1000000 ∧ (10 : Int).natAbs < 18446744073709551616 then some (D.int (10 ^ (20 : Int).toNat)) else none) = _
  rw [if_pos ⟨by decide, by decide, by decide⟩]
  rfl
theorem bend_66 (n : Nat) (hn : n ≤ 12) : bendI n ≤ 66 := by
  have a : ((List.range 13).all fun n => decide (bendI n ≤ 66)) = true := by decide +kernel
  exact of_decide_eq_true (List.all_eq_true.mp a n (List.mem_range.mpr (by omega)))
abbrev sN : D := .str "number"
abbrev sK : D := .str "kind"
abbrev sM : D := .str "much"
theorem eqS_nine : fEqS true (.lst [sN, sN, sN, sN, sN, sK, sM, sM, sN]) (.lst [sN, sN, sN, sN, sN, sK, sM, sM, sN]) = some (.bl false) := by
  have e1 : pdS sN = some (.str "number") := by unfold sN pdS; rw [if_pos (by decide +kernel)]
  have e2 : pdS sK = some (.str "kind") := by unfold sK pdS; rw [if_pos (by decide +kernel)]
  have e3 : pdS sM = some (.str "much") := by unfold sM pdS; rw [if_pos (by decide +kernel)]
  have e : pdS (.lst [sN, sN, sN, sN, sN, sK, sM, sM, sN]) = some (.list [.str "number", .str "number", .str "number", .str "number", .str "number", .str "kind", .str "much", .str "much", .str "number"]) := by
    rw [pdS]
    simp only [pdSL, e1, e2, e3, Option.map_some]
  unfold fEqS
  rw [e]
  dsimp only
  rw [if_pos (by simp [PyData.depth, PyData.depthAll])]
  simp [PyData.eqv, PyData.eqvAll]
theorem refused50_ev {n : Nat} (n1 : 1 ≤ n) (n2 : n ≤ 12) (p : S) : ∃ q, D_law_refused_k50 [.int (n : Int), .pot] p = .ok (.bl true) q := by
  obtain ⟨B, hB⟩ : ∃ B, B = (n : Int) * ((n : Int) - 1) / 2 := ⟨_, rfl⟩
  have hB' : B = bendI n := hB
  have b66 := bend_66 n n2
  have b0 := bend_nonneg n
  have f1 : fMul (.int (n : Int)) (.int ((n : Int) - 1)) = some (.int ((n : Int) * ((n : Int) - 1))) := fMul_int (.inl (by omega))
  have f2 : fDiv (.int ((n : Int) * ((n : Int) - 1))) (.int 2) = some (.int B) := by rw [hB]; exact fDiv_int (by decide)
  obtain ⟨v, p1, ed, v0, v1⟩ := draw_ev 3 (by decide) p
  have r1 : ∀ q, D_law_refusal [.int 0, .int 1, .int 5, .int 0] q = .ok sN q := fun q => refusal_err (e := 1) (.inr (.inl rfl)) (rn_err1 q (by decide))
  have r2 : ∀ q, D_law_refusal [.int (n : Int), .int 3, .int 5, .int 0] q = .ok sN q := fun q => refusal_err (e := 1) (.inr (.inl rfl)) (rn_err2 q (by omega) (by decide))
  have r3 : ∀ q, D_law_refusal [.int (n : Int), .int 1, .int (-1), .int 0] q = .ok sN q := fun q => refusal_err (e := 1) (.inr (.inl rfl)) (rn_err3 q (by omega) (.inl rfl) (by decide))
  have r4 : ∀ q, D_law_refusal [.int (n : Int), .int 1, .int 5, .int ((n : Int) + 1)] q = .ok sN q := fun q => refusal_err (e := 1) (.inr (.inl rfl)) (rn_err4 q (by omega) (.inl rfl) (by decide) (by omega))
  have r5 : ∀ q, D_law_refusal [.int (n : Int), .int 1, .int 5, .int (-1 - v)] q = .ok sN q := fun q => refusal_err (e := 1) (.inr (.inl rfl)) (rn_err4 q (by omega) (.inl rfl) (by decide) (by omega))
  have r6 : ∀ q, D_law_refusal [.int (n : Int), .bl true, .int 5, .int 0] q = .ok sK q := fun q => refusal_err (e := 0) (.inl rfl) (by
    have e : D_check_whole [.int (n : Int), .bl true, .int 5, .int 0] q = .err 0 q := check_whole_no _ (by simp) q 1 (.bl true) .bl rfl rfl rfl fun i hi d hd => by
      have : i = 0 := by omega
      subst this
      cases hd
      exact ⟨_, rfl⟩
    simp [D_row_number, denF, dn_row_number, b_row_number_01, locOf, mvar, e])
  have r7 : ∀ q, D_law_refusal [.int 41, .int 1, .int 5, .int 3] q = .ok sM q := fun q => refusal_err (e := 3) (.inr (.inr rfl)) (rn_err6 q (by decide) (by decide) (.inl rfl) (by decide) (by decide) (by decide))
  have r8 : ∀ q, D_law_refusal [.int (n : Int), .int 1, .int 10000000000000000000000000000000000000001, .int 0] q = .ok sM q := fun q => refusal_err (e := 3) (.inr (.inr rfl)) (rn_err7 q (by omega) (by omega) (.inl rfl) (by decide) (by decide) ⟨by decide, by omega⟩ (fun e => absurd e (by decide)))
  have r9 : ∀ q, D_law_refusal [.int 41, .int 2, .int 5, .int 3] q = .ok sN q := fun q => refusal_err (e := 1) (.inr (.inl rfl)) (rn_err5 q (by decide) (by decide) (by decide) (by decide) (by decide))
  have h12 : LinOk n 2 (max 0 (B - 1)) := ⟨n1, n2, .inr rfl, by omega, fun _ => by omega⟩
  have r12 : ∀ q, D_law_refusal [.int (n : Int), .int 2, .int (max 0 (B - 1)), .int (n : Int)] q = .ok (.str "none") q := fun q => refusal_ok (row_number_ev h12 (by show _ ≤ (10000000000000000000000000000000000000000 : Int); omega) (Nat.le_refl n) q)
  refine ⟨p1, ?_⟩
  have T1 : b_law_refused_k50_01 [dd (.int (n : Int)), dd .pot, none, none, none] p = .nx [dd (.int (n : Int)), dd .pot, dd (.int B), none, none] p := by simp [b_law_refused_k50_01, mvar, f1, f2]
  have T2 : b_law_refused_k50_02 [dd (.int (n : Int)), dd .pot, dd (.int B), none, none] p = .nx [dd (.int (n : Int)), dd .pot, dd (.int B), some (.cell [sN, sN, sN]), none] p := by
    simp [b_law_refused_k50_02, mvar, mshort, r1, r2, r3]
  have T3 : b_law_refused_k50_03 [dd (.int (n : Int)), dd .pot, dd (.int B), some (.cell [sN, sN, sN]), none] p = .nx [dd (.int (n : Int)), dd .pot, dd (.int B), some (.cell [sN, sN, sN, sN]), none] p := by
    unfold b_law_refused_k50_03
    rw [sappend_ev (ds := [sN, sN, sN]) rfl (by simp)]
    simp [mvar, r4]
  have T4 : b_law_refused_k50_04 [dd (.int (n : Int)), dd .pot, dd (.int B), some (.cell [sN, sN, sN, sN]), none] p = .nx [dd (.int (n : Int)), dd .pot, dd (.int B), some (.cell [sN, sN, sN, sN, sN]), none] p1 := by
    unfold b_law_refused_k50_04
    rw [sappend_ev (ds := [sN, sN, sN, sN]) rfl (by simp)]
    simp [mvar, ed, r5]
  have T5 : b_law_refused_k50_05 [dd (.int (n : Int)), dd .pot, dd (.int B), some (.cell [sN, sN, sN, sN, sN]), none] p1 = .nx [dd (.int (n : Int)), dd .pot, dd (.int B), some (.cell [sN, sN, sN, sN, sN, sK]), none] p1 := by
    unfold b_law_refused_k50_05
    rw [sappend_ev (ds := [sN, sN, sN, sN, sN]) rfl (by simp)]
    simp [mvar, r6]
  have T6 : b_law_refused_k50_06 [dd (.int (n : Int)), dd .pot, dd (.int B), some (.cell [sN, sN, sN, sN, sN, sK]), none] p1 = .nx [dd (.int (n : Int)), dd .pot, dd (.int B), some (.cell [sN, sN, sN, sN, sN, sK, sM]), none] p1 := by
    unfold b_law_refused_k50_06
    rw [sappend_ev (ds := [sN, sN, sN, sN, sN, sK]) rfl (by simp)]
    simp [mvar, r7]
  have T7 : b_law_refused_k50_07 [dd (.int (n : Int)), dd .pot, dd (.int B), some (.cell [sN, sN, sN, sN, sN, sK, sM]), none] p1 = .nx [dd (.int (n : Int)), dd .pot, dd (.int B), some (.cell [sN, sN, sN, sN, sN, sK, sM, sM]), none] p1 := by
    unfold b_law_refused_k50_07
    rw [sappend_ev (ds := [sN, sN, sN, sN, sN, sK, sM]) rfl (by simp)]
    simp [mvar, pow40, r8]
  have T8 : b_law_refused_k50_08 [dd (.int (n : Int)), dd .pot, dd (.int B), some (.cell [sN, sN, sN, sN, sN, sK, sM, sM]), none] p1 = .nx [dd (.int (n : Int)), dd .pot, dd (.int B), some (.cell [sN, sN, sN, sN, sN, sK, sM, sM, sN]), none] p1 := by
    unfold b_law_refused_k50_08
    rw [sappend_ev (ds := [sN, sN, sN, sN, sN, sK, sM, sM]) rfl (by simp)]
    simp [mvar, r9]
  have T9 : b_law_refused_k50_09 [dd (.int (n : Int)), dd .pot, dd (.int B), some (.cell [sN, sN, sN, sN, sN, sK, sM, sM, sN]), none] p1 = .nx [dd (.int (n : Int)), dd .pot, dd (.int B), some (.cell [sN, sN, sN, sN, sN, sK, sM, sM, sN]), dd (.lst [sN, sN, sN, sN, sN, sK, sM, sM, sN])] p1 := by
    simp [b_law_refused_k50_09, mshort]
  have T10 : b_law_refused_k50_10 [dd (.int (n : Int)), dd .pot, dd (.int B), some (.cell [sN, sN, sN, sN, sN, sK, sM, sM, sN]), dd (.lst [sN, sN, sN, sN, sN, sK, sM, sM, sN])] p1 = .nx [dd (.int (n : Int)), dd .pot, dd (.int B), dd (.lst [sN, sN, sN, sN, sN, sK, sM, sM, sN]), dd (.lst [sN, sN, sN, sN, sN, sK, sM, sM, sN])] p1 := by
    show (sif (mtest (op2 (fEqS true) (mvar 3) (mvar 4))) (sret (mret (D.bl false))) sskip) [dd (.int (n : Int)), dd .pot, dd (.int B), dd (.lst [sN, sN, sN, sN, sN, sK, sM, sM, sN]), dd (.lst [sN, sN, sN, sN, sN, sK, sM, sM, sN])] p1 = _
    have e := eqS_nine
    rw [sif_f (p' := p1) (by simp only [mtest_ev, op2_ev, mvar, List.getElem?_cons_succ, List.getElem?_cons_zero, bind_ok, e, mlift_some, boolOf_bl])]
    simp
  have nN : fNe sN (.str "number") = some (.bl false) := codeS_ne 1 1 (by decide) (by decide)
  have T11 : b_law_refused_k50_11 [dd (.int (n : Int)), dd .pot, dd (.int B), dd (.lst [sN, sN, sN, sN, sN, sK, sM, sM, sN]), dd (.lst [sN, sN, sN, sN, sN, sK, sM, sM, sN])] p1 = .nx [dd (.int (n : Int)), dd .pot, dd (.int B), dd (.lst [sN, sN, sN, sN, sN, sK, sM, sM, sN]), dd (.lst [sN, sN, sN, sN, sN, sK, sM, sM, sN])] p1 := by
    by_cases c : 2 ≤ B
    · have r11 : D_law_refusal [.int (n : Int), .int 2, .int (B - 2), .int (n : Int)] p1 = .ok sN p1 := refusal_err (e := 1) (.inr (.inl rfl)) (rn_err5 p1 (by omega) (by omega) (by omega) ⟨by omega, by omega⟩ (by rw [← hB]; omega))
      simp [b_law_refused_k50_11, mvar, c, r11, nN]
    · simp [b_law_refused_k50_11, mvar, c]
  have nn : fEq (.str "none") (.str "none") = some (.bl true) := by rw [fEq_str]; simp
  unfold D_law_refused_k50
  rw [denF_ev (by rfl)]
  show outR (dn_law_refused_k50 [dd (.int (n : Int)), dd .pot, none, none, none] p) = _
  unfold dn_law_refused_k50
  rw [seq_nx T1, seq_nx T2, seq_nx T3, seq_nx T4, seq_nx T5, seq_nx T6, seq_nx T7, seq_nx T8, seq_nx T9, seq_nx T10, seq_nx T11]
  simp [b_law_refused_k50_12, mvar, fMax2_mx, -fMax2_int, r12, nn]
abbrev S50 (n : Nat) (B : Int) (o4 o5 o6 : Option L) : Den.Loc := [none, dd .pot, dd (.int (n : Int)), dd (.int B), o4, o5, o6]
theorem law_turn_k50 {n : Nat} (n1 : 1 ≤ n) (n2 : n ≤ 12) {m t : Int} (hm : m = 1 ∨ m = 2) (o6 : Option L) (p : S) : ∃ o6' q, L_law_k50_3l1 A (S50 n (bendI n) (dd (.int m)) (dd (.int t)) o6) p = .nx (S50 n (bendI n) (dd (.int m)) (dd (.int t)) o6') q := by
  have b66 := bend_66 n n2
  have b0 := bend_nonneg n
  obtain ⟨k, p1, e1, k0, k1⟩ := draw_ev 30 (by decide) p
  have S1 : b_law_k50_3l1l1 (S50 n (bendI n) (dd (.int m)) (dd (.int t)) o6) p = .nx (S50 n (bendI n) (dd (.int m)) (dd (.int t)) (dd (.int k))) p1 := by simp [b_law_k50_3l1l1, mvar, e1]
  have S2 : ∃ k2 p2, b_law_k50_3l1l2 (S50 n (bendI n) (dd (.int m)) (dd (.int t)) (dd (.int k))) p1 = .nx (S50 n (bendI n) (dd (.int m)) (dd (.int t)) (dd (.int k2))) p2 ∧ 0 ≤ k2 ∧ k2 < 1000 := by
    by_cases c : t = 1
    · obtain ⟨v, p2, e2, v0, v1⟩ := draw_ev 30 (by decide) p1
      have f : fMul (.int 30) (.int v) = some (.int (30 * v)) := fMul_int (.inl (by decide))
      exact ⟨k + 30 * v, p2, by simp [b_law_k50_3l1l2, mvar, c, e2, f], by omega, by omega⟩
    · exact ⟨k, p1, by simp [b_law_k50_3l1l2, mvar, c], k0, by omega⟩
  obtain ⟨k2, p2, S2, k20, k21⟩ := S2
  have S3 : ∃ k3 p3, b_law_k50_3l1l3 (S50 n (bendI n) (dd (.int m)) (dd (.int t)) (dd (.int k2))) p2 = .nx (S50 n (bendI n) (dd (.int m)) (dd (.int t)) (dd (.int k3))) p3 ∧ 0 ≤ k3 ∧ k3 < 1000000000000000000000000 := by
    by_cases c : t = 2
    · obtain ⟨v, p3, e2, v0, v1⟩ := draw_ev 30 (by decide) p2
      obtain ⟨w, p4, e3, w0, w1⟩ := draw_ev 30 (by decide) p3
      have f : fMul (.int 30) (.int v) = some (.int (30 * v)) := fMul_int (.inl (by decide))
      have g : fMul (.int (1 + k2)) (.int 100000000000000000000) = some (.int ((1 + k2) * 100000000000000000000)) := fMul_int (.inl (by omega))
      exact ⟨(1 + k2) * 100000000000000000000 + 30 * v + w, p4, by simp [b_law_k50_3l1l3, mvar, c, e2, e3, f, g, fPow_1020], by omega, by omega⟩
    · exact ⟨k2, p2, by simp [b_law_k50_3l1l3, mvar, c], k20, by omega⟩
  obtain ⟨k3, p3, S3, k30, k31⟩ := S3
  have S4 : ∃ k4, b_law_k50_3l1l4 (S50 n (bendI n) (dd (.int m)) (dd (.int t)) (dd (.int k3))) p3 = .nx (S50 n (bendI n) (dd (.int m)) (dd (.int t)) (dd (.int k4))) p3 ∧ 0 ≤ k4 ∧ k4 < 1000000000000000000000000 := by
    by_cases c : t = 3
    · exact ⟨0, by simp [b_law_k50_3l1l4, mvar, c], by omega, by omega⟩
    · exact ⟨k3, by simp [b_law_k50_3l1l4, mvar, c], k30, k31⟩
  obtain ⟨k4, S4, k40, k41⟩ := S4
  have S5 : ∃ k5, b_law_k50_3l1l5 (S50 n (bendI n) (dd (.int m)) (dd (.int t)) (dd (.int k4))) p3 = .nx (S50 n (bendI n) (dd (.int m)) (dd (.int t)) (dd (.int k5))) p3 ∧ 0 ≤ k5 ∧ k5 < 10000000000000000000000000 ∧ (m = 2 → bendI n ≤ k5 + 1) := by
    by_cases c : m = 2
    · exact ⟨k4 + max 0 (bendI n - 1), by simp [b_law_k50_3l1l5, mvar, c, fMax2_mx, -fMax2_int], by omega, by omega, fun _ => by omega⟩
    · exact ⟨k4, by simp [b_law_k50_3l1l5, mvar, c], k40, by omega, fun e => absurd e c⟩
  obtain ⟨k5, S5, k50, k51, k52⟩ := S5
  have e6 := numbers_right_ev A (n := n) (m := m) (k := k5) ⟨n1, n2, hm, k50, k52⟩ (by show _ ≤ (10000000000000000000000000000000000000000 : Int); omega) p3
  have S6 : b_law_k50_3l1l6 A (S50 n (bendI n) (dd (.int m)) (dd (.int t)) (dd (.int k5))) p3 = .nx (S50 n (bendI n) (dd (.int m)) (dd (.int t)) (dd (.int k5))) p3 := by simp [b_law_k50_3l1l6, mvar, e6]
  refine ⟨dd (.int k5), p3, ?_⟩
  unfold L_law_k50_3l1
  rw [seq_nx S1, seq_nx S2, seq_nx S3, seq_nx S4, seq_nx S5, S6]
theorem law_k50_run (p : S) : ∃ q, dn_law_k50 A [none, dd .pot, none, none, none, none, none] p = .rt (.bl true) q := by
  obtain ⟨x, p1, e1, x0, x1⟩ := draw_ev 12 (by decide) p
  obtain ⟨n, hn⟩ : ∃ n : Nat, (n : Int) = 1 + x := ⟨(1 + x).toNat, by omega⟩
  have n1 : 1 ≤ n := by omega
  have n2 : n ≤ 12 := by omega
  have f1 : fMul (.int (n : Int)) (.int ((n : Int) - 1)) = some (.int ((n : Int) * ((n : Int) - 1))) := fMul_int (.inl (by omega))
  have f2 : fDiv (.int ((n : Int) * ((n : Int) - 1))) (.int 2) = some (.int (bendI n)) := fDiv_int (by decide)
  have T1 : b_law_k50_1 [none, dd .pot, none, none, none, none, none] p = .nx [none, dd .pot, dd (.int (n : Int)), none, none, none, none] p1 := by
    rw [hn]
    simp [b_law_k50_1, mvar, e1]
  have T2 : b_law_k50_2 [none, dd .pot, dd (.int (n : Int)), none, none, none, none] p1 = .nx (S50 n (bendI n) none none none) p1 := by
    simp [b_law_k50_2, mvar, f1, f2]
  have h4 : rng1 [D.int 4] = some (rngD 0 4) := rngN (n := 4) (by decide)
  have inner : ∀ (m : Int), (m = 1 ∨ m = 2) → ∀ (o5 o6 : Option L) (p : S), ∃ o5' o6' q, L_law_k50_3 A (S50 n (bendI n) (dd (.int m)) o5 o6) p = .nx (S50 n (bendI n) (dd (.int m)) o5' o6') q := fun m hm o5 o6 p => by
    obtain ⟨l', q, E, o5', o6', rfl⟩ := loop_run (tg := gset 5) (body := L_law_k50_3l1 A)
      (fun (j : Nat) (l : Den.Loc) (q : S) => ∃ o5 o6, l = S50 n (bendI n) (dd (.int m)) o5 o6)
      (ds := rngD 0 4) (k := 0) (l := S50 n (bendI n) (dd (.int m)) o5 o6) (p := p) ⟨o5, o6, rfl⟩ (fun j d l q hd hI => by
        obtain ⟨o5, o6, rfl⟩ := hI
        obtain ⟨hj, rfl⟩ := rngD_get hd
        rw [Int.zero_add]
        refine ⟨_, lset_lt 5 _ _ (by simp), ?_⟩
        obtain ⟨o6', q', e⟩ := law_turn_k50 A n1 n2 (t := (j : Int)) hm o6 q
        exact ⟨_, q', .inl e, _, _, rfl⟩)
    refine ⟨o5', o6', q, ?_⟩
    unfold L_law_k50_3
    simp only [sfor_ev, mbind_ev, acons_ev, mret_ev, bind_ok, anil_ev, h4, mlift_some, toO_ok]
    exact E
  have hr2 : rng2 [D.int 1, .int 3] = some (rngD 1 2) := rng2_int (by decide) (by decide)
  obtain ⟨l', q, E, o4, o5, o6, rfl⟩ := loop_run (tg := gset 4) (body := L_law_k50_3 A)
    (fun (j : Nat) (l : Den.Loc) (q : S) => ∃ o4 o5 o6, l = S50 n (bendI n) o4 o5 o6)
    (ds := rngD 1 2) (k := 0) (l := S50 n (bendI n) none none none) (p := p1) ⟨none, none, none, rfl⟩ (fun j d l q hd hI => by
      obtain ⟨o4, o5, o6, rfl⟩ := hI
      obtain ⟨hj, rfl⟩ := rngD_get hd
      refine ⟨_, lset_lt 4 _ _ (by simp), ?_⟩
      obtain ⟨o5', o6', q', e⟩ := inner (1 + (j : Int)) (by omega) o5 o6 q
      exact ⟨_, q', .inl e, _, _, _, rfl⟩)
  have T3 : b_law_k50_3 A (S50 n (bendI n) none none none) p1 = .nx (S50 n (bendI n) o4 o5 o6) q := by
    unfold b_law_k50_3
    simp only [sfor_ev, mbind_ev, acons_ev, mret_ev, bind_ok, anil_ev, hr2, mlift_some, toO_ok]
    exact E
  obtain ⟨q', eR⟩ := refused50_ev n1 n2 q
  refine ⟨q', ?_⟩
  unfold dn_law_k50
  rw [seq_nx T1, seq_nx T2, seq_nx T3]
  simp [b_law_k50_4, mvar, eR]
end
end PL
namespace K50
open PySem L2 Den PL FX
noncomputable section
variable {c : Cfg} {K : PySem.W.Frag} {ec : Nat → Addr} {P : Program} {w : World} {mg : Str → Option Value} {base : Heap} {A : Adr}
theorem pss_pot (nr : mg "range" = none) (nmin : mg "min" = none) (nlen : mg "len" = none) (nint : mg "int" = none) (f : Addr) (cdv : Value) (A_ : Around) (outer : List Env) (sh : Shared) (H : Hp) (E' : XK) :
    PSs (cxOf (L2.CX P w) P w c.K mg base Nn_law_pot "_law_pot" (defScope s_law_pot) f cdv A_ outer sh H E') (defBody s_law_pot) (qPot c) :=
  (pss_cons (ps_asg (pe_lst pa_nil) (pg_name (i := 1) sc_law_pot.nd rfl (by first | exact Or.inl rfl | exact Or.inr rfl)))
    (pss_cons (ps_for (passes_of rfl) rfl (pi_range1 (by rfl) nr (pa_cons (pe_callB (call_min2 rfl) (by rfl) nmin (by decide +kernel) (pa_cons (pe_callB call_len_seq (by rfl) nlen (by decide +kernel) (pa_cons (pv 0) pa_nil)) (pa_cons pe_int pa_nil))) pa_nil)) (pg_name (i := 2) sc_law_pot.nd rfl (by first | exact Or.inl rfl | exact Or.inr rfl)) (pss_cons (ps_asg (pe_callTy call_int1 (by rfl) nint (by decide +kernel) (pa_cons (pe_ix ix_seq (pv 0) (pv 2) (fun _ _ => rfl)) pa_nil)) (pg_name (i := 3) sc_law_pot.nd rfl (by first | exact Or.inl rfl | exact Or.inr rfl)))
    (pss_cons (ps_asg pe_int (pg_name (i := 4) sc_law_pot.nd rfl (by first | exact Or.inl rfl | exact Or.inr rfl)))
    (pss_cons (ps_if (pt_cmpR op_lt (pv 3) pe_int (nomark _)) (pss_cons (ps_asg (pe_op op_sub pe_int (pv 3)) (pg_name (i := 3) sc_law_pot.nd rfl (by first | exact Or.inl rfl | exact Or.inr rfl)))
    (pss_one (ps_asg pe_int (pg_name (i := 4) sc_law_pot.nd rfl (by first | exact Or.inl rfl | exact Or.inr rfl))))) pss_nil)
    (pss_one (ps_if (pt_cmpR op_ge (pv 3) (pe_op op_pow pe_int pe_int) (nomark _)) (pss_one (ps_for (passes_of rfl) rfl (pi_range1 (by rfl) nr (pa_cons pe_int pa_nil)) (pg_name (i := 5) sc_law_pot.nd rfl (by first | exact Or.inl rfl | exact Or.inr rfl)) (pss_one (ps_if (pt_cmpR op_gt (pv 3) pe_int (nomark _)) (pss_cons (ps_expr (pe_bm PySem.F.plainAttrs_list PySem.F.slot_list_append PySem.F.type_list_append mt_append (pv 1) (pa_cons (pe_op op_mod (pe_callTy call_int1 (by rfl) nint (by decide +kernel) (pa_cons (pv 3) pa_nil)) pe_int) pa_nil)))
    (pss_one (ps_asg (pe_op op_fdiv (pv 3) pe_int) (pg_name (i := 3) sc_law_pot.nd rfl (by first | exact Or.inl rfl | exact Or.inr rfl))))) pss_nil)))) (pss_cons (ps_asg (pe_op op_mod (pe_callTy call_int1 (by rfl) nint (by decide +kernel) (pa_cons (pe_op op_add (pe_op op_add (pe_op op_mul (pv 3) pe_int) (pe_op op_mul (pv 2) pe_int)) (pv 4)) pa_nil)) pe_int) (pg_name (i := 6) sc_law_pot.nd rfl (by first | exact Or.inl rfl | exact Or.inr rfl)))
    (pss_one (ps_for (passes_of rfl) rfl (pi_range1 (by rfl) nr (pa_cons pe_int pa_nil)) (pg_name (i := 5) sc_law_pot.nd rfl (by first | exact Or.inl rfl | exact Or.inr rfl)) (pss_cons (ps_asg (pe_op op_mod (pe_callTy call_int1 (by rfl) nint (by decide +kernel) (pa_cons (pe_op op_add (pe_op op_add (pe_op op_add (pe_op op_mul (pv 6) (pv 6)) (pe_op op_mul (pv 5) pe_int)) (pe_op op_mul (pv 2) pe_int)) pe_int) pa_nil)) pe_int) (pg_name (i := 6) sc_law_pot.nd rfl (by first | exact Or.inl rfl | exact Or.inr rfl)))
    (pss_one (ps_expr (pe_bm PySem.F.plainAttrs_list PySem.F.slot_list_append PySem.F.type_list_append mt_append (pv 1) (pa_cons (pv 6) pa_nil))))))))))))))
    (pss_cons (ps_expr (pe_bm0 PySem.F.plainAttrs_list PySem.F.slot_list_reverse PySem.F.type_list_reverse mt_reverse (pv 1)))
    (pss_one (ps_ret (pv 1))))))
theorem ok_law_pot {f : Addr} {fd : FuncData} (F : Fun c.K "_law_pot" "_law_pot" s_law_pot f fd) (nr : mg "range" = none) (nmin : mg "min" = none) (nlen : mg "len" = none) (nint : mg "int" = none) : FnR P w c.K mg base (L2.CX P w) 1 f (spPot c.K) := by
  have ok : FnOk P w c.K mg base (L2.CX P w) 1 f fd ["_law_script"] (spPot c.K) := by
    refine F.okX sc_law_pot (fun vs H Q E h => ?_) (fun cdv A outer sh H vs Q E hr h => ?_)
    · obtain ⟨a, ns, rfl, _⟩ := h
      rfl
    · obtain ⟨a, ns, rfl, hS, hl, k⟩ := h
      exact ⟨_, pss_pot nr nmin nlen nint f cdv A outer sh H E, pot_run hS hl k⟩
  have raw := ok.raw (F.binds (ps := ["_law_script"]) fun _ _ _ _ _ _ us hl => match us, hl with | [_], _ => rfl) .nil
  exact raw.imp fun vs H Q E h => by rw [List.append_nil]; exact h
theorem ok_law {f fP : Addr} {fd fdP : FuncData} (T : ∀ p, Txt (potCfg K p ec) mg A) (F : Fun K "law" "law" s_law f fd) (FP : Fun K "_law_pot" "_law_pot" s_law_pot fP fdP) (mP : mg "_law_pot" = some (.ref fP)) : FnOk P w K mg base (L2.CX P w) 14 f fd ["_law_script"] (spLaw K) := by
  refine F.okX sc_law (fun vs H Q E h => ?_) (fun cdv A_ outer sh H vs Q E hr h => ?_)
  · obtain ⟨a, ns, rfl, _⟩ := h
    rfl
  · obtain ⟨a, ns, rfl, hS, hl, k⟩ := h
    have T0 := T 0
    have G0 : FnR P w K mg base (L2.CX P w) 1 fP (spPot K) := ok_law_pot (c := (potCfg K 0 ec)) FP T0.n_range T0.n_min T0.n_len T0.n_int
    refine ⟨_, pss_cons (ps_asg (pe_callRS (E := fun _ => E) G0 (hr.mono (by decide)) (by rfl) mP FP.kp (passE (takes_of rfl rfl rfl rfl)) (pa_cons (pv 0) pa_nil)) (pg_name (i := 1) sc_law.nd rfl (by first | exact Or.inl rfl | exact Or.inr rfl))) (pss_any (st := (defBody s_law).drop 1)), ?_⟩
    refine ⟨_, rfl, a, ns, rfl, hS, hl, fun p pot H' hp => ?_⟩
    obtain ⟨t, ht, hs⟩ := rest_law (P := P) (w := w) (base := base) (T p) f cdv A_ outer sh H E hr
    refine ⟨t, ht, hs w0 H' w0 H' _ (potLoc 5) ⟨pot, [], 0⟩ (pot_rel hp) _ ?_⟩
    obtain ⟨q, e⟩ := law_k50_run A.ca ⟨pot, [], 0⟩
    have e' : dn_law_k50 A.ca (potLoc 5) ⟨pot, [], 0⟩ = .rt (.bl true) q := e
    rw [e']
    intro v G1 H1 σ1 l1 _ _ a1
    cases a1
    exact k H1
theorem all_mk {l : PySem.W.OpenLaw} {w : World} {K : PySem.W.Frag} {h : Heap} {mg : Str → Option Value} {fa : Addr} {f_is_integer f_check_whole f_whole_list f_check_range f_check_least f_check_one_or_two f_check_most f_as_stands f_row_number f_is_due f_due_in_range f_due_too_great f_check_due f_due_at f_check_kinds f_check_steps f_check_parts f_check_plain f_check_web f_half_of f_dues_at f_bits_of f_stands_of f_lift_once f_numbers_at f_check_chips f_number_row f_law_draw f_law_whole f_law_is_row f_law_due_at f_law_half f_law_low f_law_high f_law_price f_law_fall f_law_true_row f_law_line f_law_distance f_law_numbers_right f_law_refusal f_law_refused C_Web f_Web_init C_Heights f_Heights_init f_Web_dues p_Web_dues f_Web_first p_Web_first f_Web_marks p_Web_marks f_Web_moving p_Web_moving f_Web_second p_Web_second f_Web_size p_Web_size f_Web_line pm_Web_line f_Heightsleading_to f_Heightsleavers f_Heightslook f_Heightsraised_price f_Heights_below f_Heights_leaving f_Heights_lift f_Heights_staying f_Heights_told f_Heights_price X_PurseError e0 e1 e2 e3 f_law_pot f_law : Addr} (X : K.In h) (G : h.Ns mainGlobals mg) (hfa : mg "law" = some (.ref fa))
    (a_is_integer : PySem.W.nsIn K mainGlobals "is_integer" = some (some (.ref f_is_integer))) (b_is_integer : FnIn K "is_integer" "is_integer" s_is_integer f_is_integer)
    (a_check_whole : PySem.W.nsIn K mainGlobals "check_whole" = some (some (.ref f_check_whole))) (b_check_whole : FnIn K "check_whole" "check_whole" s_check_whole f_check_whole)
    (a_whole_list : PySem.W.nsIn K mainGlobals "whole_list" = some (some (.ref f_whole_list))) (b_whole_list : FnIn K "whole_list" "whole_list" s_whole_list f_whole_list)
    (a_check_range : PySem.W.nsIn K mainGlobals "check_range" = some (some (.ref f_check_range))) (b_check_range : FnIn K "check_range" "check_range" s_check_range f_check_range)
    (a_check_least : PySem.W.nsIn K mainGlobals "check_least" = some (some (.ref f_check_least))) (b_check_least : FnIn K "check_least" "check_least" s_check_least f_check_least)
    (a_check_one_or_two : PySem.W.nsIn K mainGlobals "check_one_or_two" = some (some (.ref f_check_one_or_two))) (b_check_one_or_two : FnIn K "check_one_or_two" "check_one_or_two" s_check_one_or_two f_check_one_or_two)
    (a_check_most : PySem.W.nsIn K mainGlobals "check_most" = some (some (.ref f_check_most))) (b_check_most : FnIn K "check_most" "check_most" s_check_most f_check_most)
    (a_as_stands : PySem.W.nsIn K mainGlobals "as_stands" = some (some (.ref f_as_stands))) (b_as_stands : FnIn K "as_stands" "as_stands" s_as_stands f_as_stands)
    (a_row_number : PySem.W.nsIn K mainGlobals "row_number" = some (some (.ref f_row_number))) (b_row_number : FnIn K "row_number" "row_number" s_row_number f_row_number)
    (a_is_due : PySem.W.nsIn K mainGlobals "is_due" = some (some (.ref f_is_due))) (b_is_due : FnIn K "is_due" "is_due" s_is_due f_is_due)
    (a_due_in_range : PySem.W.nsIn K mainGlobals "due_in_range" = some (some (.ref f_due_in_range))) (b_due_in_range : FnIn K "due_in_range" "due_in_range" s_due_in_range f_due_in_range)
    (a_due_too_great : PySem.W.nsIn K mainGlobals "due_too_great" = some (some (.ref f_due_too_great))) (b_due_too_great : FnIn K "due_too_great" "due_too_great" s_due_too_great f_due_too_great)
    (a_check_due : PySem.W.nsIn K mainGlobals "check_due" = some (some (.ref f_check_due))) (b_check_due : FnIn K "check_due" "check_due" s_check_due f_check_due)
    (a_due_at : PySem.W.nsIn K mainGlobals "due_at" = some (some (.ref f_due_at))) (b_due_at : FnIn K "due_at" "due_at" s_due_at f_due_at)
    (a_check_kinds : PySem.W.nsIn K mainGlobals "check_kinds" = some (some (.ref f_check_kinds))) (b_check_kinds : FnIn K "check_kinds" "check_kinds" s_check_kinds f_check_kinds)
    (a_check_steps : PySem.W.nsIn K mainGlobals "check_steps" = some (some (.ref f_check_steps))) (b_check_steps : FnIn K "check_steps" "check_steps" s_check_steps f_check_steps)
    (a_check_parts : PySem.W.nsIn K mainGlobals "check_parts" = some (some (.ref f_check_parts))) (b_check_parts : FnIn K "check_parts" "check_parts" s_check_parts f_check_parts)
    (a_check_plain : PySem.W.nsIn K mainGlobals "check_plain" = some (some (.ref f_check_plain))) (b_check_plain : FnIn K "check_plain" "check_plain" s_check_plain f_check_plain)
    (a_check_web : PySem.W.nsIn K mainGlobals "check_web" = some (some (.ref f_check_web))) (b_check_web : FnIn K "check_web" "check_web" s_check_web f_check_web)
    (a_half_of : PySem.W.nsIn K mainGlobals "half_of" = some (some (.ref f_half_of))) (b_half_of : FnIn K "half_of" "half_of" s_half_of f_half_of)
    (a_dues_at : PySem.W.nsIn K mainGlobals "dues_at" = some (some (.ref f_dues_at))) (b_dues_at : FnIn K "dues_at" "dues_at" s_dues_at f_dues_at)
    (a_bits_of : PySem.W.nsIn K mainGlobals "bits_of" = some (some (.ref f_bits_of))) (b_bits_of : FnIn K "bits_of" "bits_of" s_bits_of f_bits_of)
    (a_stands_of : PySem.W.nsIn K mainGlobals "stands_of" = some (some (.ref f_stands_of))) (b_stands_of : FnIn K "stands_of" "stands_of" s_stands_of f_stands_of)
    (a_lift_once : PySem.W.nsIn K mainGlobals "lift_once" = some (some (.ref f_lift_once))) (b_lift_once : FnIn K "lift_once" "lift_once" s_lift_once f_lift_once)
    (a_numbers_at : PySem.W.nsIn K mainGlobals "numbers_at" = some (some (.ref f_numbers_at))) (b_numbers_at : FnIn K "numbers_at" "numbers_at" s_numbers_at f_numbers_at)
    (a_check_chips : PySem.W.nsIn K mainGlobals "check_chips" = some (some (.ref f_check_chips))) (b_check_chips : FnIn K "check_chips" "check_chips" s_check_chips f_check_chips)
    (a_number_row : PySem.W.nsIn K mainGlobals "number_row" = some (some (.ref f_number_row))) (b_number_row : FnIn K "number_row" "number_row" s_number_row f_number_row)
    (a_law_draw : PySem.W.nsIn K mainGlobals "_law_draw" = some (some (.ref f_law_draw))) (b_law_draw : FnIn K "_law_draw" "_law_draw" s_law_draw f_law_draw)
    (a_law_whole : PySem.W.nsIn K mainGlobals "_law_whole" = some (some (.ref f_law_whole))) (b_law_whole : FnIn K "_law_whole" "_law_whole" s_law_whole f_law_whole)
    (a_law_is_row : PySem.W.nsIn K mainGlobals "_law_is_row" = some (some (.ref f_law_is_row))) (b_law_is_row : FnIn K "_law_is_row" "_law_is_row" s_law_is_row f_law_is_row)
    (a_law_due_at : PySem.W.nsIn K mainGlobals "_law_due_at" = some (some (.ref f_law_due_at))) (b_law_due_at : FnIn K "_law_due_at" "_law_due_at" s_law_due_at f_law_due_at)
    (a_law_half : PySem.W.nsIn K mainGlobals "_law_half" = some (some (.ref f_law_half))) (b_law_half : FnIn K "_law_half" "_law_half" s_law_half f_law_half)
    (a_law_low : PySem.W.nsIn K mainGlobals "_law_low" = some (some (.ref f_law_low))) (b_law_low : FnIn K "_law_low" "_law_low" s_law_low f_law_low)
    (a_law_high : PySem.W.nsIn K mainGlobals "_law_high" = some (some (.ref f_law_high))) (b_law_high : FnIn K "_law_high" "_law_high" s_law_high f_law_high)
    (a_law_price : PySem.W.nsIn K mainGlobals "_law_price" = some (some (.ref f_law_price))) (b_law_price : FnIn K "_law_price" "_law_price" s_law_price f_law_price)
    (a_law_fall : PySem.W.nsIn K mainGlobals "_law_fall" = some (some (.ref f_law_fall))) (b_law_fall : FnIn K "_law_fall" "_law_fall" s_law_fall f_law_fall)
    (a_law_true_row : PySem.W.nsIn K mainGlobals "_law_true_row" = some (some (.ref f_law_true_row))) (b_law_true_row : FnIn K "_law_true_row" "_law_true_row" s_law_true_row f_law_true_row)
    (a_law_line : PySem.W.nsIn K mainGlobals "_law_line" = some (some (.ref f_law_line))) (b_law_line : FnIn K "_law_line" "_law_line" s_law_line f_law_line)
    (a_law_distance : PySem.W.nsIn K mainGlobals "_law_distance" = some (some (.ref f_law_distance))) (b_law_distance : FnIn K "_law_distance" "_law_distance" s_law_distance f_law_distance)
    (a_law_numbers_right : PySem.W.nsIn K mainGlobals "_law_numbers_right" = some (some (.ref f_law_numbers_right))) (b_law_numbers_right : FnIn K "_law_numbers_right" "_law_numbers_right" s_law_numbers_right f_law_numbers_right)
    (a_law_refusal : PySem.W.nsIn K mainGlobals "_law_refusal" = some (some (.ref f_law_refusal))) (b_law_refusal : FnIn K "_law_refusal" "_law_refusal" s_law_refusal f_law_refusal)
    (a_law_refused : PySem.W.nsIn K mainGlobals "_law_refused" = some (some (.ref f_law_refused))) (b_law_refused : FnIn K "_law_refused" "_law_refused" s_law_refused f_law_refused)
    (a_Web : PySem.W.nsIn K mainGlobals "Web" = some (some (.ref C_Web)))
    (i_Web : PySem.W.findIn K (.ref C_Web) "__init__" = some (some (.ref f_Web_init))) (j_Web : PySem.W.isFn K (.ref f_Web_init) = true) (b_Web_init : FnIn K "__init__" "Web.__init__" s_Web_init f_Web_init) (q_Web : PySem.W.makesIn K C_Web = true) (k_Web : PySem.W.keepIn K (.ref C_Web) = true) (g_Web : ClsF K C_Web)
    (a_Heights : PySem.W.nsIn K mainGlobals "Heights" = some (some (.ref C_Heights)))
    (i_Heights : PySem.W.findIn K (.ref C_Heights) "__init__" = some (some (.ref f_Heights_init))) (j_Heights : PySem.W.isFn K (.ref f_Heights_init) = true) (b_Heights_init : FnIn K "__init__" "Heights.__init__" s_Heights_init f_Heights_init) (q_Heights : PySem.W.makesIn K C_Heights = true) (k_Heights : PySem.W.keepIn K (.ref C_Heights) = true) (g_Heights : ClsF K C_Heights)
    (t_Web_dues : PropOf K C_Web "dues" p_Web_dues f_Web_dues) (b_Web_dues : FnIn K "dues" "Web.dues" s_Web_dues f_Web_dues)
    (t_Web_first : PropOf K C_Web "first" p_Web_first f_Web_first) (b_Web_first : FnIn K "first" "Web.first" s_Web_first f_Web_first)
    (t_Web_marks : PropOf K C_Web "marks" p_Web_marks f_Web_marks) (b_Web_marks : FnIn K "marks" "Web.marks" s_Web_marks f_Web_marks)
    (t_Web_moving : PropOf K C_Web "moving" p_Web_moving f_Web_moving) (b_Web_moving : FnIn K "moving" "Web.moving" s_Web_moving f_Web_moving)
    (t_Web_second : PropOf K C_Web "second" p_Web_second f_Web_second) (b_Web_second : FnIn K "second" "Web.second" s_Web_second f_Web_second)
    (t_Web_size : PropOf K C_Web "size" p_Web_size f_Web_size) (b_Web_size : FnIn K "size" "Web.size" s_Web_size f_Web_size)
    (cm_Web_line : ClX.CMet K C_Web (.type "type") "line" pm_Web_line f_Web_line) (b_Web_line : FnDIn K "line" "Web.line" s_Web_line (V.int 1) f_Web_line)
    (cr_Web : ClX.CRead K C_Web (.type "type"))
    (x_Heightsleading_to : PySem.W.findIn K (.ref C_Heights) "_leading_to" = some (some (.ref f_Heightsleading_to))) (y_Heightsleading_to : PySem.W.isFn K (.ref f_Heightsleading_to) = true) (b_Heightsleading_to : FnIn K "_leading_to" "Heights._leading_to" K50.s_Heightsleading_to f_Heightsleading_to)
    (x_Heightsleavers : PySem.W.findIn K (.ref C_Heights) "_leavers" = some (some (.ref f_Heightsleavers))) (y_Heightsleavers : PySem.W.isFn K (.ref f_Heightsleavers) = true) (b_Heightsleavers : FnIn K "_leavers" "Heights._leavers" K50.s_Heightsleavers f_Heightsleavers)
    (x_Heightslook : PySem.W.findIn K (.ref C_Heights) "_look" = some (some (.ref f_Heightslook))) (y_Heightslook : PySem.W.isFn K (.ref f_Heightslook) = true) (b_Heightslook : FnIn K "_look" "Heights._look" K50.s_Heightslook f_Heightslook)
    (x_Heightsraised_price : PySem.W.findIn K (.ref C_Heights) "_raised_price" = some (some (.ref f_Heightsraised_price))) (y_Heightsraised_price : PySem.W.isFn K (.ref f_Heightsraised_price) = true) (b_Heightsraised_price : FnIn K "_raised_price" "Heights._raised_price" K50.s_Heightsraised_price f_Heightsraised_price)
    (x_Heights_below : PySem.W.findIn K (.ref C_Heights) "below" = some (some (.ref f_Heights_below))) (y_Heights_below : PySem.W.isFn K (.ref f_Heights_below) = true) (b_Heights_below : FnIn K "below" "Heights.below" K50.s_Heights_below f_Heights_below)
    (x_Heights_leaving : PySem.W.findIn K (.ref C_Heights) "leaving" = some (some (.ref f_Heights_leaving))) (y_Heights_leaving : PySem.W.isFn K (.ref f_Heights_leaving) = true) (b_Heights_leaving : FnDIn K "leaving" "Heights.leaving" K50.s_Heights_leaving (V.int 0) f_Heights_leaving)
    (x_Heights_lift : PySem.W.findIn K (.ref C_Heights) "lift" = some (some (.ref f_Heights_lift))) (y_Heights_lift : PySem.W.isFn K (.ref f_Heights_lift) = true) (b_Heights_lift : FnIn K "lift" "Heights.lift" K50.s_Heights_lift f_Heights_lift)
    (x_Heights_staying : PySem.W.findIn K (.ref C_Heights) "staying" = some (some (.ref f_Heights_staying))) (y_Heights_staying : PySem.W.isFn K (.ref f_Heights_staying) = true) (b_Heights_staying : FnIn K "staying" "Heights.staying" K50.s_Heights_staying f_Heights_staying)
    (x_Heights_told : PySem.W.findIn K (.ref C_Heights) "told" = some (some (.ref f_Heights_told))) (y_Heights_told : PySem.W.isFn K (.ref f_Heights_told) = true) (b_Heights_told : FnIn K "told" "Heights.told" K50.s_Heights_told f_Heights_told)
    (x_Heights_price : PySem.W.findIn K (.ref C_Heights) "price" = some (some (.ref f_Heights_price))) (y_Heights_price : PySem.W.isFn K (.ref f_Heights_price) = true) (b_Heights_price : FnIn K "price" "Heights.price" K50.s_Heights_price f_Heights_price)
    (aX_PurseError : PySem.W.nsIn K mainGlobals "PurseError" = some (some (.ref X_PurseError)))
    (n_Heights__before : PySem.W.findIn K (.ref C_Heights) "_before" = some none)
    (n_Heights__firsts : PySem.W.findIn K (.ref C_Heights) "_firsts" = some none)
    (n_Heights__high_stands : PySem.W.findIn K (.ref C_Heights) "_high_stands" = some none)
    (n_Heights__highs : PySem.W.findIn K (.ref C_Heights) "_highs" = some none)
    (n_Heights__low_stands : PySem.W.findIn K (.ref C_Heights) "_low_stands" = some none)
    (n_Heights__lows : PySem.W.findIn K (.ref C_Heights) "_lows" = some none)
    (n_Heights__marks : PySem.W.findIn K (.ref C_Heights) "_marks" = some none)
    (n_Heights__moving : PySem.W.findIn K (.ref C_Heights) "_moving" = some none)
    (n_Heights__row : PySem.W.findIn K (.ref C_Heights) "_row" = some none)
    (n_Heights__seconds : PySem.W.findIn K (.ref C_Heights) "_seconds" = some none)
    (n_Web__dues : PySem.W.findIn K (.ref C_Web) "_dues" = some none)
    (n_Web__ends : PySem.W.findIn K (.ref C_Web) "_ends" = some none)
    (n_Web__even : PySem.W.findIn K (.ref C_Web) "_even" = some none)
    (n_Web__first : PySem.W.findIn K (.ref C_Web) "_first" = some none)
    (n_Web__greatest_due : PySem.W.findIn K (.ref C_Web) "_greatest_due" = some none)
    (n_Web__marks : PySem.W.findIn K (.ref C_Web) "_marks" = some none)
    (n_Web__moving : PySem.W.findIn K (.ref C_Web) "_moving" = some none)
    (n_Web__second : PySem.W.findIn K (.ref C_Web) "_second" = some none)
    (n_Web__size : PySem.W.findIn K (.ref C_Web) "_size" = some none)
    (v_GREATEST : ∃ t, PySem.W.nsIn K mainGlobals "GREATEST" = some (some (.int 10000000000000000000000000000000000000000 t)))
    (v_LONGEST_LINE : ∃ t, PySem.W.nsIn K mainGlobals "LONGEST_LINE" = some (some (.int 40 t)))
    (v_MOST_STANDS : ∃ t, PySem.W.nsIn K mainGlobals "MOST_STANDS" = some (some (.int 60 t)))
    (v_MOST_CHIPS : ∃ t, PySem.W.nsIn K mainGlobals "MOST_CHIPS" = some (some (.int 5000 t)))
    (z_bool : PySem.W.nsIn K mainGlobals "bool" = some none)
    (z_enumerate : PySem.W.nsIn K mainGlobals "enumerate" = some none)
    (z_int : PySem.W.nsIn K mainGlobals "int" = some none)
    (z_isinstance : PySem.W.nsIn K mainGlobals "isinstance" = some none)
    (z_len : PySem.W.nsIn K mainGlobals "len" = some none)
    (z_list : PySem.W.nsIn K mainGlobals "list" = some none)
    (z_max : PySem.W.nsIn K mainGlobals "max" = some none)
    (z_min : PySem.W.nsIn K mainGlobals "min" = some none)
    (z_range : PySem.W.nsIn K mainGlobals "range" = some none)
    (z_set : PySem.W.nsIn K mainGlobals "set" = some none)
    (z_sorted : PySem.W.nsIn K mainGlobals "sorted" = some none)
    (z_str : PySem.W.nsIn K mainGlobals "str" = some none)
    (z_sum : PySem.W.nsIn K mainGlobals "sum" = some none)
    (z_tuple : PySem.W.nsIn K mainGlobals "tuple" = some none)
    (eA0 : PySem.W.nsIn K mainGlobals "WrongKind" = some (some (.ref e0))) (eX0 : PySem.W.excIn K e0 [.type "Exception", .type "BaseException", .type "object"] "Exception.__new__" = true) (eK0 : PySem.W.keepIn K (.ref e0) = true) (eB0 : PySem.W.subIn K (.ref e0) (.type "BaseException") = some true) (eT0 : PySem.W.typeIn K (.ref e0) = some (.type "type"))
    (eA1 : PySem.W.nsIn K mainGlobals "WrongNumber" = some (some (.ref e1))) (eX1 : PySem.W.excIn K e1 [.type "Exception", .type "BaseException", .type "object"] "Exception.__new__" = true) (eK1 : PySem.W.keepIn K (.ref e1) = true) (eB1 : PySem.W.subIn K (.ref e1) (.type "BaseException") = some true) (eT1 : PySem.W.typeIn K (.ref e1) = some (.type "type"))
    (eA2 : PySem.W.nsIn K mainGlobals "WrongWeb" = some (some (.ref e2))) (eX2 : PySem.W.excIn K e2 [.type "Exception", .type "BaseException", .type "object"] "Exception.__new__" = true) (eK2 : PySem.W.keepIn K (.ref e2) = true) (eB2 : PySem.W.subIn K (.ref e2) (.type "BaseException") = some true) (eT2 : PySem.W.typeIn K (.ref e2) = some (.type "type"))
    (eA3 : PySem.W.nsIn K mainGlobals "TooMuch" = some (some (.ref e3))) (eX3 : PySem.W.excIn K e3 [.type "Exception", .type "BaseException", .type "object"] "Exception.__new__" = true) (eK3 : PySem.W.keepIn K (.ref e3) = true) (eB3 : PySem.W.subIn K (.ref e3) (.type "BaseException") = some true) (eT3 : PySem.W.typeIn K (.ref e3) = some (.type "type"))
    (ap00 : PySem.W.exmOne K (.ref e0) (.ref e0) = some true)
    (ap01 : PySem.W.exmOne K (.ref e0) (.ref e1) = some false)
    (ap02 : PySem.W.exmOne K (.ref e0) (.ref e2) = some false)
    (ap03 : PySem.W.exmOne K (.ref e0) (.ref e3) = some false)
    (ap10 : PySem.W.exmOne K (.ref e1) (.ref e0) = some false)
    (ap11 : PySem.W.exmOne K (.ref e1) (.ref e1) = some true)
    (ap12 : PySem.W.exmOne K (.ref e1) (.ref e2) = some false)
    (ap13 : PySem.W.exmOne K (.ref e1) (.ref e3) = some false)
    (ap20 : PySem.W.exmOne K (.ref e2) (.ref e0) = some false)
    (ap21 : PySem.W.exmOne K (.ref e2) (.ref e1) = some false)
    (ap22 : PySem.W.exmOne K (.ref e2) (.ref e2) = some true)
    (ap23 : PySem.W.exmOne K (.ref e2) (.ref e3) = some false)
    (ap30 : PySem.W.exmOne K (.ref e3) (.ref e0) = some false)
    (ap31 : PySem.W.exmOne K (.ref e3) (.ref e1) = some false)
    (ap32 : PySem.W.exmOne K (.ref e3) (.ref e2) = some false)
    (ap33 : PySem.W.exmOne K (.ref e3) (.ref e3) = some true)
    (a_law_pot : PySem.W.nsIn K mainGlobals "_law_pot" = some (some (.ref f_law_pot)))
    (a_law : PySem.W.nsIn K mainGlobals "law" = some (some (.ref f_law)))
    (b_law_pot : FnIn K "_law_pot" "_law_pot" s_law_pot f_law_pot)
    {oc : Value} {od an : Option Addr} {osl : Array (Option Value)} {kV doc pm cdv ct : Value} (l_law : K.lookup f_law = some ⟨oc, od, .func (PySem.W.fnOf "law" "law" (defArgs s_law) (defBody s_law) (defScope s_law) .none kV doc pm an cdv ct), osl⟩) (c_law : PySem.W.codeIn K cdv "law" = true) (k_law : PySem.W.keepIn K (.ref f_law) = true) :
    ∃ fd : FuncData, (∀ (s : Shared) (v : Value), BindsTo s fd ⟨[v], []⟩ [("_law_script", v)]) ∧ ∀ base : Heap, K.In base → base.Ns mainGlobals mg → FnOk l.prog w K mg base (L2.CX l.prog w) 14 fa fd ["_law_script"] (spLaw K) := by
  have e := hfa.symm.trans (PySem.W.mg_of X G a_law)
  cases e
  obtain ⟨fd_is_integer, F_is_integer⟩ := b_is_integer
  obtain ⟨fd_check_whole, F_check_whole⟩ := b_check_whole
  obtain ⟨fd_whole_list, F_whole_list⟩ := b_whole_list
  obtain ⟨fd_check_range, F_check_range⟩ := b_check_range
  obtain ⟨fd_check_least, F_check_least⟩ := b_check_least
  obtain ⟨fd_check_one_or_two, F_check_one_or_two⟩ := b_check_one_or_two
  obtain ⟨fd_check_most, F_check_most⟩ := b_check_most
  obtain ⟨fd_as_stands, F_as_stands⟩ := b_as_stands
  obtain ⟨fd_row_number, F_row_number⟩ := b_row_number
  obtain ⟨fd_is_due, F_is_due⟩ := b_is_due
  obtain ⟨fd_due_in_range, F_due_in_range⟩ := b_due_in_range
  obtain ⟨fd_due_too_great, F_due_too_great⟩ := b_due_too_great
  obtain ⟨fd_check_due, F_check_due⟩ := b_check_due
  obtain ⟨fd_due_at, F_due_at⟩ := b_due_at
  obtain ⟨fd_check_kinds, F_check_kinds⟩ := b_check_kinds
  obtain ⟨fd_check_steps, F_check_steps⟩ := b_check_steps
  obtain ⟨fd_check_parts, F_check_parts⟩ := b_check_parts
  obtain ⟨fd_check_plain, F_check_plain⟩ := b_check_plain
  obtain ⟨fd_check_web, F_check_web⟩ := b_check_web
  obtain ⟨fd_half_of, F_half_of⟩ := b_half_of
  obtain ⟨fd_dues_at, F_dues_at⟩ := b_dues_at
  obtain ⟨fd_bits_of, F_bits_of⟩ := b_bits_of
  obtain ⟨fd_stands_of, F_stands_of⟩ := b_stands_of
  obtain ⟨fd_lift_once, F_lift_once⟩ := b_lift_once
  obtain ⟨fd_numbers_at, F_numbers_at⟩ := b_numbers_at
  obtain ⟨fd_check_chips, F_check_chips⟩ := b_check_chips
  obtain ⟨fd_number_row, F_number_row⟩ := b_number_row
  obtain ⟨fd_law_draw, F_law_draw⟩ := b_law_draw
  obtain ⟨fd_law_whole, F_law_whole⟩ := b_law_whole
  obtain ⟨fd_law_is_row, F_law_is_row⟩ := b_law_is_row
  obtain ⟨fd_law_due_at, F_law_due_at⟩ := b_law_due_at
  obtain ⟨fd_law_half, F_law_half⟩ := b_law_half
  obtain ⟨fd_law_low, F_law_low⟩ := b_law_low
  obtain ⟨fd_law_high, F_law_high⟩ := b_law_high
  obtain ⟨fd_law_price, F_law_price⟩ := b_law_price
  obtain ⟨fd_law_fall, F_law_fall⟩ := b_law_fall
  obtain ⟨fd_law_true_row, F_law_true_row⟩ := b_law_true_row
  obtain ⟨fd_law_line, F_law_line⟩ := b_law_line
  obtain ⟨fd_law_distance, F_law_distance⟩ := b_law_distance
  obtain ⟨fd_law_numbers_right, F_law_numbers_right⟩ := b_law_numbers_right
  obtain ⟨fd_law_refusal, F_law_refusal⟩ := b_law_refusal
  obtain ⟨fd_law_refused, F_law_refused⟩ := b_law_refused
  obtain ⟨fd_Web_init, F_Web_init⟩ := b_Web_init
  obtain ⟨fd_Heights_init, F_Heights_init⟩ := b_Heights_init
  obtain ⟨fd_Web_dues, F_Web_dues⟩ := b_Web_dues
  obtain ⟨fd_Web_first, F_Web_first⟩ := b_Web_first
  obtain ⟨fd_Web_marks, F_Web_marks⟩ := b_Web_marks
  obtain ⟨fd_Web_moving, F_Web_moving⟩ := b_Web_moving
  obtain ⟨fd_Web_second, F_Web_second⟩ := b_Web_second
  obtain ⟨fd_Web_size, F_Web_size⟩ := b_Web_size
  obtain ⟨fd_Web_line, F_Web_line⟩ := b_Web_line
  obtain ⟨fd_Heightsleading_to, F_Heightsleading_to⟩ := b_Heightsleading_to
  obtain ⟨fd_Heightsleavers, F_Heightsleavers⟩ := b_Heightsleavers
  obtain ⟨fd_Heightslook, F_Heightslook⟩ := b_Heightslook
  obtain ⟨fd_Heightsraised_price, F_Heightsraised_price⟩ := b_Heightsraised_price
  obtain ⟨fd_Heights_below, F_Heights_below⟩ := b_Heights_below
  obtain ⟨fd_Heights_leaving, F_Heights_leaving⟩ := b_Heights_leaving
  obtain ⟨fd_Heights_lift, F_Heights_lift⟩ := b_Heights_lift
  obtain ⟨fd_Heights_staying, F_Heights_staying⟩ := b_Heights_staying
  obtain ⟨fd_Heights_told, F_Heights_told⟩ := b_Heights_told
  obtain ⟨fd_Heights_price, F_Heights_price⟩ := b_Heights_price
  obtain ⟨fd_law_pot, F_law_pot⟩ := b_law_pot
  have F_law := fun_mk (st := s_law) l_law c_law k_law
  let ec : Nat → Addr := fun n => match n with
    | 0 => e0
    | 1 => e1
    | 2 => e2
    | 3 => e3
    | _ => e0
  have apart : ∀ p, Apart (potCfg K p ec) := fun p => fun n m hn hm => match n, m, hn, hm with
    | 0, 0, _, _ => ap00
    | 0, 1, _, _ => ap01
    | 0, 2, _, _ => ap02
    | 0, 3, _, _ => ap03
    | 1, 0, _, _ => ap10
    | 1, 1, _, _ => ap11
    | 1, 2, _, _ => ap12
    | 1, 3, _, _ => ap13
    | 2, 0, _, _ => ap20
    | 2, 1, _, _ => ap21
    | 2, 2, _, _ => ap22
    | 2, 3, _, _ => ap23
    | 3, 0, _, _ => ap30
    | 3, 1, _, _ => ap31
    | 3, 2, _, _ => ap32
    | 3, 3, _, _ => ap33
    | n + 4, _, h, _ => absurd h (by omega)
    | 0, m + 4, _, h => absurd h (by omega)
    | 1, m + 4, _, h => absurd h (by omega)
    | 2, m + 4, _, h => absurd h (by omega)
    | 3, m + 4, _, h => absurd h (by omega)
  let A : Adr := { is_integer := f_is_integer, fd_is_integer := fd_is_integer, check_whole := f_check_whole, fd_check_whole := fd_check_whole, whole_list := f_whole_list, fd_whole_list := fd_whole_list, check_range := f_check_range, fd_check_range := fd_check_range, check_least := f_check_least, fd_check_least := fd_check_least, check_one_or_two := f_check_one_or_two, fd_check_one_or_two := fd_check_one_or_two, check_most := f_check_most, fd_check_most := fd_check_most, as_stands := f_as_stands, fd_as_stands := fd_as_stands, row_number := f_row_number, fd_row_number := fd_row_number, is_due := f_is_due, fd_is_due := fd_is_due, due_in_range := f_due_in_range, fd_due_in_range := fd_due_in_range, due_too_great := f_due_too_great, fd_due_too_great := fd_due_too_great, check_due := f_check_due, fd_check_due := fd_check_due, due_at := f_due_at, fd_due_at := fd_due_at, check_kinds := f_check_kinds, fd_check_kinds := fd_check_kinds, check_steps := f_check_steps, fd_check_steps := fd_check_steps, check_parts := f_check_parts, fd_check_parts := fd_check_parts, check_plain := f_check_plain, fd_check_plain := fd_check_plain, check_web := f_check_web, fd_check_web := fd_check_web, half_of := f_half_of, fd_half_of := fd_half_of, dues_at := f_dues_at, fd_dues_at := fd_dues_at, bits_of := f_bits_of, fd_bits_of := fd_bits_of, stands_of := f_stands_of, fd_stands_of := fd_stands_of, lift_once := f_lift_once, fd_lift_once := fd_lift_once, numbers_at := f_numbers_at, fd_numbers_at := fd_numbers_at, check_chips := f_check_chips, fd_check_chips := fd_check_chips, number_row := f_number_row, fd_number_row := fd_number_row, law_draw := f_law_draw, fd_law_draw := fd_law_draw, law_whole := f_law_whole, fd_law_whole := fd_law_whole, law_is_row := f_law_is_row, fd_law_is_row := fd_law_is_row, law_due_at := f_law_due_at, fd_law_due_at := fd_law_due_at, law_half := f_law_half, fd_law_half := fd_law_half, law_low := f_law_low, fd_law_low := fd_law_low, law_high := f_law_high, fd_law_high := fd_law_high, law_price := f_law_price, fd_law_price := fd_law_price, law_fall := f_law_fall, fd_law_fall := fd_law_fall, law_true_row := f_law_true_row, fd_law_true_row := fd_law_true_row, law_line := f_law_line, fd_law_line := fd_law_line, law_distance := f_law_distance, fd_law_distance := fd_law_distance, law_numbers_right := f_law_numbers_right, fd_law_numbers_right := fd_law_numbers_right, law_refusal := f_law_refusal, fd_law_refusal := fd_law_refusal, law_refused := f_law_refused, fd_law_refused := fd_law_refused, Web_init := f_Web_init, fd_Web_init := fd_Web_init, Heights_init := f_Heights_init, fd_Heights_init := fd_Heights_init, Web_dues := f_Web_dues, fd_Web_dues := fd_Web_dues, pr_Web_dues := p_Web_dues, Web_first := f_Web_first, fd_Web_first := fd_Web_first, pr_Web_first := p_Web_first, Web_marks := f_Web_marks, fd_Web_marks := fd_Web_marks, pr_Web_marks := p_Web_marks, Web_moving := f_Web_moving, fd_Web_moving := fd_Web_moving, pr_Web_moving := p_Web_moving, Web_second := f_Web_second, fd_Web_second := fd_Web_second, pr_Web_second := p_Web_second, Web_size := f_Web_size, fd_Web_size := fd_Web_size, pr_Web_size := p_Web_size, Web_line := f_Web_line, fd_Web_line := fd_Web_line, pm_Web_line := pm_Web_line, Heightsleading_to := f_Heightsleading_to, fd_Heightsleading_to := fd_Heightsleading_to, Heightsleavers := f_Heightsleavers, fd_Heightsleavers := fd_Heightsleavers, Heightslook := f_Heightslook, fd_Heightslook := fd_Heightslook, Heightsraised_price := f_Heightsraised_price, fd_Heightsraised_price := fd_Heightsraised_price, Heights_below := f_Heights_below, fd_Heights_below := fd_Heights_below, Heights_leaving := f_Heights_leaving, fd_Heights_leaving := fd_Heights_leaving, Heights_lift := f_Heights_lift, fd_Heights_lift := fd_Heights_lift, Heights_staying := f_Heights_staying, fd_Heights_staying := fd_Heights_staying, Heights_told := f_Heights_told, fd_Heights_told := fd_Heights_told, Heights_price := f_Heights_price, fd_Heights_price := fd_Heights_price, x_PurseError := X_PurseError, ca := { Web := C_Web, Heights := C_Heights, Verdict := 0, Paper := 0, Plan := 0, FirstPlan := 0, SecondPlan := 0, Play := 0, Share := 0, Table := 0, TokenPlan := 0 } }
  have T : ∀ p, Txt (potCfg K p ec) mg A := fun p => { pl := potCfg_pot K p ec, F_is_integer := F_is_integer, m_is_integer := PySem.W.mg_of X G a_is_integer, F_check_whole := F_check_whole, m_check_whole := PySem.W.mg_of X G a_check_whole, F_whole_list := F_whole_list, m_whole_list := PySem.W.mg_of X G a_whole_list, F_check_range := F_check_range, m_check_range := PySem.W.mg_of X G a_check_range, F_check_least := F_check_least, m_check_least := PySem.W.mg_of X G a_check_least, F_check_one_or_two := F_check_one_or_two, m_check_one_or_two := PySem.W.mg_of X G a_check_one_or_two, F_check_most := F_check_most, m_check_most := PySem.W.mg_of X G a_check_most, F_as_stands := F_as_stands, m_as_stands := PySem.W.mg_of X G a_as_stands, F_row_number := F_row_number, m_row_number := PySem.W.mg_of X G a_row_number, F_is_due := F_is_due, m_is_due := PySem.W.mg_of X G a_is_due, F_due_in_range := F_due_in_range, m_due_in_range := PySem.W.mg_of X G a_due_in_range, F_due_too_great := F_due_too_great, m_due_too_great := PySem.W.mg_of X G a_due_too_great, F_check_due := F_check_due, m_check_due := PySem.W.mg_of X G a_check_due, F_due_at := F_due_at, m_due_at := PySem.W.mg_of X G a_due_at, F_check_kinds := F_check_kinds, m_check_kinds := PySem.W.mg_of X G a_check_kinds, F_check_steps := F_check_steps, m_check_steps := PySem.W.mg_of X G a_check_steps, F_check_parts := F_check_parts, m_check_parts := PySem.W.mg_of X G a_check_parts, F_check_plain := F_check_plain, m_check_plain := PySem.W.mg_of X G a_check_plain, F_check_web := F_check_web, m_check_web := PySem.W.mg_of X G a_check_web, F_half_of := F_half_of, m_half_of := PySem.W.mg_of X G a_half_of, F_dues_at := F_dues_at, m_dues_at := PySem.W.mg_of X G a_dues_at, F_bits_of := F_bits_of, m_bits_of := PySem.W.mg_of X G a_bits_of, F_stands_of := F_stands_of, m_stands_of := PySem.W.mg_of X G a_stands_of, F_lift_once := F_lift_once, m_lift_once := PySem.W.mg_of X G a_lift_once, F_numbers_at := F_numbers_at, m_numbers_at := PySem.W.mg_of X G a_numbers_at, F_check_chips := F_check_chips, m_check_chips := PySem.W.mg_of X G a_check_chips, F_number_row := F_number_row, m_number_row := PySem.W.mg_of X G a_number_row, F_law_draw := F_law_draw, m_law_draw := PySem.W.mg_of X G a_law_draw, F_law_whole := F_law_whole, m_law_whole := PySem.W.mg_of X G a_law_whole, F_law_is_row := F_law_is_row, m_law_is_row := PySem.W.mg_of X G a_law_is_row, F_law_due_at := F_law_due_at, m_law_due_at := PySem.W.mg_of X G a_law_due_at, F_law_half := F_law_half, m_law_half := PySem.W.mg_of X G a_law_half, F_law_low := F_law_low, m_law_low := PySem.W.mg_of X G a_law_low, F_law_high := F_law_high, m_law_high := PySem.W.mg_of X G a_law_high, F_law_price := F_law_price, m_law_price := PySem.W.mg_of X G a_law_price, F_law_fall := F_law_fall, m_law_fall := PySem.W.mg_of X G a_law_fall, F_law_true_row := F_law_true_row, m_law_true_row := PySem.W.mg_of X G a_law_true_row, F_law_line := F_law_line, m_law_line := PySem.W.mg_of X G a_law_line, F_law_distance := F_law_distance, m_law_distance := PySem.W.mg_of X G a_law_distance, F_law_numbers_right := F_law_numbers_right, m_law_numbers_right := PySem.W.mg_of X G a_law_numbers_right, F_law_refusal := F_law_refusal, m_law_refusal := PySem.W.mg_of X G a_law_refusal, F_law_refused := F_law_refused, m_law_refused := PySem.W.mg_of X G a_law_refused, F_Web_init := F_Web_init, m_Web := PySem.W.mg_of X G a_Web, f_Web := g_Web, mk_Web := ⟨q_Web, i_Web, j_Web, k_Web⟩, F_Heights_init := F_Heights_init, m_Heights := PySem.W.mg_of X G a_Heights, f_Heights := g_Heights, mk_Heights := ⟨q_Heights, i_Heights, j_Heights, k_Heights⟩, F_Web_dues := F_Web_dues, p_Web_dues := t_Web_dues, F_Web_first := F_Web_first, p_Web_first := t_Web_first, F_Web_marks := F_Web_marks, p_Web_marks := t_Web_marks, F_Web_moving := F_Web_moving, p_Web_moving := t_Web_moving, F_Web_second := F_Web_second, p_Web_second := t_Web_second, F_Web_size := F_Web_size, p_Web_size := t_Web_size, F_Web_line := F_Web_line, cm_Web_line := cm_Web_line, cr_Web := cr_Web, F_Heightsleading_to := F_Heightsleading_to, sp_Heightsleading_to := x_Heightsleading_to, fn_Heightsleading_to := y_Heightsleading_to, F_Heightsleavers := F_Heightsleavers, sp_Heightsleavers := x_Heightsleavers, fn_Heightsleavers := y_Heightsleavers, F_Heightslook := F_Heightslook, sp_Heightslook := x_Heightslook, fn_Heightslook := y_Heightslook, F_Heightsraised_price := F_Heightsraised_price, sp_Heightsraised_price := x_Heightsraised_price, fn_Heightsraised_price := y_Heightsraised_price, F_Heights_below := F_Heights_below, sp_Heights_below := x_Heights_below, fn_Heights_below := y_Heights_below, F_Heights_leaving := F_Heights_leaving, sp_Heights_leaving := x_Heights_leaving, fn_Heights_leaving := y_Heights_leaving, F_Heights_lift := F_Heights_lift, sp_Heights_lift := x_Heights_lift, fn_Heights_lift := y_Heights_lift, F_Heights_staying := F_Heights_staying, sp_Heights_staying := x_Heights_staying, fn_Heights_staying := y_Heights_staying, F_Heights_told := F_Heights_told, sp_Heights_told := x_Heights_told, fn_Heights_told := y_Heights_told, F_Heights_price := F_Heights_price, mX_PurseError := PySem.W.mg_of X G aX_PurseError, a_Heights__before := n_Heights__before, a_Heights__firsts := n_Heights__firsts, a_Heights__high_stands := n_Heights__high_stands, a_Heights__highs := n_Heights__highs, a_Heights__low_stands := n_Heights__low_stands, a_Heights__lows := n_Heights__lows, a_Heights__marks := n_Heights__marks, a_Heights__moving := n_Heights__moving, a_Heights__row := n_Heights__row, a_Heights__seconds := n_Heights__seconds, a_Web__dues := n_Web__dues, a_Web__ends := n_Web__ends, a_Web__even := n_Web__even, a_Web__first := n_Web__first, a_Web__greatest_due := n_Web__greatest_due, a_Web__marks := n_Web__marks, a_Web__moving := n_Web__moving, a_Web__second := n_Web__second, a_Web__size := n_Web__size, c_GREATEST := v_GREATEST.imp fun t e => PySem.W.mg_of X G e, c_LONGEST_LINE := v_LONGEST_LINE.imp fun t e => PySem.W.mg_of X G e, c_MOST_STANDS := v_MOST_STANDS.imp fun t e => PySem.W.mg_of X G e, c_MOST_CHIPS := v_MOST_CHIPS.imp fun t e => PySem.W.mg_of X G e, n_bool := PySem.W.mg_none_of X G z_bool, n_enumerate := PySem.W.mg_none_of X G z_enumerate, n_int := PySem.W.mg_none_of X G z_int, n_isinstance := PySem.W.mg_none_of X G z_isinstance, n_len := PySem.W.mg_none_of X G z_len, n_list := PySem.W.mg_none_of X G z_list, n_max := PySem.W.mg_none_of X G z_max, n_min := PySem.W.mg_none_of X G z_min, n_range := PySem.W.mg_none_of X G z_range, n_set := PySem.W.mg_none_of X G z_set, n_sorted := PySem.W.mg_none_of X G z_sorted, n_str := PySem.W.mg_none_of X G z_str, n_sum := PySem.W.mg_none_of X G z_sum, n_tuple := PySem.W.mg_none_of X G z_tuple, mE0 := PySem.W.mg_of X G eA0, xE0 := eX0, kE0 := eK0, bE0 := eB0, tE0 := eT0, mE1 := PySem.W.mg_of X G eA1, xE1 := eX1, kE1 := eK1, bE1 := eB1, tE1 := eT1, mE2 := PySem.W.mg_of X G eA2, xE2 := eX2, kE2 := eK2, bE2 := eB2, tE2 := eT2, mE3 := PySem.W.mg_of X G eA3, xE3 := eX3, kE3 := eK3, bE3 := eB3, tE3 := eT3, apart := apart p }
  exact ⟨PySem.W.fnOf "law" "law" (defArgs s_law) (defBody s_law) (defScope s_law) .none kV doc pm an cdv ct, fun s v => .of_eq rfl, fun base _ _ => ok_law (A := A) (ec := ec) T F_law F_law_pot (PySem.W.mg_of X G a_law_pot)⟩
theorem walk {l : PySem.W.OpenLaw} {q : Program} {loose : List Str} {XP : (Str → Option Value) → Heap → Prop} {YP : World → Heap → Prop} {d : DefRec} {K : Params → PySem.W.Frag} (hn : l.most = some 63) (hdf : d.params.defaults = [])
    (hY : ∀ (w : World) (h : Heap), YP w h → (K w.params).In h)
    (F : ∀ (w : World) (mg : Str → Option Value) (fa : Addr) (h : Heap), (K w.params).In h → h.Ns mainGlobals mg → mg d.name = some (.ref fa) →
      ∃ fd : FuncData, (∀ (s : Shared) (u : Value), BindsTo s fd ⟨[u], []⟩ [("_law_script", u)]) ∧ ∀ base : Heap, (K w.params).In base → base.Ns mainGlobals mg → FnOk l.prog w (K w.params) mg base (L2.CX l.prog w) 14 fa fd ["_law_script"] (spLaw (K w.params))) :
    PySem.W.WalkO q loose XP YP l.row.toRowW d [] (fun f vs => PySem.call f vs) :=
  L2.walk_of (n := 63) (k := 14) (x := "_law_script") (CX := fun w => L2.CX l.prog w) (sp := fun w => spLaw (K w.params)) hn (by decide) hdf ⟨rfl, by decide, by decide⟩ hY F (fun _ _ a ns hl _ hS => ⟨a, ns, rfl, hS, hl, fun _ => rfl⟩) fun w H s e s' z => by
    obtain ⟨_, _, _, _, _, _, _, _, _, _, _, _, h⟩ := z
    exact h
end
end K50
open PySem PySem.W PyProof.Rows
set_option maxRecDepth 100000 in
set_option maxHeartbeats 0 in
theorem PySem.Challenge.cw_pursewebs_k50_line_numbers_in_closed_for_holds : PySem.Challenge.rw_pursewebs_k50_line_numbers_in_closed_for.Holds := by
  w_on; o_law; k_head; (case hw => w_witness2)
  k_fill
  refine K50.walk (l := PySem.Challenge.rw_pursewebs_k50_line_numbers_in_closed_for) rfl rfl (fun w h Y => PySem.W.kIn_of Y) ?F
  case F =>
    intro w mg fa h KX G hmg
    refine' K50.all_mk KX G hmg ?a_is_integer ?b_is_integer ?a_check_whole ?b_check_whole ?a_whole_list ?b_whole_list ?a_check_range ?b_check_range ?a_check_least ?b_check_least ?a_check_one_or_two ?b_check_one_or_two ?a_check_most ?b_check_most ?a_as_stands ?b_as_stands ?a_row_number ?b_row_number ?a_is_due ?b_is_due ?a_due_in_range ?b_due_in_range ?a_due_too_great ?b_due_too_great ?a_check_due ?b_check_due ?a_due_at ?b_due_at ?a_check_kinds ?b_check_kinds ?a_check_steps ?b_check_steps ?a_check_parts ?b_check_parts ?a_check_plain ?b_check_plain ?a_check_web ?b_check_web ?a_half_of ?b_half_of ?a_dues_at ?b_dues_at ?a_bits_of ?b_bits_of ?a_stands_of ?b_stands_of ?a_lift_once ?b_lift_once ?a_numbers_at ?b_numbers_at ?a_check_chips ?b_check_chips ?a_number_row ?b_number_row ?a_law_draw ?b_law_draw ?a_law_whole ?b_law_whole ?a_law_is_row ?b_law_is_row ?a_law_due_at ?b_law_due_at ?a_law_half ?b_law_half ?a_law_low ?b_law_low ?a_law_high ?b_law_high ?a_law_price ?b_law_price ?a_law_fall ?b_law_fall ?a_law_true_row ?b_law_true_row ?a_law_line ?b_law_line ?a_law_distance ?b_law_distance ?a_law_numbers_right ?b_law_numbers_right ?a_law_refusal ?b_law_refusal ?a_law_refused ?b_law_refused ?a_Web ?i_Web ?j_Web ?b_Web_init ?q_Web ?k_Web ?g_Web ?a_Heights ?i_Heights ?j_Heights ?b_Heights_init ?q_Heights ?k_Heights ?g_Heights ?t_Web_dues ?b_Web_dues ?t_Web_first ?b_Web_first ?t_Web_marks ?b_Web_marks ?t_Web_moving ?b_Web_moving ?t_Web_second ?b_Web_second ?t_Web_size ?b_Web_size ?cm_Web_line ?b_Web_line ?cr_Web ?x_Heightsleading_to ?y_Heightsleading_to ?b_Heightsleading_to ?x_Heightsleavers ?y_Heightsleavers ?b_Heightsleavers ?x_Heightslook ?y_Heightslook ?b_Heightslook ?x_Heightsraised_price ?y_Heightsraised_price ?b_Heightsraised_price ?x_Heights_below ?y_Heights_below ?b_Heights_below ?x_Heights_leaving ?y_Heights_leaving ?b_Heights_leaving ?x_Heights_lift ?y_Heights_lift ?b_Heights_lift ?x_Heights_staying ?y_Heights_staying ?b_Heights_staying ?x_Heights_told ?y_Heights_told ?b_Heights_told ?x_Heights_price ?y_Heights_price ?b_Heights_price ?aX_PurseError ?n_Heights__before ?n_Heights__firsts ?n_Heights__high_stands ?n_Heights__highs ?n_Heights__low_stands ?n_Heights__lows ?n_Heights__marks ?n_Heights__moving ?n_Heights__row ?n_Heights__seconds ?n_Web__dues ?n_Web__ends ?n_Web__even ?n_Web__first ?n_Web__greatest_due ?n_Web__marks ?n_Web__moving ?n_Web__second ?n_Web__size ?v_GREATEST ?v_LONGEST_LINE ?v_MOST_STANDS ?v_MOST_CHIPS ?z_bool ?z_enumerate ?z_int ?z_isinstance ?z_len ?z_list ?z_max ?z_min ?z_range ?z_set ?z_sorted ?z_str ?z_sum ?z_tuple ?eA0 ?eX0 ?eK0 ?eB0 ?eT0 ?eA1 ?eX1 ?eK1 ?eB1 ?eT1 ?eA2 ?eX2 ?eK2 ?eB2 ?eT2 ?eA3 ?eX3 ?eK3 ?eB3 ?eT3 ?ap00 ?ap01 ?ap02 ?ap03 ?ap10 ?ap11 ?ap12 ?ap13 ?ap20 ?ap21 ?ap22 ?ap23 ?ap30 ?ap31 ?ap32 ?ap33 ?a_law_pot ?a_law ?b_law_pot ?l_law ?c_law ?k_law
    (case a_is_integer => k_is)
    (case b_is_integer => (refine' FX.fnIn_mk ?l ?c ?k; (case l => k_is); (case c => k_is); (case k => k_is)))
    (case a_check_whole => k_is)
    (case b_check_whole => (refine' FX.fnIn_mk ?l ?c ?k; (case l => k_is); (case c => k_is); (case k => k_is)))
    (case a_whole_list => k_is)
    (case b_whole_list => (refine' FX.fnIn_mk ?l ?c ?k; (case l => k_is); (case c => k_is); (case k => k_is)))
    (case a_check_range => k_is)
    (case b_check_range => (refine' FX.fnIn_mk ?l ?c ?k; (case l => k_is); (case c => k_is); (case k => k_is)))
    (case a_check_least => k_is)
    (case b_check_least => (refine' FX.fnIn_mk ?l ?c ?k; (case l => k_is); (case c => k_is); (case k => k_is)))
    (case a_check_one_or_two => k_is)
    (case b_check_one_or_two => (refine' FX.fnIn_mk ?l ?c ?k; (case l => k_is); (case c => k_is); (case k => k_is)))
    (case a_check_most => k_is)
    (case b_check_most => (refine' FX.fnIn_mk ?l ?c ?k; (case l => k_is); (case c => k_is); (case k => k_is)))
    (case a_as_stands => k_is)
    (case b_as_stands => (refine' FX.fnIn_mk ?l ?c ?k; (case l => k_is); (case c => k_is); (case k => k_is)))
    (case a_row_number => k_is)
    (case b_row_number => (refine' FX.fnIn_mk ?l ?c ?k; (case l => k_is); (case c => k_is); (case k => k_is)))
    (case a_is_due => k_is)
    (case b_is_due => (refine' FX.fnIn_mk ?l ?c ?k; (case l => k_is); (case c => k_is); (case k => k_is)))
    (case a_due_in_range => k_is)
    (case b_due_in_range => (refine' FX.fnIn_mk ?l ?c ?k; (case l => k_is); (case c => k_is); (case k => k_is)))
    (case a_due_too_great => k_is)
    (case b_due_too_great => (refine' FX.fnIn_mk ?l ?c ?k; (case l => k_is); (case c => k_is); (case k => k_is)))
    (case a_check_due => k_is)
    (case b_check_due => (refine' FX.fnIn_mk ?l ?c ?k; (case l => k_is); (case c => k_is); (case k => k_is)))
    (case a_due_at => k_is)
    (case b_due_at => (refine' FX.fnIn_mk ?l ?c ?k; (case l => k_is); (case c => k_is); (case k => k_is)))
    (case a_check_kinds => k_is)
    (case b_check_kinds => (refine' FX.fnIn_mk ?l ?c ?k; (case l => k_is); (case c => k_is); (case k => k_is)))
    (case a_check_steps => k_is)
    (case b_check_steps => (refine' FX.fnIn_mk ?l ?c ?k; (case l => k_is); (case c => k_is); (case k => k_is)))
    (case a_check_parts => k_is)
    (case b_check_parts => (refine' FX.fnIn_mk ?l ?c ?k; (case l => k_is); (case c => k_is); (case k => k_is)))
    (case a_check_plain => k_is)
    (case b_check_plain => (refine' FX.fnIn_mk ?l ?c ?k; (case l => k_is); (case c => k_is); (case k => k_is)))
    (case a_check_web => k_is)
    (case b_check_web => (refine' FX.fnIn_mk ?l ?c ?k; (case l => k_is); (case c => k_is); (case k => k_is)))
    (case a_half_of => k_is)
    (case b_half_of => (refine' FX.fnIn_mk ?l ?c ?k; (case l => k_is); (case c => k_is); (case k => k_is)))
    (case a_dues_at => k_is)
    (case b_dues_at => (refine' FX.fnIn_mk ?l ?c ?k; (case l => k_is); (case c => k_is); (case k => k_is)))
    (case a_bits_of => k_is)
    (case b_bits_of => (refine' FX.fnIn_mk ?l ?c ?k; (case l => k_is); (case c => k_is); (case k => k_is)))
    (case a_stands_of => k_is)
    (case b_stands_of => (refine' FX.fnIn_mk ?l ?c ?k; (case l => k_is); (case c => k_is); (case k => k_is)))
    (case a_lift_once => k_is)
    (case b_lift_once => (refine' FX.fnIn_mk ?l ?c ?k; (case l => k_is); (case c => k_is); (case k => k_is)))
    (case a_numbers_at => k_is)
    (case b_numbers_at => (refine' FX.fnIn_mk ?l ?c ?k; (case l => k_is); (case c => k_is); (case k => k_is)))
    (case a_check_chips => k_is)
    (case b_check_chips => (refine' FX.fnIn_mk ?l ?c ?k; (case l => k_is); (case c => k_is); (case k => k_is)))
    (case a_number_row => k_is)
    (case b_number_row => (refine' FX.fnIn_mk ?l ?c ?k; (case l => k_is); (case c => k_is); (case k => k_is)))
    (case a_law_draw => k_is)
    (case b_law_draw => (refine' FX.fnIn_mk ?l ?c ?k; (case l => k_is); (case c => k_is); (case k => k_is)))
    (case a_law_whole => k_is)
    (case b_law_whole => (refine' FX.fnIn_mk ?l ?c ?k; (case l => k_is); (case c => k_is); (case k => k_is)))
    (case a_law_is_row => k_is)
    (case b_law_is_row => (refine' FX.fnIn_mk ?l ?c ?k; (case l => k_is); (case c => k_is); (case k => k_is)))
    (case a_law_due_at => k_is)
    (case b_law_due_at => (refine' FX.fnIn_mk ?l ?c ?k; (case l => k_is); (case c => k_is); (case k => k_is)))
    (case a_law_half => k_is)
    (case b_law_half => (refine' FX.fnIn_mk ?l ?c ?k; (case l => k_is); (case c => k_is); (case k => k_is)))
    (case a_law_low => k_is)
    (case b_law_low => (refine' FX.fnIn_mk ?l ?c ?k; (case l => k_is); (case c => k_is); (case k => k_is)))
    (case a_law_high => k_is)
    (case b_law_high => (refine' FX.fnIn_mk ?l ?c ?k; (case l => k_is); (case c => k_is); (case k => k_is)))
    (case a_law_price => k_is)
    (case b_law_price => (refine' FX.fnIn_mk ?l ?c ?k; (case l => k_is); (case c => k_is); (case k => k_is)))
    (case a_law_fall => k_is)
    (case b_law_fall => (refine' FX.fnIn_mk ?l ?c ?k; (case l => k_is); (case c => k_is); (case k => k_is)))
    (case a_law_true_row => k_is)
    (case b_law_true_row => (refine' FX.fnIn_mk ?l ?c ?k; (case l => k_is); (case c => k_is); (case k => k_is)))
    (case a_law_line => k_is)
    (case b_law_line => (refine' FX.fnIn_mk ?l ?c ?k; (case l => k_is); (case c => k_is); (case k => k_is)))
    (case a_law_distance => k_is)
    (case b_law_distance => (refine' FX.fnIn_mk ?l ?c ?k; (case l => k_is); (case c => k_is); (case k => k_is)))
    (case a_law_numbers_right => k_is)
    (case b_law_numbers_right => (refine' FX.fnIn_mk ?l ?c ?k; (case l => k_is); (case c => k_is); (case k => k_is)))
    (case a_law_refusal => k_is)
    (case b_law_refusal => (refine' FX.fnIn_mk ?l ?c ?k; (case l => k_is); (case c => k_is); (case k => k_is)))
    (case a_law_refused => k_is)
    (case b_law_refused => (refine' FX.fnIn_mk ?l ?c ?k; (case l => k_is); (case c => k_is); (case k => k_is)))
    (case a_Web => k_is)
    (case i_Web => k_is)
    (case j_Web => k_is)
    (case b_Web_init => (refine' FX.fnIn_mk ?l ?c ?k; (case l => k_is); (case c => k_is); (case k => k_is)))
    (case q_Web => k_is)
    (case k_Web => k_is)
    (case g_Web => (refine' FX.clsF_at ⟨?x1, ?x2, ?x3, ?x4⟩ ?x5 ?x6 ?x7 ?x8; (case x1 => k_is); (case x2 => k_is); (case x3 => k_is); (case x4 => k_is); (case x5 => k_is); (case x6 => k_is); (case x7 => k_is); (case x8 => k_is)))
    (case a_Heights => k_is)
    (case i_Heights => k_is)
    (case j_Heights => k_is)
    (case b_Heights_init => (refine' FX.fnIn_mk ?l ?c ?k; (case l => k_is); (case c => k_is); (case k => k_is)))
    (case q_Heights => k_is)
    (case k_Heights => k_is)
    (case g_Heights => (refine' FX.clsF_at ⟨?x1, ?x2, ?x3, ?x4⟩ ?x5 ?x6 ?x7 ?x8; (case x1 => k_is); (case x2 => k_is); (case x3 => k_is); (case x4 => k_is); (case x5 => k_is); (case x6 => k_is); (case x7 => k_is); (case x8 => k_is)))
    (case t_Web_dues => (refine' FX.prop_at ?x1 ?x2 ?x3; (case x1 => k_is); (case x2 => k_is); (case x3 => rfl)))
    (case b_Web_dues => (refine' FX.fnIn_mk ?l ?c ?k; (case l => k_is); (case c => k_is); (case k => k_is)))
    (case t_Web_first => (refine' FX.prop_at ?x1 ?x2 ?x3; (case x1 => k_is); (case x2 => k_is); (case x3 => rfl)))
    (case b_Web_first => (refine' FX.fnIn_mk ?l ?c ?k; (case l => k_is); (case c => k_is); (case k => k_is)))
    (case t_Web_marks => (refine' FX.prop_at ?x1 ?x2 ?x3; (case x1 => k_is); (case x2 => k_is); (case x3 => rfl)))
    (case b_Web_marks => (refine' FX.fnIn_mk ?l ?c ?k; (case l => k_is); (case c => k_is); (case k => k_is)))
    (case t_Web_moving => (refine' FX.prop_at ?x1 ?x2 ?x3; (case x1 => k_is); (case x2 => k_is); (case x3 => rfl)))
    (case b_Web_moving => (refine' FX.fnIn_mk ?l ?c ?k; (case l => k_is); (case c => k_is); (case k => k_is)))
    (case t_Web_second => (refine' FX.prop_at ?x1 ?x2 ?x3; (case x1 => k_is); (case x2 => k_is); (case x3 => rfl)))
    (case b_Web_second => (refine' FX.fnIn_mk ?l ?c ?k; (case l => k_is); (case c => k_is); (case k => k_is)))
    (case t_Web_size => (refine' FX.prop_at ?x1 ?x2 ?x3; (case x1 => k_is); (case x2 => k_is); (case x3 => rfl)))
    (case b_Web_size => (refine' FX.fnIn_mk ?l ?c ?k; (case l => k_is); (case c => k_is); (case k => k_is)))
    (case cm_Web_line => (refine' FX.cmet_at ?x0 ?x1 ?x2 ?x3 ?x4; (case x0 => exact (show PySem.fastLookup "type" "line" = some none by decide +kernel)); (case x1 => k_is); (case x2 => k_is); (case x3 => rfl); (case x4 => k_is)))
    (case b_Web_line => (refine' FX.fnDIn_mk ?l ?c ?k ?lT ?dT ?hu; (case l => k_is); (case c => k_is); (case k => k_is); (case lT => k_is); (case dT => rfl); (case hu => first | exact ⟨_, rfl⟩ | rfl)))
    (case cr_Web => (refine' FX.cread_at ?x1 ?x2; (case x1 => k_is); (case x2 => k_is)))
    (case x_Heightsleading_to => k_is)
    (case y_Heightsleading_to => k_is)
    (case b_Heightsleading_to => (refine' FX.fnIn_mk ?l ?c ?k; (case l => k_is); (case c => k_is); (case k => k_is)))
    (case x_Heightsleavers => k_is)
    (case y_Heightsleavers => k_is)
    (case b_Heightsleavers => (refine' FX.fnIn_mk ?l ?c ?k; (case l => k_is); (case c => k_is); (case k => k_is)))
    (case x_Heightslook => k_is)
    (case y_Heightslook => k_is)
    (case b_Heightslook => (refine' FX.fnIn_mk ?l ?c ?k; (case l => k_is); (case c => k_is); (case k => k_is)))
    (case x_Heightsraised_price => k_is)
    (case y_Heightsraised_price => k_is)
    (case b_Heightsraised_price => (refine' FX.fnIn_mk ?l ?c ?k; (case l => k_is); (case c => k_is); (case k => k_is)))
    (case x_Heights_below => k_is)
    (case y_Heights_below => k_is)
    (case b_Heights_below => (refine' FX.fnIn_mk ?l ?c ?k; (case l => k_is); (case c => k_is); (case k => k_is)))
    (case x_Heights_leaving => k_is)
    (case y_Heights_leaving => k_is)
    (case b_Heights_leaving => (refine' FX.fnDIn_mk ?l ?c ?k ?lT ?dT ?hu; (case l => k_is); (case c => k_is); (case k => k_is); (case lT => k_is); (case dT => rfl); (case hu => first | exact ⟨_, rfl⟩ | rfl)))
    (case x_Heights_lift => k_is)
    (case y_Heights_lift => k_is)
    (case b_Heights_lift => (refine' FX.fnIn_mk ?l ?c ?k; (case l => k_is); (case c => k_is); (case k => k_is)))
    (case x_Heights_staying => k_is)
    (case y_Heights_staying => k_is)
    (case b_Heights_staying => (refine' FX.fnIn_mk ?l ?c ?k; (case l => k_is); (case c => k_is); (case k => k_is)))
    (case x_Heights_told => k_is)
    (case y_Heights_told => k_is)
    (case b_Heights_told => (refine' FX.fnIn_mk ?l ?c ?k; (case l => k_is); (case c => k_is); (case k => k_is)))
    (case x_Heights_price => k_is)
    (case y_Heights_price => k_is)
    (case b_Heights_price => (refine' FX.fnIn_mk ?l ?c ?k; (case l => k_is); (case c => k_is); (case k => k_is)))
    (case aX_PurseError => k_is)
    (case n_Heights__before => k_is)
    (case n_Heights__firsts => k_is)
    (case n_Heights__high_stands => k_is)
    (case n_Heights__highs => k_is)
    (case n_Heights__low_stands => k_is)
    (case n_Heights__lows => k_is)
    (case n_Heights__marks => k_is)
    (case n_Heights__moving => k_is)
    (case n_Heights__row => k_is)
    (case n_Heights__seconds => k_is)
    (case n_Web__dues => k_is)
    (case n_Web__ends => k_is)
    (case n_Web__even => k_is)
    (case n_Web__first => k_is)
    (case n_Web__greatest_due => k_is)
    (case n_Web__marks => k_is)
    (case n_Web__moving => k_is)
    (case n_Web__second => k_is)
    (case n_Web__size => k_is)
    (case v_GREATEST => exact ⟨_, rfl⟩)
    (case v_LONGEST_LINE => exact ⟨_, rfl⟩)
    (case v_MOST_STANDS => exact ⟨_, rfl⟩)
    (case v_MOST_CHIPS => exact ⟨_, rfl⟩)
    (case z_bool => k_is)
    (case z_enumerate => k_is)
    (case z_int => k_is)
    (case z_isinstance => k_is)
    (case z_len => k_is)
    (case z_list => k_is)
    (case z_max => k_is)
    (case z_min => k_is)
    (case z_range => k_is)
    (case z_set => k_is)
    (case z_sorted => k_is)
    (case z_str => k_is)
    (case z_sum => k_is)
    (case z_tuple => k_is)
    (case eA0 => k_is)
    (case eX0 => k_exc)
    (case eK0 => k_is)
    (case eB0 => k_is)
    (case eT0 => k_is)
    (case eA1 => k_is)
    (case eX1 => k_exc)
    (case eK1 => k_is)
    (case eB1 => k_is)
    (case eT1 => k_is)
    (case eA2 => k_is)
    (case eX2 => k_exc)
    (case eK2 => k_is)
    (case eB2 => k_is)
    (case eT2 => k_is)
    (case eA3 => k_is)
    (case eX3 => k_exc)
    (case eK3 => k_is)
    (case eB3 => k_is)
    (case eT3 => k_is)
    (case ap00 => (refine' FX.exm_at ?x1 ?x2 ?x3 ?x4; (case x1 => k_is); (case x2 => k_is); (case x3 => k_is); (case x4 => first | rfl | k_is)))
    (case ap01 => (refine' FX.exm_at ?x1 ?x2 ?x3 ?x4; (case x1 => k_is); (case x2 => k_is); (case x3 => k_is); (case x4 => first | rfl | k_is)))
    (case ap02 => (refine' FX.exm_at ?x1 ?x2 ?x3 ?x4; (case x1 => k_is); (case x2 => k_is); (case x3 => k_is); (case x4 => first | rfl | k_is)))
    (case ap03 => (refine' FX.exm_at ?x1 ?x2 ?x3 ?x4; (case x1 => k_is); (case x2 => k_is); (case x3 => k_is); (case x4 => first | rfl | k_is)))
    (case ap10 => (refine' FX.exm_at ?x1 ?x2 ?x3 ?x4; (case x1 => k_is); (case x2 => k_is); (case x3 => k_is); (case x4 => first | rfl | k_is)))
    (case ap11 => (refine' FX.exm_at ?x1 ?x2 ?x3 ?x4; (case x1 => k_is); (case x2 => k_is); (case x3 => k_is); (case x4 => first | rfl | k_is)))
    (case ap12 => (refine' FX.exm_at ?x1 ?x2 ?x3 ?x4; (case x1 => k_is); (case x2 => k_is); (case x3 => k_is); (case x4 => first | rfl | k_is)))
    (case ap13 => (refine' FX.exm_at ?x1 ?x2 ?x3 ?x4; (case x1 => k_is); (case x2 => k_is); (case x3 => k_is); (case x4 => first | rfl | k_is)))
    (case ap20 => (refine' FX.exm_at ?x1 ?x2 ?x3 ?x4; (case x1 => k_is); (case x2 => k_is); (case x3 => k_is); (case x4 => first | rfl | k_is)))
    (case ap21 => (refine' FX.exm_at ?x1 ?x2 ?x3 ?x4; (case x1 => k_is); (case x2 => k_is); (case x3 => k_is); (case x4 => first | rfl | k_is)))
    (case ap22 => (refine' FX.exm_at ?x1 ?x2 ?x3 ?x4; (case x1 => k_is); (case x2 => k_is); (case x3 => k_is); (case x4 => first | rfl | k_is)))
    (case ap23 => (refine' FX.exm_at ?x1 ?x2 ?x3 ?x4; (case x1 => k_is); (case x2 => k_is); (case x3 => k_is); (case x4 => first | rfl | k_is)))
    (case ap30 => (refine' FX.exm_at ?x1 ?x2 ?x3 ?x4; (case x1 => k_is); (case x2 => k_is); (case x3 => k_is); (case x4 => first | rfl | k_is)))
    (case ap31 => (refine' FX.exm_at ?x1 ?x2 ?x3 ?x4; (case x1 => k_is); (case x2 => k_is); (case x3 => k_is); (case x4 => first | rfl | k_is)))
    (case ap32 => (refine' FX.exm_at ?x1 ?x2 ?x3 ?x4; (case x1 => k_is); (case x2 => k_is); (case x3 => k_is); (case x4 => first | rfl | k_is)))
    (case ap33 => (refine' FX.exm_at ?x1 ?x2 ?x3 ?x4; (case x1 => k_is); (case x2 => k_is); (case x3 => k_is); (case x4 => first | rfl | k_is)))
    (case a_law_pot => k_is)
    (case a_law => k_is)
    (case b_law_pot => (refine' FX.fnIn_mk ?l ?c ?k; (case l => k_is); (case c => k_is); (case k => k_is)))
    (case l_law => k_is)
    (case c_law => k_is)
    (case k_law => k_is)
