import PyProof.Rows.All
import Wide.All
import OpenK.AllK
import Wide.FinOn
import HandS.ForMost
import HandS.ForExc
import HandS.ExcIs
import HandS.TupAny
import HandS.Wide
import HandS.IsInst
import HandS.Deep
import HandS.Style
import HandS.Zip
import HandS.Small
import HandS.Defaults
import HandS.Head0
import HandS.Head1
import HandS.Head2
import HandS.HeadEnd
import HandS.HeadHook1
import HandS.HeadHook2
import HandS.Gcd
import KE.KDictZip
import HandS.ListItems
import HandS.Head3
import PySem.Challenge.RW_threeexits_k18_frames_judged
set_option Elab.async false
set_option linter.all false
set_option maxRecDepth 100000
/-! Data of any depth, named slots with owned objects: a reading by what the code makes of data. -/
namespace Dn
open PySem PySem.Spec PyProof.Rows L2

inductive D where
  | non | bl (b : Bool) | int (i : Int) | str (x : Str)
  | tup (xs : List D) | lst (xs : List D) | dk (kvs : List (Key × D)) | ins (C : Addr) (fs : List (Str × D))
  | frl (K : PySem.W.Frag) (ns : List Int)

mutual
inductive Rep (G : Addr → Prop) (H : Hp) : V → D → Prop
  | non : Rep G H .non .non
  | bl (b : Bool) : Rep G H (.bl b) (.bl b)
  | int (i : Int) : Rep G H (.int i) (.int i)
  | str (x : Str) : Rep G H (.str x) (.str x)
  | tup {a : Addr} {xs : List V} {ds : List D} : H a = some (.tup xs) → RepL G H xs ds → Rep G H (.ref a) (.tup ds)
  | lst {a : Addr} {xs : List V} {ds : List D} : G a → H a = some (.lst xs) → RepL G H xs ds → Rep G H (.ref a) (.lst ds)
  | dk {a : Addr} {kvs : List (Key × V)} {ds : List (Key × D)} : G a → H a = some (.dK kvs) → RepK G H kvs ds → Rep G H (.ref a) (.dk ds)
  | frl {a : Addr} {K : PySem.W.Frag} {ns : List Int} : ((G a ∧ ∃ o, H a = some (.frz o (.lst (ns.map V.int)))) ∨
      ∃ (o : Obj) (its : Array Value) (n : Nat), K.lookup a = some o ∧ o.cls = .type "list" ∧ o.dict = none ∧ o.data = .seq its n ∧ its.size ≤ sizeLine ∧ Vals (ns.map V.int) its.toList) → Rep G H (.ref a) (.frl K ns)
  | ins {a C dx : Addr} {fs : List (Str × V)} {ds : List (Str × D)} : G a → H a = some (.ins C dx fs) → RepF G H fs ds → Rep G H (.ref a) (.ins C ds)
inductive RepL (G : Addr → Prop) (H : Hp) : List V → List D → Prop
  | nil : RepL G H [] []
  | cons {v : V} {d : D} {vs : List V} {ds : List D} : Rep G H v d → RepL G H vs ds → RepL G H (v :: vs) (d :: ds)
inductive RepK (G : Addr → Prop) (H : Hp) : List (Key × V) → List (Key × D) → Prop
  | nil : RepK G H [] []
  | cons {k : Key} {v : V} {d : D} {vs : List (Key × V)} {ds : List (Key × D)} : Rep G H v d → RepK G H vs ds → RepK G H ((k, v) :: vs) ((k, d) :: ds)
inductive RepF (G : Addr → Prop) (H : Hp) : List (Str × V) → List (Str × D) → Prop
  | nil : RepF G H [] []
  | cons {k : Str} {v : V} {d : D} {vs : List (Str × V)} {ds : List (Str × D)} : Rep G H v d → RepF G H vs ds → RepF G H ((k, v) :: vs) ((k, d) :: ds)
end

section
variable {G G' : Addr → Prop} {H H' : Hp}
mutual
theorem Rep.mono (hG : ∀ a o, G a → H a = some o → G' a ∧ H' a = some o) (hT : ∀ a xs, H a = some (.tup xs) → H' a = some (.tup xs)) : ∀ {v : V} {d : D}, Rep G H v d → Rep G' H' v d
  | _, _, .non => .non
  | _, _, .bl b => .bl b
  | _, _, .int i => .int i
  | _, _, .str x => .str x
  | _, _, .tup h r => .tup (hT _ _ h) (RepL.mono hG hT r)
  | _, _, .lst g h r => .lst (hG _ _ g h).1 (hG _ _ g h).2 (RepL.mono hG hT r)
  | _, _, .dk g h r => .dk (hG _ _ g h).1 (hG _ _ g h).2 (RepK.mono hG hT r)
  | _, _, .ins g h r => .ins (hG _ _ g h).1 (hG _ _ g h).2 (RepF.mono hG hT r)
  | _, _, .frl h => .frl (h.imp (fun ⟨g, o, e⟩ => ⟨(hG _ _ g e).1, o, (hG _ _ g e).2⟩) id)
theorem RepL.mono (hG : ∀ a o, G a → H a = some o → G' a ∧ H' a = some o) (hT : ∀ a xs, H a = some (.tup xs) → H' a = some (.tup xs)) : ∀ {v : List V} {d : List D}, RepL G H v d → RepL G' H' v d
  | _, _, .nil => .nil
  | _, _, .cons h r => .cons (Rep.mono hG hT h) (RepL.mono hG hT r)
theorem RepK.mono (hG : ∀ a o, G a → H a = some o → G' a ∧ H' a = some o) (hT : ∀ a xs, H a = some (.tup xs) → H' a = some (.tup xs)) : ∀ {v : List (Key × V)} {d : List (Key × D)}, RepK G H v d → RepK G' H' v d
  | _, _, .nil => .nil
  | _, _, .cons h r => .cons (Rep.mono hG hT h) (RepK.mono hG hT r)
theorem RepF.mono (hG : ∀ a o, G a → H a = some o → G' a ∧ H' a = some o) (hT : ∀ a xs, H a = some (.tup xs) → H' a = some (.tup xs)) : ∀ {v : List (Str × V)} {d : List (Str × D)}, RepF G H v d → RepF G' H' v d
  | _, _, .nil => .nil
  | _, _, .cons h r => .cons (Rep.mono hG hT h) (RepF.mono hG hT r)
end
theorem RepL.length {v : List V} {d : List D} (h : RepL G H v d) : v.length = d.length := by
  induction d generalizing v with
  | nil => cases h; rfl
  | cons x r ih => cases h with | cons a b => simp [ih b]
theorem RepL.get {v : List V} {d : List D} {i : Nat} {x : D} (h : RepL G H v d) (e : d[i]? = some x) : ∃ y, v[i]? = some y ∧ Rep G H y x := by
  induction d generalizing v i with
  | nil => simp at e
  | cons z r ih =>
    cases h with
    | cons a b =>
      cases i with
      | zero => simp at e; subst e; exact ⟨_, rfl, a⟩
      | succ i =>
        obtain ⟨y, h1, h2⟩ := ih (i := i) b (by simpa using e)
        exact ⟨y, by simpa using h1, h2⟩
theorem RepL.append {v w : List V} {d e : List D} (h : RepL G H v d) (k : RepL G H w e) : RepL G H (v ++ w) (d ++ e) := by
  induction d generalizing v with
  | nil => cases h; exact k
  | cons z r ih => cases h with | cons a b => exact .cons a (ih b)
theorem RepL.take {v : List V} {d : List D} (n : Nat) (h : RepL G H v d) : RepL G H (v.take n) (d.take n) := by
  induction d generalizing v n with
  | nil => cases h; simp; exact .nil
  | cons z r ih => cases h with | cons a b => cases n with
    | zero => exact .nil
    | succ n => exact .cons a (ih n b)
theorem RepL.drop {v : List V} {d : List D} (n : Nat) (h : RepL G H v d) : RepL G H (v.drop n) (d.drop n) := by
  induction d generalizing v n with
  | nil => cases h; simp; exact .nil
  | cons z r ih => cases h with | cons a b => cases n with
    | zero => exact .cons a b
    | succ n => exact ih n b
theorem RepL.reverse {v : List V} {d : List D} (h : RepL G H v d) : RepL G H v.reverse d.reverse := by
  induction d generalizing v with
  | nil => cases h; exact .nil
  | cons z r ih => cases h with | cons a b =>
      rw [List.reverse_cons, List.reverse_cons]
      exact (ih b).append (.cons a .nil)
theorem RepL.set {v : List V} {d : List D} {x : V} {y : D} (i : Nat) (h : RepL G H v d) (k : Rep G H x y) : RepL G H (v.set i x) (d.set i y) := by
  induction d generalizing v i with
  | nil => cases h; exact .nil
  | cons z r ih => cases h with | cons a b => cases i with
    | zero => exact .cons k b
    | succ i => exact .cons a (ih i b)
theorem RepL.dropLast {v : List V} {d : List D} (h : RepL G H v d) : RepL G H v.dropLast d.dropLast := by
  rw [List.dropLast_eq_take, List.dropLast_eq_take, h.length]
  exact h.take _
/-- ints -/
theorem RepL.ints {v : List V} {ns : List Int} (h : RepL G H v (ns.map D.int)) : v = ns.map V.int := by
  induction ns generalizing v with
  | nil => cases h; rfl
  | cons z r ih => cases h with | cons a b => cases a; rw [ih b]; rfl
theorem RepL.ofInts (ns : List Int) : RepL G H (ns.map V.int) (ns.map D.int) := by
  induction ns with
  | nil => exact .nil
  | cons z r ih => exact .cons (.int z) ih
theorem RepL.bls {v : List V} {ns : List Bool} (h : RepL G H v (ns.map D.bl)) : v = ns.map V.bl := by
  induction ns generalizing v with
  | nil => cases h; rfl
  | cons z r ih => cases h with | cons a b => cases a; rw [ih b]; rfl
theorem RepL.ofBls (ns : List Bool) : RepL G H (ns.map V.bl) (ns.map D.bl) := by
  induction ns with
  | nil => exact .nil
  | cons z r ih => exact .cons (.bl z) ih
end

/-- what is new since H -/
def Gr (G : Addr → Prop) (H : Hp) : Addr → Prop := fun a => G a ∨ H a = none
theorem Rep.grow {G : Addr → Prop} {H H' : Hp} (e : Same H H') {v : V} {d : D} (h : Rep G H v d) : Rep (Gr G H) H' v d := h.mono (fun a o g q => ⟨.inl g, e a o q⟩) fun a xs q => e a _ q
theorem RepL.grow {G : Addr → Prop} {H H' : Hp} (e : Same H H') {v : List V} {d : List D} (h : RepL G H v d) : RepL (Gr G H) H' v d := h.mono (fun a o g q => ⟨.inl g, e a o q⟩) fun a xs q => e a _ q
theorem Rep.old {G : Addr → Prop} {H : Hp} {v : V} {d : D} (h : Rep G H v d) : Rep (Gr G H) H v d := h.grow (Same.refl H)
theorem Gr.trans {G : Addr → Prop} {H H1 : Hp} (e : Same H H1) {a : Addr} (h : Gr (Gr G H) H1 a) : Gr G H a := by
  rcases h with h | h
  · exact h
  · exact .inr (e.free h)
theorem Rep.gr2 {G : Addr → Prop} {H H1 H2 : Hp} (e : Same H H1) {v : V} {d : D} (h : Rep (Gr (Gr G H) H1) H2 v d) : Rep (Gr G H) H2 v d := h.mono (fun a o g q => ⟨Gr.trans e g, q⟩) fun a xs q => q
theorem Same.new {H : Hp} {p : Addr} {o : HO} (h : H p = none) : Same H (upd H p o) := fun b x e => by
  rw [upd_ne (ne_of_none e h)]
  exact e

/-! ### anchor, owned slots -/
structure An where
  F : Addr → Prop
  H : Hp
  B : Addr → Prop
abbrev Ow := Nat → Option Addr
def NOw (ow : Ow) (a : Addr) : Prop := ∀ i, ow i ≠ some a
def Fz (A : An) (ow : Ow) (a : Addr) : Prop := (A.F a ∨ A.H a = none) ∧ NOw ow a
/-- an object that is changed in place -/
inductive Ob where
  | lst (ds : List D) | dk (kvs : List (Key × D))
inductive Sl where
  | un | dat (d : D) | own (o : Ob) | bor (o : Ob)
abbrev DE := List Sl
def OwnAt (G : Addr → Prop) (H : Hp) (p : Addr) : Ob → Prop
  | .lst ds => ∃ xs, H p = some (.lst xs) ∧ RepL G H xs ds
  | .dk ds => ∃ xs, H p = some (.dK xs) ∧ RepK G H xs ds
def isTup : HO → Bool
  | .tup _ => true
  | _ => false
structure EnvR (A : An) (ow : Ow) (H : Hp) (σ : L2.St) (ρ : DE) : Prop where
  len : σ.length = ρ.length
  kp : ∀ a o, A.H a = some o → NOw ow a → H a = some o
  dat : ∀ (i : Nat) (d : D), ρ[i]? = some (Sl.dat d) → ∃ v, σ[i]? = some (some v) ∧ Rep (Fz A ow) H v d
  own : ∀ (i : Nat) (o : Ob), ρ[i]? = some (Sl.own o) → ∃ p, ow i = some p ∧ σ[i]? = some (some (V.ref p)) ∧ OwnAt (Fz A ow) H p o ∧ A.H p = none
  bor : ∀ (i : Nat) (o : Ob), ρ[i]? = some (Sl.bor o) → ∃ p, ow i = some p ∧ σ[i]? = some (some (V.ref p)) ∧ OwnAt (Fz A ow) H p o ∧ A.B p
  inj : ∀ (i j : Nat) (p : Addr), ow i = some p → ow j = some p → i = j
  fr : ∀ (i : Nat) (p : Addr), ow i = some p → A.H p = none ∨ A.B p
  there : ∀ (i : Nat) (p : Addr), ow i = some p → ∃ o, H p = some o ∧ isTup o = false
  only : ∀ (i : Nat) (p : Addr), ow i = some p → ∃ o, ρ[i]? = some (Sl.own o) ∨ ρ[i]? = some (Sl.bor o)
structure Kp (ow : Ow) (H : Hp) (ow' : Ow) (H' : Hp) : Prop where
  keep : ∀ a o, H a = some o → NOw ow a → H' a = some o ∧ NOw ow' a
theorem Kp.refl (ow : Ow) (H : Hp) : Kp ow H ow H := ⟨fun _ _ h n => ⟨h, n⟩⟩
theorem Kp.trans {o1 o2 o3 : Ow} {H1 H2 H3 : Hp} (a : Kp o1 H1 o2 H2) (b : Kp o2 H2 o3 H3) : Kp o1 H1 o3 H3 :=
  ⟨fun x o h n => b.keep x o (a.keep x o h n).1 (a.keep x o h n).2⟩
theorem Kp.same {ow : Ow} {H H' : Hp} (e : Same H H') : Kp ow H ow H' := ⟨fun a o h n => ⟨e a o h, n⟩⟩
section
variable {A : An} {ow ow' : Ow} {H H' : Hp} {σ : L2.St} {ρ : DE}
theorem EnvR.nowTup (E : EnvR A ow H σ ρ) {a : Addr} {xs : List V} (h : H a = some (.tup xs)) : NOw ow a := fun i e => by
  obtain ⟨o, h1, h2⟩ := E.there i a e
  rw [h] at h1
  cases h1
  cases h2
theorem EnvR.move (E : EnvR A ow H σ ρ) (k : Kp ow H ow' H') {v : V} {d : D} (h : Rep (Fz A ow) H v d) : Rep (Fz A ow') H' v d :=
  h.mono (fun a o g q => ⟨⟨g.1, (k.keep a o q g.2).2⟩, (k.keep a o q g.2).1⟩) fun a xs q => (k.keep a _ q (E.nowTup q)).1
theorem EnvR.moveL (E : EnvR A ow H σ ρ) (k : Kp ow H ow' H') {v : List V} {d : List D} (h : RepL (Fz A ow) H v d) : RepL (Fz A ow') H' v d :=
  h.mono (fun a o g q => ⟨⟨g.1, (k.keep a o q g.2).2⟩, (k.keep a o q g.2).1⟩) fun a xs q => (k.keep a _ q (E.nowTup q)).1
theorem EnvR.moveK (E : EnvR A ow H σ ρ) (k : Kp ow H ow' H') {v : List (Key × V)} {d : List (Key × D)} (h : RepK (Fz A ow) H v d) : RepK (Fz A ow') H' v d :=
  h.mono (fun a o g q => ⟨⟨g.1, (k.keep a o q g.2).2⟩, (k.keep a o q g.2).1⟩) fun a xs q => (k.keep a _ q (E.nowTup q)).1
/-- a fresh place is ours -/
theorem EnvR.fresh (E : EnvR A ow H σ ρ) {a : Addr} (h : H a = none) : Fz A ow a := by
  have n : NOw ow a := fun i e => by
    obtain ⟨o, h1, _⟩ := E.there i a e
    rw [h] at h1
    cases h1
  refine ⟨.inr ?_, n⟩
  cases q : A.H a with
  | none => rfl
  | some o =>
    rw [E.kp a o q n] at h
    cases h
theorem EnvR.gr (E : EnvR A ow H σ ρ) {a : Addr} (h : Gr (Fz A ow) H a) : Fz A ow a := h.elim id E.fresh
theorem EnvR.ungrow (E : EnvR A ow H σ ρ) {v : V} {d : D} (h : Rep (Gr (Fz A ow) H) H' v d) : Rep (Fz A ow) H' v d := h.mono (fun a o g q => ⟨E.gr g, q⟩) fun a xs q => q
theorem EnvR.ungrowL (E : EnvR A ow H σ ρ) {v : List V} {d : List D} (h : RepL (Gr (Fz A ow) H) H' v d) : RepL (Fz A ow) H' v d := h.mono (fun a o g q => ⟨E.gr g, q⟩) fun a xs q => q
theorem OwnAt.same {G : Addr → Prop} (e : Same H H') {p : Addr} {o : Ob} (h : OwnAt G H p o) : OwnAt G H' p o := by
  cases o with
  | lst ds =>
    obtain ⟨xs, h1, h2⟩ := h
    exact ⟨xs, e _ _ h1, h2.mono (fun a o g q => ⟨g, e a o q⟩) fun a xs q => e a _ q⟩
  | dk ds =>
    obtain ⟨xs, h1, h2⟩ := h
    exact ⟨xs, e _ _ h1, h2.mono (fun a o g q => ⟨g, e a o q⟩) fun a xs q => e a _ q⟩
/-- the heap has grown -/
theorem EnvR.same (E : EnvR A ow H σ ρ) (e : Same H H') : EnvR A ow H' σ ρ where
  len := E.len
  kp := fun a o h n => e a o (E.kp a o h n)
  dat := fun i d h => by
    obtain ⟨v, h1, h2⟩ := E.dat i d h
    exact ⟨v, h1, E.move (Kp.same e) h2⟩
  own := fun i o h => by
    obtain ⟨p, h1, h2, h3, h4⟩ := E.own i o h
    exact ⟨p, h1, h2, h3.same e, h4⟩
  bor := fun i o h => by
    obtain ⟨p, h1, h2, h3, h4⟩ := E.bor i o h
    exact ⟨p, h1, h2, h3.same e, h4⟩
  inj := E.inj
  fr := E.fr
  there := fun i p h => by
    obtain ⟨o, h1, h2⟩ := E.there i p h
    exact ⟨o, e _ _ h1, h2⟩
  only := E.only
end

/-! ### readings by data -/
abbrev FE := DE → Option (D × DE)
abbrev FT := DE → Option (Bool × DE)
abbrev FA := DE → Option (List D × DE)
def tE (f : FE) : TE := fun σ H Q => ∃ A ow ρ d ρ', EnvR A ow H σ ρ ∧ f ρ = some (d, ρ') ∧ ∀ v H', EnvR A ow H' σ ρ' → Kp ow H ow H' → Rep (Fz A ow) H' v d → Q v H'
def tT (f : FT) : TT := fun σ H Q => ∃ A ow ρ d ρ', EnvR A ow H σ ρ ∧ f ρ = some (d, ρ') ∧ ∀ H', EnvR A ow H' σ ρ' → Kp ow H ow H' → Q d H'
def tA (f : FA) : TA := fun σ H Q => ∃ A ow ρ d ρ', EnvR A ow H σ ρ ∧ f ρ = some (d, ρ') ∧ ∀ v H', EnvR A ow H' σ ρ' → Kp ow H ow H' → RepL (Fz A ow) H' v d → Q v H'

theorem PE.weak {X : Cx} {e : Expr} {t t' : TE} (h : PE X e t) (w : ∀ σ H Q, t' σ H Q → t σ H Q) : PE X e t' := ⟨fun pins s σ H Q I q => h.run pins s σ H Q I (w _ _ _ q)⟩
theorem PT.weak {X : Cx} {e : Expr} {t t' : TT} (h : PT X e t) (w : ∀ σ H Q, t' σ H Q → t σ H Q) : PT X e t' := ⟨fun pins s σ H Q I q => h.run pins s σ H Q I (w _ _ _ q)⟩
theorem PA.weak {X : Cx} {e : List Expr} {t t' : TA} (h : PA X e t) (w : ∀ σ H Q, t' σ H Q → t σ H Q) : PA X e t' := ⟨fun p pins s σ H Q I q => h.run p pins s σ H Q I (w _ _ _ q)⟩
theorem PS.weak {X : Cx} {e : Stmt} {t t' : TS} (h : PS X e t) (w : ∀ D σ H, t' D σ H → t D σ H) : PS X e t' := ⟨fun pins s σ H D I q => h.run pins s σ H D I (w _ _ _ q)⟩
theorem PSs.weak {X : Cx} {e : List Stmt} {t t' : TS} (h : PSs X e t) (w : ∀ D σ H, t' D σ H → t D σ H) : PSs X e t' := ⟨fun pins s σ H D I q => h.run pins s σ H D I (w _ _ _ q)⟩

section
variable {X : Cx} {e a b : Expr} {es : List Expr} {pos : Pos} {f g : FE} {k : FA}
/-! names, constants -/
def dVar (i : Nat) : FE := fun ρ => match ρ[i]? with
  | some (.dat d) => some (d, ρ)
  | _ => none
def dC (d : D) : FE := fun ρ => some (d, ρ)
theorem e_var (i : Nat) {x : Str} (hN : X.N[i]? = some x := by rfl) (hv : Vis X.env.scope x := by first | exact Or.inl rfl | exact Or.inr (Or.inl rfl) | exact Or.inr (Or.inr rfl)) (hd : (x == ("__debug__" : Str)) = false := by decide)
    (hcd : (x == ("__classdict__" : Str)) = false := by decide) : PE X (.Name x pos) (tE (dVar i)) := by
  refine PE.weak (pe_var (i := i) hN hv hd hcd) ?_
  rintro σ H Q ⟨A, ow, ρ, d, ρ', E, hf, q⟩
  unfold dVar at hf
  split at hf
  · rename_i d' he
    cases hf
    obtain ⟨v, h1, h2⟩ := E.dat i _ he
    exact ⟨v, h1, q v H E (Kp.refl _ _) h2⟩
  · cases hf
theorem e_int {i j} : PE X (.Constant (.int i) j pos) (tE (dC (.int i))) := by
  refine PE.weak pe_int ?_
  rintro σ H Q ⟨A, ow, ρ, d, ρ', E, hf, q⟩
  cases hf
  exact q _ H E (Kp.refl _ _) (.int _)
theorem e_bl {i j} : PE X (.Constant (.bool i) j pos) (tE (dC (.bl i))) := by
  refine PE.weak pe_bl ?_
  rintro σ H Q ⟨A, ow, ρ, d, ρ', E, hf, q⟩
  cases hf
  exact q _ H E (Kp.refl _ _) (.bl _)
theorem e_non {j} : PE X (.Constant .none j pos) (tE (dC .non)) := by
  refine PE.weak pe_non ?_
  rintro σ H Q ⟨A, ow, ρ, d, ρ', E, hf, q⟩
  cases hf
  exact q _ H E (Kp.refl _ _) .non
theorem e_str {x j} : PE X (.Constant (.str x) j pos) (tE (dC (.str x))) := by
  refine PE.weak pe_str ?_
  rintro σ H Q ⟨A, ow, ρ, d, ρ', E, hf, q⟩
  cases hf
  exact q _ H E (Kp.refl _ _) (.str _)
/-- a constant of the module -/
theorem e_glob {x : Str} {v : V} {u : Value} {d : D} (hg : Gl X x) (hm : X.mg x = some u) (r : RelV v u) (hr : ∀ G H, Rep G H v d) (hd : (x == ("__debug__" : Str)) = false := by decide) : PE X (.Name x pos) (tE (dC d)) := by
  refine PE.weak (pe_glob hg hm r hd) ?_
  rintro σ H Q ⟨A, ow, ρ, d, ρ', E, hf, q⟩
  cases hf
  exact q _ H E (Kp.refl _ _) (hr _ _)

/-! argument lists -/
def dNil : FA := fun ρ => some ([], ρ)
def dCons (f : FE) (k : FA) : FA := fun ρ => match f ρ with
  | some (d, ρ1) => (match k ρ1 with
    | some (ds, ρ2) => some (d :: ds, ρ2)
    | none => none)
  | none => none
theorem a_nil : PA X [] (tA dNil) := by
  refine PA.weak pa_nil ?_
  rintro σ H Q ⟨A, ow, ρ, d, ρ', E, hf, q⟩
  cases hf
  exact q _ H E (Kp.refl _ _) .nil
theorem a_cons (ha : PE X e (tE f)) (hr : PA X es (tA k)) (hs : starEach (e :: es) X.env = (false, eval e X.env) :: starEach es X.env := by rfl) : PA X (e :: es) (tA (dCons f k)) := by
  refine PA.weak (pa_cons ha hr hs) ?_
  rintro σ H Q ⟨A, ow, ρ, d, ρ', E, hf, q⟩
  unfold dCons at hf
  split at hf
  · rename_i d1 ρ1 h1
    split at hf
    · rename_i ds ρ2 h2
      cases hf
      exact ⟨A, ow, ρ, d1, ρ1, E, h1, fun v H1 E1 K1 r1 => ⟨A, ow, ρ1, ds, ρ', E1, h2, fun vs H2 E2 K2 r2 => q _ H2 E2 (K1.trans K2) (.cons (E1.move K2 r1) r2)⟩⟩
    · cases hf
  · cases hf

/-! two-place operations by values -/
def OpD (r : R2) (op : D → D → Option D) : Prop := ∀ (G : Addr → Prop) (H : Hp) (x y : V) (dx dy d : D) (Q : VK), Rep G H x dx → Rep G H y dy → op dx dy = some d →
  (∀ v H', Same H H' → Rep (Gr G H) H' v d → Q v H') → r x y H Q
def UnD (r : V → Hp → VK → Prop) (op : D → Option D) : Prop := ∀ (G : Addr → Prop) (H : Hp) (x : V) (dx d : D) (Q : VK), Rep G H x dx → op dx = some d →
  (∀ v H', Same H H' → Rep (Gr G H) H' v d → Q v H') → r x H Q
def CallD (r : List V → Hp → VK → Prop) (op : List D → Option D) : Prop := ∀ (G : Addr → Prop) (H : Hp) (vs : List V) (ds : List D) (d : D) (Q : VK), RepL G H vs ds → op ds = some d →
  (∀ v H', Same H H' → Rep (Gr G H) H' v d → Q v H') → r vs H Q
def dOp (op : D → D → Option D) (f g : FE) : FE := fun ρ => match f ρ with
  | some (x, ρ1) => (match g ρ1 with
    | some (y, ρ2) => (match op x y with
      | some d => some (d, ρ2)
      | none => none)
    | none => none)
  | none => none
def dUn (op : D → Option D) (f : FE) : FE := fun ρ => match f ρ with
  | some (x, ρ1) => (match op x with
    | some d => some (d, ρ1)
    | none => none)
  | none => none
def dCall (op : List D → Option D) (f : FA) : FE := fun ρ => match f ρ with
  | some (x, ρ1) => (match op x with
    | some d => some (d, ρ1)
    | none => none)
  | none => none
theorem tOp_of {r : R2} {op : D → D → Option D} (h : OpD r op) (σ : L2.St) (H : Hp) (Q : VK) : tE (dOp op f g) σ H Q → tOp r (tE f) (tE g) σ H Q := by
  rintro ⟨A, ow, ρ, d, ρ', E, hf, q⟩
  unfold dOp at hf
  split at hf
  · rename_i d1 ρ1 h1
    split at hf
    · rename_i d2 ρ2 h2
      split at hf
      · rename_i d3 h3
        cases hf
        refine ⟨A, ow, ρ, d1, ρ1, E, h1, fun v H1 E1 K1 r1 => ⟨A, ow, ρ1, d2, ρ', E1, h2, fun w H2 E2 K2 r2 => ?_⟩⟩
        exact h _ H2 v w d1 d2 d Q (E1.move K2 r1) r2 h3 fun z H3 s3 r3 => q z H3 (E2.same s3) ((K1.trans K2).trans (Kp.same s3)) (E2.ungrow r3)
      · cases hf
    · cases hf
  · cases hf
theorem tUn_of {r : V → Hp → VK → Prop} {op : D → Option D} (h : UnD r op) (σ : L2.St) (H : Hp) (Q : VK) : tE (dUn op f) σ H Q → tUn r (tE f) σ H Q := by
  rintro ⟨A, ow, ρ, d, ρ', E, hf, q⟩
  unfold dUn at hf
  split at hf
  · rename_i d1 ρ1 h1
    split at hf
    · rename_i d3 h3
      cases hf
      refine ⟨A, ow, ρ, d1, ρ', E, h1, fun v H1 E1 K1 r1 => ?_⟩
      exact h _ H1 v d1 d Q r1 h3 fun z H3 s3 r3 => q z H3 (E1.same s3) (K1.trans (Kp.same s3)) (E1.ungrow r3)
    · cases hf
  · cases hf
theorem tCB_of {r : List V → Hp → VK → Prop} {op : List D → Option D} (h : CallD r op) (σ : L2.St) (H : Hp) (Q : VK) : tE (dCall op k) σ H Q → tCB r (tA k) σ H Q := by
  rintro ⟨A, ow, ρ, d, ρ', E, hf, q⟩
  unfold dCall at hf
  split at hf
  · rename_i d1 ρ1 h1
    split at hf
    · rename_i d3 h3
      cases hf
      refine ⟨A, ow, ρ, d1, ρ', E, h1, fun v H1 E1 K1 r1 => ?_⟩
      exact h _ H1 v d1 d Q r1 h3 fun z H3 s3 r3 => q z H3 (E1.same s3) (K1.trans (Kp.same s3)) (E1.ungrow r3)
    · cases hf
  · cases hf
theorem e_op {o : Operator} {r : R2} {op : D → D → Option D} (ho : OpR X (binaryOp o) r) (h : OpD r op) (ha : PE X a (tE f)) (hb : PE X b (tE g)) : PE X (.BinOp a o b pos) (tE (dOp op f g)) := PE.weak (pe_op ho ha hb) (tOp_of h)
theorem e_un {o : UnaryOp} {r : V → Hp → VK → Prop} {op : D → Option D} (ho : UnR X (unaryOp o) r) (h : UnD r op) (ha : PE X a (tE f)) : PE X (.UnaryOp o a pos) (tE (dUn op f)) := PE.weak (pe_un ho ha) (tUn_of h)
theorem e_cmp {o : CmpOp} {r : R2} {op : D → D → Option D} (ho : OpR X (compareOp o) r) (h : OpD r op) (ha : PE X a (tE f)) (hb : PE X b (tE g)) (hm : behindInMarks o b = false) : PE X (.Compare a [o] [b] pos) (tE (dOp op f g)) := PE.weak (pe_cmpR ho ha hb hm) (tOp_of h)
/-! calls of defs of the text that change nothing -/
def spD (m : List D → Option D) : Sp := fun vs H Q _ => ∃ (G : Addr → Prop) (ds : List D) (d : D), RepL G H vs ds ∧ m ds = some d ∧ ∀ v H', Same H H' → Rep (Gr G H) H' v d → Q v H'
end
end Dn

set_option Elab.async false
set_option linter.all false
set_option maxRecDepth 100000
/-! Statements, targets, loops, list comprehensions by data. -/
namespace Dn
open PySem PySem.Spec PyProof.Rows L2

section
variable {A : An} {ow ow' : Ow} {H H' : Hp} {σ : L2.St} {ρ : DE}
theorem get_set {α : Type} {l : List α} {i j : Nat} {x y : α} (h : (l.set i x)[j]? = some y) : (j = i ∧ y = x ∧ i < l.length) ∨ (j ≠ i ∧ l[j]? = some y) := by
  by_cases e : j = i
  · subst e
    by_cases hl : j < l.length
    · rw [List.getElem?_set_self hl] at h
      exact .inl ⟨rfl, (Option.some.inj h).symm, hl⟩
    · rw [List.getElem?_eq_none (by simpa using hl)] at h
      cases h
  · rw [List.getElem?_set_ne (Ne.symm e)] at h
    exact .inr ⟨e, h⟩
/-- a slot takes data (its own object, if any, is let go) -/
def setDat (ρ : DE) (i : Nat) (d : D) : Option DE := match ρ[i]? with
  | some .un => some (ρ.set i (.dat d))
  | some (.dat _) => some (ρ.set i (.dat d))
  | some (.own _) => some (ρ.set i (.dat d))
  | _ => none
def owOff (ow : Ow) (i : Nat) : Ow := fun j => if j = i then none else ow j
theorem NOw.off {i : Nat} {a : Addr} (h : NOw ow a) : NOw (owOff ow i) a := fun j e => by
  unfold owOff at e
  split at e
  · cases e
  · exact h j e
theorem EnvR.off (E : EnvR A ow H σ ρ) {i : Nat} {v : V} {s : Sl} (hs : s = .un ∨ ∃ d, s = .dat d ∧ Rep (Fz A ow) H v d) (hi : ∃ z, ρ[i]? = some z ∧ ∀ o, z ≠ .bor o) : EnvR A (owOff ow i) H (σ.set i (some v)) (ρ.set i s) := by
  have k : Kp ow H (owOff ow i) H := ⟨fun a o h n => ⟨h, n.off⟩⟩
  have mv : ∀ {p : Addr} {o : Ob}, OwnAt (Fz A ow) H p o → OwnAt (Fz A (owOff ow i)) H p o := fun {p o} h => by
    cases o with
    | lst ds => obtain ⟨xs, h1, h2⟩ := h; exact ⟨xs, h1, E.moveL k h2⟩
    | dk ds => obtain ⟨xs, h1, h2⟩ := h; exact ⟨xs, h1, E.moveK k h2⟩
  have loc : ∀ p, ow i = some p → A.H p = none := fun p e => by
    obtain ⟨o, h⟩ := E.only i p e
    rcases h with h | h
    · obtain ⟨q, h1, _, _, h4⟩ := E.own i o h
      rw [e] at h1; cases h1; exact h4
    · obtain ⟨z, hz, hn⟩ := hi
      rw [h] at hz; cases hz; exact absurd rfl (hn o)
  have sd : ∀ d, s = .dat d → Rep (Fz A ow) H v d := fun d e => by
    rcases hs with z | ⟨d', z, r⟩
    · rw [z] at e; cases e
    · rw [z] at e; cases e; exact r
  have nob : (∀ o, s ≠ .own o) ∧ ∀ o, s ≠ .bor o := by
    rcases hs with z | ⟨d', z, r⟩ <;> subst z <;> exact ⟨fun o e => (nomatch e), fun o e => (nomatch e)⟩
  refine ⟨by simp [E.len], fun a o h n => ?_, fun j d h => ?_, fun j o h => ?_, fun j o h => ?_, fun j l p h1 h2 => ?_, fun j p h => ?_, fun j p h => ?_, fun j p h => ?_⟩
  · by_cases hn : NOw ow a
    · exact E.kp a o h hn
    · exfalso
      unfold NOw at hn
      simp only [ne_eq, Classical.not_forall, Classical.not_not] at hn
      obtain ⟨j, hj⟩ := hn
      by_cases ji : j = i
      · subst ji
        rw [loc a hj] at h; cases h
      · exact n j (by unfold owOff; rw [if_neg ji]; exact hj)
  · rcases get_set h with ⟨rfl, e, hl⟩ | ⟨ne, h⟩
    · refine ⟨v, List.getElem?_set_self (by rw [E.len]; exact hl), E.move k (sd d e.symm)⟩
    · obtain ⟨w, h1, h2⟩ := E.dat j d h
      exact ⟨w, by rw [List.getElem?_set_ne (Ne.symm ne)]; exact h1, E.move k h2⟩
  · rcases get_set h with ⟨rfl, e, hl⟩ | ⟨ne, h⟩
    · exact absurd e.symm (nob.1 o)
    · obtain ⟨p, h1, h2, h3, h4⟩ := E.own j o h
      exact ⟨p, by unfold owOff; rw [if_neg ne]; exact h1, by rw [List.getElem?_set_ne (Ne.symm ne)]; exact h2, mv h3, h4⟩
  · rcases get_set h with ⟨rfl, e, hl⟩ | ⟨ne, h⟩
    · exact absurd e.symm (nob.2 o)
    · obtain ⟨p, h1, h2, h3, h4⟩ := E.bor j o h
      exact ⟨p, by unfold owOff; rw [if_neg ne]; exact h1, by rw [List.getElem?_set_ne (Ne.symm ne)]; exact h2, mv h3, h4⟩
  · unfold owOff at h1 h2
    split at h1
    · cases h1
    · split at h2
      · cases h2
      · exact E.inj j l p h1 h2
  · unfold owOff at h
    split at h
    · cases h
    · exact E.fr j p h
  · unfold owOff at h
    split at h
    · cases h
    · exact E.there j p h
  · unfold owOff at h
    split at h
    · cases h
    · rename_i ne
      obtain ⟨o, h1⟩ := E.only j p h
      exact ⟨o, by rw [List.getElem?_set_ne (Ne.symm ne)]; exact h1⟩
theorem kpOff {i : Nat} : Kp ow H (owOff ow i) H := ⟨fun a o h n => ⟨h, n.off⟩⟩
theorem EnvR.setDat (E : EnvR A ow H σ ρ) {i : Nat} {v : V} {d : D} {ρ' : DE} (r : Rep (Fz A ow) H v d) (h : setDat ρ i d = some ρ') : EnvR A (owOff ow i) H (σ.set i (some v)) ρ' := by
  unfold Dn.setDat at h
  split at h
  · rename_i e; cases h; exact E.off (.inr ⟨d, rfl, r⟩) ⟨_, e, fun o z => nomatch z⟩
  · rename_i e; cases h; exact E.off (.inr ⟨d, rfl, r⟩) ⟨_, e, fun o z => nomatch z⟩
  · rename_i e; cases h; exact E.off (.inr ⟨d, rfl, r⟩) ⟨_, e, fun o z => nomatch z⟩
  · cases h
/-- a slot takes a new object of its own -/
def owOn (ow : Ow) (i : Nat) (p : Addr) : Ow := fun j => if j = i then some p else ow j
def setOwn (ρ : DE) (i : Nat) (o : Ob) : Option DE := match ρ[i]? with
  | some (.bor _) => none
  | some _ => some (ρ.set i (.own o))
  | none => none
theorem EnvR.on (E : EnvR A ow H σ ρ) (e : Same H H') {i : Nat} {p : Addr} {o : Ob} {u : HO} {ρ' : DE} (hp : H p = none) (hu : H' p = some u) (ht : isTup u = false)
    (ho : OwnAt (fun a => Fz A ow a ∧ a ≠ p) H' p o) (hso : setOwn ρ i o = some ρ') : EnvR A (owOn ow i p) H' (σ.set i (some (.ref p))) ρ' ∧ Kp ow H (owOn ow i p) H' := by
  obtain ⟨z, hz, hb, rfl⟩ : ∃ z, ρ[i]? = some z ∧ (∀ o, z ≠ .bor o) ∧ ρ' = ρ.set i (.own o) := by
    unfold setOwn at hso
    split at hso
    · cases hso
    · rename_i z hn ez
      cases hso
      exact ⟨z, ez, fun o e => hn o e, rfl⟩
    · cases hso
  clear hso
  have E1 := E.off (v := V.non) (s := .un) (.inl rfl) ⟨z, hz, hb⟩
  have fp := E.fresh hp
  have k : Kp ow H (owOn ow i p) H' := ⟨fun a o h n => ⟨e a o h, fun j q => by
    unfold owOn at q
    split at q
    · cases q; rw [hp] at h; cases h
    · exact n j q⟩⟩
  have hil : i < ρ.length := (List.getElem?_eq_some_iff.mp hz).1
  have mv : ∀ {q : Addr} {o : Ob}, OwnAt (Fz A ow) H q o → OwnAt (Fz A (owOn ow i p)) H' q o := fun {q o} h => by
    cases o with
    | lst ds => obtain ⟨xs, h1, h2⟩ := h; exact ⟨xs, e _ _ h1, E.moveL k h2⟩
    | dk ds => obtain ⟨xs, h1, h2⟩ := h; exact ⟨xs, e _ _ h1, E.moveK k h2⟩
  have fz : ∀ a, Fz A ow a ∧ a ≠ p → Fz A (owOn ow i p) a := fun a h => ⟨h.1.1, fun j q => by
    unfold owOn at q
    split at q
    · cases q; exact h.2 rfl
    · exact h.1.2 j q⟩
  refine ⟨⟨by simp [E.len], fun a o h n => ?_, fun j d h => ?_, fun j o' h => ?_, fun j o' h => ?_, fun j l q h1 h2 => ?_, fun j q h => ?_, fun j q h => ?_, fun j q h => ?_⟩, k⟩
  · refine e a o (E1.kp a o h fun j q => n j ?_)
    unfold owOff at q
    split at q
    · cases q
    · rename_i ne; unfold owOn; rw [if_neg ne]; exact q
  · rcases get_set h with ⟨rfl, e, hl⟩ | ⟨ne, h⟩
    · cases e
    · obtain ⟨w, h1, h2⟩ := E.dat j d h
      exact ⟨w, by rw [List.getElem?_set_ne (Ne.symm ne)]; exact h1, E.move k h2⟩
  · rcases get_set h with ⟨rfl, ee, hl⟩ | ⟨ne, h⟩
    · cases ee
      refine ⟨p, by unfold owOn; rw [if_pos rfl], List.getElem?_set_self (by rw [E.len]; exact hl), ?_, fp.1.elim (fun hF => ?_) id⟩
      · cases o with
        | lst ds => obtain ⟨xs, h1, h2⟩ := ho; exact ⟨xs, h1, h2.mono (fun a o g q => ⟨fz a g, q⟩) fun a xs q => q⟩
        | dk ds => obtain ⟨xs, h1, h2⟩ := ho; exact ⟨xs, h1, h2.mono (fun a o g q => ⟨fz a g, q⟩) fun a xs q => q⟩
      · cases q : A.H p with
        | none => rfl
        | some o => rw [E.kp p o q fp.2] at hp; cases hp
    · obtain ⟨q, h1, h2, h3, h4⟩ := E.own j o' h
      exact ⟨q, by unfold owOn; rw [if_neg ne]; exact h1, by rw [List.getElem?_set_ne (Ne.symm ne)]; exact h2, mv h3, h4⟩
  · rcases get_set h with ⟨rfl, ee, hl⟩ | ⟨ne, h⟩
    · cases ee
    · obtain ⟨q, h1, h2, h3, h4⟩ := E.bor j o' h
      exact ⟨q, by unfold owOn; rw [if_neg ne]; exact h1, by rw [List.getElem?_set_ne (Ne.symm ne)]; exact h2, mv h3, h4⟩
  · have nofp : ∀ m, ow m ≠ some p := fun m em => by
      obtain ⟨o, q1, _⟩ := E.there m p em
      rw [hp] at q1; cases q1
    unfold owOn at h1 h2
    split at h1
    · rename_i e1
      split at h2
      · rename_i e2; rw [e1, e2]
      · cases h1; exact absurd h2 (nofp _)
    · split at h2
      · cases h2; exact absurd h1 (nofp _)
      · exact E.inj j l q h1 h2
  · unfold owOn at h
    split at h
    · cases h
      refine .inl ?_
      cases q : A.H p with
      | none => rfl
      | some o => rw [E.kp p o q fp.2] at hp; cases hp
    · exact E.fr j q h
  · unfold owOn at h
    split at h
    · cases h; exact ⟨u, hu, ht⟩
    · obtain ⟨o, h1, h2⟩ := E.there j q h
      exact ⟨o, e _ _ h1, h2⟩
  · unfold owOn at h
    split at h
    · rename_i e1; subst e1; cases h; exact ⟨o, .inl (List.getElem?_set_self hil)⟩
    · rename_i ne
      obtain ⟨o', h1⟩ := E.only j q h
      exact ⟨o', by rw [List.getElem?_set_ne (Ne.symm ne)]; exact h1⟩
/-- an own object is written -/
theorem EnvR.put (E : EnvR A ow H σ ρ) {i : Nat} {p : Addr} {o : Ob} {u : HO} (hp : ow i = some p) (ht : isTup u = false)
    (ho : OwnAt (Fz A ow) (upd H p u) p o) {s : Sl} (hs : (∃ o', ρ[i]? = some (.own o') ∧ s = .own o) ∨ (∃ o', ρ[i]? = some (.bor o') ∧ s = .bor o)) : EnvR A ow (upd H p u) σ (ρ.set i s) ∧ Kp ow H ow (upd H p u) := by
  have k : Kp ow H ow (upd H p u) := ⟨fun a o h n => ⟨by rw [upd_ne (fun z => n i (by rw [z]; exact hp))]; exact h, n⟩⟩
  have mv : ∀ {j : Nat} {q : Addr} {o : Ob}, j ≠ i → ow j = some q → OwnAt (Fz A ow) H q o → OwnAt (Fz A ow) (upd H p u) q o := fun {j q o} ne hq h => by
    have nqp : q ≠ p := fun z => ne (E.inj j i q hq (by rw [z]; exact hp))
    cases o with
    | lst ds => obtain ⟨xs, h1, h2⟩ := h; exact ⟨xs, by rw [upd_ne nqp]; exact h1, E.moveL k h2⟩
    | dk ds => obtain ⟨xs, h1, h2⟩ := h; exact ⟨xs, by rw [upd_ne nqp]; exact h1, E.moveK k h2⟩
  have hil : i < ρ.length := by
    rcases hs with ⟨o', h, _⟩ | ⟨o', h, _⟩ <;> exact (List.getElem?_eq_some_iff.mp h).1
  refine ⟨⟨by simp [E.len], fun a o h n => (k.keep a o (E.kp a o h n) n).1, fun j d h => ?_, fun j o' h => ?_, fun j o' h => ?_, E.inj, E.fr, fun j q h => ?_, fun j q h => ?_⟩, k⟩
  · rcases get_set h with ⟨rfl, e, hl⟩ | ⟨ne, h⟩
    · rcases hs with ⟨o', _, e'⟩ | ⟨o', _, e'⟩ <;> rw [e'] at e <;> cases e
    · obtain ⟨w, h1, h2⟩ := E.dat j d h
      exact ⟨w, h1, E.move k h2⟩
  · rcases get_set h with ⟨rfl, e, hl⟩ | ⟨ne, h⟩
    · rcases hs with ⟨o2, h2, e'⟩ | ⟨o2, _, e'⟩
      · rw [e'] at e; cases e
        obtain ⟨q, g1, g2, g3, g4⟩ := E.own j o2 h2
        rw [hp] at g1; cases g1
        exact ⟨p, hp, g2, ho, g4⟩
      · rw [e'] at e; cases e
    · obtain ⟨q, h1, h2, h3, h4⟩ := E.own j o' h
      exact ⟨q, h1, h2, mv ne h1 h3, h4⟩
  · rcases get_set h with ⟨rfl, e, hl⟩ | ⟨ne, h⟩
    · rcases hs with ⟨o2, _, e'⟩ | ⟨o2, h2, e'⟩
      · rw [e'] at e; cases e
      · rw [e'] at e; cases e
        obtain ⟨q, g1, g2, g3, g4⟩ := E.bor j o2 h2
        rw [hp] at g1; cases g1
        exact ⟨p, hp, g2, ho, g4⟩
    · obtain ⟨q, h1, h2, h3, h4⟩ := E.bor j o' h
      exact ⟨q, h1, h2, mv ne h1 h3, h4⟩
  · by_cases e : q = p
    · subst e; exact ⟨u, upd_same, ht⟩
    · obtain ⟨o', h1, h2⟩ := E.there j q h
      exact ⟨o', by rw [upd_ne e]; exact h1, h2⟩
  · by_cases e : j = i
    · subst e
      rcases hs with ⟨o2, _, e'⟩ | ⟨o2, _, e'⟩
      · exact ⟨o, .inl (by rw [e']; exact List.getElem?_set_self hil)⟩
      · exact ⟨o, .inr (by rw [e']; exact List.getElem?_set_self hil)⟩
    · obtain ⟨o', h1⟩ := E.only j q h
      exact ⟨o', by rw [List.getElem?_set_ne (Ne.symm e)]; exact h1⟩
end

/-! ### statements -/
/-- how a statement ends; an error: its class by name, its fields -/
inductive Fl where
  | nx | bk | ct | rt (d : D) | ex (c : Str) (fs : Option (List (Str × D)))
abbrev FS := DE → Option (Fl × DE)
def Rt (A : An) (a : Addr) : Prop := A.F a ∨ A.H a = none
/-- what an error asks: where the classes stand, the wish -/
structure Xw where
  mg : Str → Option Value
  W : WX
/-- no error leaves -/
abbrev Y0 (mg : Str → Option Value) : Xw := ⟨mg, fun _ _ _ _ => False⟩
def ExD (A : An) (H : Hp) (dx : Option Addr) : Option (List (Str × D)) → Prop
  | none => dx = none
  | some fs => ∃ d vs, dx = some d ∧ H d = some (.xd vs) ∧ A.H d = none ∧ RepF (Rt A) H vs fs
def Post (Y : Xw) (A : An) (ow : Ow) (H : Hp) (ρ' : DE) (D : Ends) : Fl → Prop
  | .nx => ∀ σ' H' ow', EnvR A ow' H' σ' ρ' → Kp ow H ow' H' → D.nx σ' H'
  | .bk => ∀ σ' H' ow', EnvR A ow' H' σ' ρ' → Kp ow H ow' H' → D.bk σ' H'
  | .ct => ∀ σ' H' ow', EnvR A ow' H' σ' ρ' → Kp ow H ow' H' → D.ct σ' H'
  | .rt d => ∀ v σ' H' ow', EnvR A ow' H' σ' ρ' → Kp ow H ow' H' → Rep (Rt A) H' v d → D.rt v H'
  | .ex c fs => ∀ C dx σ' H' ow', Y.mg c = some (.ref C) → EnvR A ow' H' σ' ρ' → Kp ow H ow' H' → ExD A H' dx fs → Y.W (.ref C) dx σ' H'
def tS (Y : Xw) (g : FS) : TS := fun D σ H => ∃ A ow ρ fl ρ', EnvR A ow H σ ρ ∧ g ρ = some (fl, ρ') ∧ Post Y A ow H ρ' D fl
theorem Post.kp {Y : Xw} {A : An} {ow ow1 : Ow} {H H1 : Hp} {ρ' : DE} {D : Ends} {fl : Fl} (k : Kp ow H ow1 H1) (h : Post Y A ow H ρ' D fl) : Post Y A ow1 H1 ρ' D fl := by
  cases fl with
  | nx => exact fun σ' H' ow' E' K' => h σ' H' ow' E' (k.trans K')
  | bk => exact fun σ' H' ow' E' K' => h σ' H' ow' E' (k.trans K')
  | ct => exact fun σ' H' ow' E' K' => h σ' H' ow' E' (k.trans K')
  | rt d => exact fun v σ' H' ow' E' K' => h v σ' H' ow' E' (k.trans K')
  | ex c fs => exact fun C dx σ' H' ow' m E' K' => h C dx σ' H' ow' m E' (k.trans K')
def dSeq (g h : FS) : FS := fun ρ => match g ρ with
  | some (.nx, ρ1) => h ρ1
  | r => r
def dNext : FS := fun ρ => some (.nx, ρ)
def dRet (f : FE) : FS := fun ρ => match f ρ with
  | some (d, ρ1) => some (.rt d, ρ1)
  | none => none
def dRetN : FS := fun ρ => some (.rt .non, ρ)
def dIf (t : FT) (g h : FS) : FS := fun ρ => match t ρ with
  | some (true, ρ1) => g ρ1
  | some (false, ρ1) => h ρ1
  | none => none
def dBrk : FS := fun ρ => some (.bk, ρ)
def dCnt : FS := fun ρ => some (.ct, ρ)
section
variable {Y : Xw} {X : Cx} {e : Expr} {st : Stmt} {rest : List Stmt} {f : FE} {g h : FS} {t : FT} {pos : Pos}
theorem ss_nil : PSs X [] (tS Y dNext) := PSs.weak pss_nil fun D σ H ⟨A, ow, ρ, fl, ρ', E, hg, q⟩ => by
  cases hg
  exact q σ H ow E (Kp.refl _ _)
theorem seq_of {D : Ends} {σ : L2.St} {H : Hp} (q : tS Y (dSeq g h) D σ H) : tSeq (tS Y g) (tS Y h) D σ H := by
  obtain ⟨A, ow, ρ, fl, ρ', E, hg, q⟩ := q
  unfold dSeq at hg
  split at hg
  · rename_i ρ1 h1
    exact ⟨A, ow, ρ, .nx, ρ1, E, h1, fun σ' H' ow' E' K' => ⟨A, ow', ρ1, fl, ρ', E', hg, q.kp K'⟩⟩
  · rename_i r hr
    refine ⟨A, ow, ρ, fl, ρ', E, hg, ?_⟩
    cases fl with
    | nx => exact absurd hg (hr ρ')
    | bk => exact q
    | ct => exact q
    | rt d => exact q
    | ex c fs => exact q
theorem ss_cons (h1 : PS X st (tS Y g)) (h2 : PSs X rest (tS Y h)) : PSs X (st :: rest) (tS Y (dSeq g h)) := PSs.weak (pss_cons h1 h2) fun D σ H q => seq_of q
theorem ss_one (h1 : PS X st (tS Y g)) : PSs X [st] (tS Y g) := pss_one h1
theorem s_ret (h1 : PE X e (tE f)) : PS X (.Return (some e) pos) (tS Y (dRet f)) := PS.weak (ps_ret h1) fun D σ H ⟨A, ow, ρ, fl, ρ', E, hg, q⟩ => by
  unfold dRet at hg
  split at hg
  · rename_i d ρ1 h1
    cases hg
    refine ⟨A, ow, ρ, d, ρ', E, h1, fun v H' E' K' r => q v σ H' ow E' K' (r.mono (fun a o g q => ⟨g.1, q⟩) fun a xs q => q)⟩
  · cases hg
theorem s_retN : PS X (.Return none pos) (tS Y dRetN) := PS.weak ps_retN fun D σ H ⟨A, ow, ρ, fl, ρ', E, hg, q⟩ => by
  cases hg
  exact q _ σ H ow E (Kp.refl _ _) .non
theorem s_pass : PS X (.Pass pos) (tS Y dNext) := PS.weak ps_pass fun D σ H ⟨A, ow, ρ, fl, ρ', E, hg, q⟩ => by
  cases hg
  exact q σ H ow E (Kp.refl _ _)
theorem s_brk : PS X (.Break pos) (tS Y dBrk) := PS.weak ps_break fun D σ H ⟨A, ow, ρ, fl, ρ', E, hg, q⟩ => by
  cases hg
  exact q σ H ow E (Kp.refl _ _)
theorem s_cnt : PS X (.Continue pos) (tS Y dCnt) := PS.weak ps_continue fun D σ H ⟨A, ow, ρ, fl, ρ', E, hg, q⟩ => by
  cases hg
  exact q σ H ow E (Kp.refl _ _)
theorem s_if {c : Expr} {a b : List Stmt} (hc : PT X c (tT t)) (ha : PSs X a (tS Y g)) (hb : PSs X b (tS Y h)) : PS X (.If c a b pos) (tS Y (dIf t g h)) := PS.weak (ps_if hc ha hb) fun D σ H ⟨A, ow, ρ, fl, ρ', E, hg, q⟩ => by
  unfold dIf at hg
  split at hg
  · rename_i ρ1 h1
    refine ⟨A, ow, ρ, true, ρ1, E, h1, fun H' E' K' => ?_⟩
    refine iteT ?_
    exact ⟨A, ow, ρ1, fl, ρ', E', hg, q.kp K'⟩
  · rename_i ρ1 h1
    refine ⟨A, ow, ρ, false, ρ1, E, h1, fun H' E' K' => ?_⟩
    refine iteF ?_
    exact ⟨A, ow, ρ1, fl, ρ', E', hg, q.kp K'⟩
  · cases hg
/-- x = e -/
def dAsg (i : Nat) (f : FE) : FS := fun ρ => match f ρ with
  | some (d, ρ1) => (match setDat ρ1 i d with
    | some ρ2 => some (.nx, ρ2)
    | none => none)
  | none => none
theorem s_set (i : Nat) {x : Str} {pos' : Pos} (hN : X.N.Nodup) (he : PE X e (tE f)) (hi : X.N[i]? = some x := by rfl) (hx : Loc X.env.scope x := by first | exact Or.inl rfl | exact Or.inr rfl) (hs : swapsWith e (some (.Name x pos')) pos.line X.env = pure false := by rfl) (hf : X.fn x = true ∨ X.env.scope.names.lookup x = some .local := by first | exact .inl rfl | exact .inr rfl | assumption) :
    PS X (.Assign [.Name x pos'] e pos) (tS Y (dAsg i f)) := PS.weak (ps_set (i := i) hN hi hx he hs hf) fun D σ H ⟨A, ow, ρ, fl, ρ', E, hg, q⟩ => by
  unfold dAsg at hg
  split at hg
  · rename_i d ρ1 h1
    split at hg
    · rename_i ρ2 h2
      cases hg
      exact ⟨A, ow, ρ, d, ρ1, E, h1, fun v H' E' K' r => q _ H' _ (E'.setDat r h2) (K'.trans kpOff)⟩
    · cases hg
  · cases hg
/-- an expression whose value is dropped -/
def dDrop (f : FE) : FS := fun ρ => match f ρ with
  | some (_, ρ1) => some (.nx, ρ1)
  | none => none
theorem s_expr (he : PE X e (tE f)) (hs : swapsWith e none pos.line X.env = pure false := by rfl) : PS X (.Expr e pos) (tS Y (dDrop f)) := PS.weak (ps_expr he hs) fun D σ H ⟨A, ow, ρ, fl, ρ', E, hg, q⟩ => by
  unfold dDrop at hg
  split at hg
  · rename_i d ρ1 h1
    cases hg
    exact ⟨A, ow, ρ, d, ρ', E, h1, fun v H' E' K' r => q σ H' ow E' K'⟩
  · cases hg
end

/-! ### tests -/
section
variable {Y : Xw} {X : Cx} {a b c : Expr} {f g k : FE} {t u : FT} {pos : Pos} {rest : List Expr}
/-- a value that is a bool, as a test -/
def dB (f : FE) : FT := fun ρ => match f ρ with
  | some (.bl k, ρ1) => some (k, ρ1)
  | _ => none
theorem t_val (h : PE X a (tE f)) (he : ∀ whole, isTrue a X.env whole = (do let v ← whole; standAt a.pos; holding [v] (truthy v)) := by intro _; rfl) : PT X a (tT (dB f)) := PT.weak (pt_val h he) fun σ H Q ⟨A, ow, ρ, d, ρ', E, hg, q⟩ => by
  unfold dB at hg
  split at hg
  · rename_i d ρ1 h1
    cases hg
    refine ⟨A, ow, ρ, _, ρ', E, h1, fun v H' E' K' r => ?_⟩
    cases r
    exact ⟨_, rfl, q H' E' K'⟩
  · cases hg
theorem t_cmp {o : CmpOp} {r : R2} {op : D → D → Option D} (ho : OpR X (compareOp o) r) (h : OpD r op) (ha : PE X a (tE f)) (hb : PE X b (tE g)) (hm : behindInMarks o b = false) : PT X (.Compare a [o] [b] pos) (tT (dB (dOp op f g))) :=
  PT.weak (pt_cmpR ho ha hb hm) fun σ H Q ⟨A, ow, ρ, d, ρ', E, hg, q⟩ => by
  unfold dB at hg
  split at hg
  · rename_i d ρ1 h1
    cases hg
    refine tOp_of h σ H _ ⟨A, ow, ρ, _, ρ', E, h1, fun v H' E' K' r => ?_⟩
    cases r
    exact ⟨_, rfl, q H' E' K'⟩
  · cases hg
def dNotT (t : FT) : FT := fun ρ => match t ρ with
  | some (b, ρ1) => some (!b, ρ1)
  | none => none
theorem t_not (ha : PT X a (tT t)) : PT X (.UnaryOp .Not a pos) (tT (dNotT t)) := PT.weak (pt_not ha) fun σ H Q ⟨A, ow, ρ, d, ρ', E, hg, q⟩ => by
  unfold dNotT at hg
  split at hg
  · rename_i d ρ1 h1
    cases hg
    exact ⟨A, ow, ρ, d, ρ', E, h1, fun H' E' K' => q H' E' K'⟩
  · cases hg
def dAndT (t u : FT) : FT := fun ρ => match t ρ with
  | some (true, ρ1) => u ρ1
  | r => r
def dOrT (t u : FT) : FT := fun ρ => match t ρ with
  | some (false, ρ1) => u ρ1
  | r => r
theorem PW.weak {X : Cx} {e : Expr} {t t' : TT} (h : PW X e t) (w : ∀ σ H Q, t' σ H Q → t σ H Q) : PW X e t' := ⟨fun wh pins s σ H Q I q => h.run wh pins s σ H Q I (w _ _ _ q)⟩
theorem w_and1 (ha : PT X a (tT t)) : PW X (.BoolOp .And [a] pos) (tT t) := pw_and1 ha
theorem w_or1 (ha : PT X a (tT t)) : PW X (.BoolOp .Or [a] pos) (tT t) := pw_or1 ha
theorem w_and (ha : PT X a (tT t)) (hb : PW X (.BoolOp .And (b :: rest) pos) (tT u)) : PW X (.BoolOp .And (a :: b :: rest) pos) (tT (dAndT t u)) := PW.weak (pw_and ha hb) fun σ H Q ⟨A, ow, ρ, d, ρ', E, hg, q⟩ => by
  unfold dAndT at hg
  split at hg
  · rename_i ρ1 h1
    refine ⟨A, ow, ρ, true, ρ1, E, h1, fun H' E' K' => ?_⟩
    refine iteT ?_
    exact ⟨A, ow, ρ1, d, ρ', E', hg, fun H2 E2 K2 => q H2 E2 (K'.trans K2)⟩
  · rename_i r hr
    refine ⟨A, ow, ρ, d, ρ', E, hg, fun H' E' K' => ?_⟩
    cases d with
    | true => exact absurd hg (hr ρ')
    | false => refine iteF ?_; exact q H' E' K'
theorem w_or (ha : PT X a (tT t)) (hb : PW X (.BoolOp .Or (b :: rest) pos) (tT u)) : PW X (.BoolOp .Or (a :: b :: rest) pos) (tT (dOrT t u)) := PW.weak (pw_or ha hb) fun σ H Q ⟨A, ow, ρ, d, ρ', E, hg, q⟩ => by
  unfold dOrT at hg
  split at hg
  · rename_i ρ1 h1
    refine ⟨A, ow, ρ, false, ρ1, E, h1, fun H' E' K' => ?_⟩
    refine iteF ?_
    exact ⟨A, ow, ρ1, d, ρ', E', hg, fun H2 E2 K2 => q H2 E2 (K'.trans K2)⟩
  · rename_i r hr
    refine ⟨A, ow, ρ, d, ρ', E, hg, fun H' E' K' => ?_⟩
    cases d with
    | false => exact absurd hg (hr ρ')
    | true => refine iteT ?_; exact q H' E' K'
/-- .. as values -/
def dAndV (f g : FE) : FE := fun ρ => match f ρ with
  | some (.bl true, ρ1) => g ρ1
  | some (.bl false, ρ1) => some (.bl false, ρ1)
  | _ => none
def dOrV (f g : FE) : FE := fun ρ => match f ρ with
  | some (.bl false, ρ1) => g ρ1
  | some (.bl true, ρ1) => some (.bl true, ρ1)
  | _ => none
def dNotV (f : FE) : FE := fun ρ => match f ρ with
  | some (.bl k, ρ1) => some (.bl (!k), ρ1)
  | _ => none
theorem e_one {op} (h : PE X a (tE f)) : PE X (.BoolOp op [a] pos) (tE f) := pe_one h
theorem e_and (ha : PE X a (tE f)) (hb : PE X (.BoolOp .And (b :: rest) pos) (tE g)) : PE X (.BoolOp .And (a :: b :: rest) pos) (tE (dAndV f g)) := PE.weak (pe_and ha hb) fun σ H Q ⟨A, ow, ρ, d, ρ', E, hg, q⟩ => by
  unfold dAndV at hg
  split at hg
  · rename_i ρ1 h1
    refine ⟨A, ow, ρ, _, ρ1, E, h1, fun v H' E' K' r => ?_⟩
    cases r
    refine ⟨true, rfl, ?_⟩
    refine iteT ?_
    exact ⟨A, ow, ρ1, d, ρ', E', hg, fun v H2 E2 K2 r => q v H2 E2 (K'.trans K2) r⟩
  · rename_i ρ1 h1
    cases hg
    refine ⟨A, ow, ρ, _, ρ', E, h1, fun v H' E' K' r => ?_⟩
    cases r
    refine ⟨false, rfl, ?_⟩
    refine iteF ?_
    exact q _ H' E' K' (.bl _)
  · cases hg
theorem e_or (ha : PE X a (tE f)) (hb : PE X (.BoolOp .Or (b :: rest) pos) (tE g)) : PE X (.BoolOp .Or (a :: b :: rest) pos) (tE (dOrV f g)) := PE.weak (pe_or ha hb) fun σ H Q ⟨A, ow, ρ, d, ρ', E, hg, q⟩ => by
  unfold dOrV at hg
  split at hg
  · rename_i ρ1 h1
    refine ⟨A, ow, ρ, _, ρ1, E, h1, fun v H' E' K' r => ?_⟩
    cases r
    refine ⟨false, rfl, ?_⟩
    refine iteF ?_
    exact ⟨A, ow, ρ1, d, ρ', E', hg, fun v H2 E2 K2 r => q v H2 E2 (K'.trans K2) r⟩
  · rename_i ρ1 h1
    cases hg
    refine ⟨A, ow, ρ, _, ρ', E, h1, fun v H' E' K' r => ?_⟩
    cases r
    refine ⟨true, rfl, ?_⟩
    refine iteT ?_
    exact q _ H' E' K' (.bl _)
  · cases hg
theorem e_not (ha : PE X a (tE f)) : PE X (.UnaryOp .Not a pos) (tE (dNotV f)) := PE.weak (pe_not ha) fun σ H Q ⟨A, ow, ρ, d, ρ', E, hg, q⟩ => by
  unfold dNotV at hg
  split at hg
  · rename_i k ρ1 h1
    cases hg
    refine ⟨A, ow, ρ, _, ρ', E, h1, fun v H' E' K' r => ?_⟩
    cases r
    exact ⟨_, rfl, q _ H' E' K' (.bl _)⟩
  · cases hg
def dIfE (t : FT) (f g : FE) : FE := fun ρ => match t ρ with
  | some (true, ρ1) => f ρ1
  | some (false, ρ1) => g ρ1
  | none => none
theorem e_if (hc : PT X c (tT t)) (ha : PE X a (tE f)) (hb : PE X b (tE g)) : PE X (.IfExp c a b pos) (tE (dIfE t f g)) := PE.weak (pe_ifExp hc ha hb) fun σ H Q ⟨A, ow, ρ, d, ρ', E, hg, q⟩ => by
  unfold dIfE at hg
  split at hg
  · rename_i ρ1 h1
    refine ⟨A, ow, ρ, true, ρ1, E, h1, fun H' E' K' => ?_⟩
    refine iteT ?_
    exact ⟨A, ow, ρ1, d, ρ', E', hg, fun v H2 E2 K2 r => q v H2 E2 (K'.trans K2) r⟩
  · rename_i ρ1 h1
    refine ⟨A, ow, ρ, false, ρ1, E, h1, fun H' E' K' => ?_⟩
    refine iteF ?_
    exact ⟨A, ow, ρ1, d, ρ', E', hg, fun v H2 E2 K2 r => q v H2 E2 (K'.trans K2) r⟩
  · cases hg
/-- a op1 b op2 c -/
def dChain (op op' : D → D → Option D) (f g k : FE) : FE := fun ρ => match f ρ with
  | some (x, ρ1) => (match g ρ1 with
    | some (y, ρ2) => (match op x y with
      | some (.bl true) => (match k ρ2 with
        | some (z, ρ3) => (match op' y z with
          | some d => some (d, ρ3)
          | none => none)
        | none => none)
      | some (.bl false) => some (.bl false, ρ2)
      | _ => none)
    | none => none)
  | none => none
theorem chain_of {r r' : R2} {op op' : D → D → Option D} (h : OpD r op) (h' : OpD r' op') (σ : L2.St) (H : Hp) (Q : VK) : tE (dChain op op' f g k) σ H Q → tChain r r' (tE f) (tE g) (tE k) σ H Q := by
  rintro ⟨A, ow, ρ, d, ρ', E, hg, q⟩
  unfold dChain at hg
  split at hg
  · rename_i x ρ1 h1
    split at hg
    · rename_i y ρ2 h2
      refine ⟨A, ow, ρ, x, ρ1, E, h1, fun v H1 E1 K1 r1 => ⟨A, ow, ρ1, y, ρ2, E1, h2, fun w H2 E2 K2 r2 => ?_⟩⟩
      split at hg
      · rename_i h3
        refine h _ H2 v w x y _ _ (E1.move K2 r1) r2 h3 fun z H3 s3 r3 => ?_
        cases r3
        refine ⟨true, rfl, ?_⟩
        refine iteT ?_
        have E3 := E2.same s3
        split at hg
        · rename_i z ρ3 h4
          split at hg
          · rename_i d' h5
            cases hg
            refine ⟨A, ow, ρ2, z, ρ', E3, h4, fun u H4 E4 K4 r4 => ?_⟩
            exact h' _ H4 w u y z d Q (E3.move K4 (E2.move (Kp.same s3) r2)) r4 h5 fun v5 H5 s5 r5 => q v5 H5 (E4.same s5) ((((K1.trans K2).trans (Kp.same s3)).trans K4).trans (Kp.same s5)) (E4.ungrow r5)
          · cases hg
        · cases hg
      · rename_i h3
        cases hg
        refine h _ H2 v w x y _ _ (E1.move K2 r1) r2 h3 fun z H3 s3 r3 => ?_
        cases r3
        refine ⟨false, rfl, ?_⟩
        refine iteF ?_
        exact q _ H3 (E2.same s3) ((K1.trans K2).trans (Kp.same s3)) (.bl _)
      · cases hg
    · cases hg
  · cases hg
theorem e_chain {o o' : CmpOp} {r r' : R2} {op op' : D → D → Option D} (ho : OpR X (compareOp o) r) (h : OpD r op) (ho' : OpR X (compareOp o') r') (h' : OpD r' op') (ha : PE X a (tE f)) (hb : PE X b (tE g)) (hc : PE X c (tE k))
    (hm : lastMarks [o, o'] [b, c] = false := by with_unfolding_all rfl) : PE X (.Compare a [o, o'] [b, c] pos) (tE (dChain op op' f g k)) := PE.weak (pe_chain ho ho' ha hb hc hm) (chain_of h h')
theorem t_chain {o o' : CmpOp} {r r' : R2} {op op' : D → D → Option D} (ho : OpR X (compareOp o) r) (h : OpD r op) (ho' : OpR X (compareOp o') r') (h' : OpD r' op') (ha : PE X a (tE f)) (hb : PE X b (tE g)) (hc : PE X c (tE k))
    (hm : lastMarks [o, o'] [b, c] = false := by with_unfolding_all rfl) : PT X (.Compare a [o, o'] [b, c] pos) (tT (dB (dChain op op' f g k))) := PT.weak (pt_chain ho ho' ha hb hc hm) fun σ H Q ⟨A, ow, ρ, d, ρ', E, hg, q⟩ => by
  unfold dB at hg
  split at hg
  · rename_i d ρ1 h1
    cases hg
    refine chain_of h h' σ H _ ⟨A, ow, ρ, _, ρ', E, h1, fun v H' E' K' r => ?_⟩
    cases r
    exact ⟨_, rfl, q H' E' K'⟩
  · cases hg
end
end Dn

set_option Elab.async false
set_option linter.all false
set_option maxRecDepth 100000
/-! Targets, loops, list comprehensions, own lists, defs. -/
namespace Dn
open PySem PySem.Spec PyProof.Rows L2

/-! ### targets -/
abbrev FG := D → DE → Option DE
/-- ss: the slots that are stored -/
def tG (g : FG) (ss : List Nat) : TG := fun v σ H Q => ∃ A ow ρ d ρ', EnvR A ow H σ ρ ∧ Rep (Fz A ow) H v d ∧ g d ρ = some ρ' ∧
  ∀ σ', EnvR A ow H σ' ρ' → (∀ vs : List Nat, (∀ i ∈ ss, i ∈ vs) → wipe σ' vs = wipe σ vs) → Q σ' H
abbrev FGs := List D → DE → Option DE
def tGs (g : FGs) (ss : List Nat) : TGs := fun v σ H Q => ∃ A ow ρ d ρ', EnvR A ow H σ ρ ∧ RepL (Fz A ow) H v d ∧ g d ρ = some ρ' ∧
  ∀ σ', EnvR A ow H σ' ρ' → (∀ vs : List Nat, (∀ i ∈ ss, i ∈ vs) → wipe σ' vs = wipe σ vs) → Q σ' H
def isDat (s : Option Sl) : Bool := match s with
  | some .un => true
  | some (.dat _) => true
  | _ => false
def gSet (i : Nat) : FG := fun d ρ => if isDat ρ[i]? = true then some (ρ.set i (.dat d)) else none
theorem EnvR.noOw {A : An} {ow : Ow} {H : Hp} {σ : L2.St} {ρ : DE} (E : EnvR A ow H σ ρ) {i : Nat} (h : isDat ρ[i]? = true) : ow i = none := by
  cases q : ow i with
  | none => rfl
  | some p =>
    obtain ⟨o, z | z⟩ := E.only i p q <;> rw [z] at h <;> cases h
theorem EnvR.offSame {A : An} {ow : Ow} {H : Hp} {σ : L2.St} {ρ : DE} (E : EnvR A ow H σ ρ) {i : Nat} (h : isDat ρ[i]? = true) : owOff ow i = ow := by
  funext j
  unfold owOff
  split
  · rename_i e; subst e; exact (E.noOw h).symm
  · rfl
theorem isDat_some {ρ : DE} {i : Nat} (h : isDat ρ[i]? = true) : ∃ z, ρ[i]? = some z ∧ ∀ o, z ≠ .bor o := by
  cases q : ρ[i]? with
  | none => rw [q] at h; cases h
  | some z =>
    rw [q] at h
    exact ⟨z, rfl, fun o e => by subst e; cases h⟩
theorem EnvR.set1 {A : An} {ow : Ow} {H : Hp} {σ : L2.St} {ρ : DE} (E : EnvR A ow H σ ρ) {i : Nat} {v : V} {d : D} (r : Rep (Fz A ow) H v d) (h : isDat ρ[i]? = true) : EnvR A ow H (σ.set i (some v)) (ρ.set i (.dat d)) := by
  have := E.off (i := i) (.inr ⟨d, rfl, r⟩) (isDat_some h)
  rw [E.offSame h] at this
  exact this
def gsNil : FGs := fun ds ρ => match ds with
  | [] => some ρ
  | _ => none
def gsCons (g : FG) (k : FGs) : FGs := fun ds ρ => match ds with
  | d :: r => (match g d ρ with
    | some ρ1 => k r ρ1
    | none => none)
  | _ => none
def gTupD (k : FGs) (n : Nat) : FG := fun d ρ => match d with
  | .tup ds => if ds.length = n then k ds ρ else none
  | _ => none
theorem wipe_set (σ : L2.St) {i : Nat} {x : Option V} : ∀ {vs : List Nat}, i ∈ vs → wipe (σ.set i x) vs = wipe σ vs
  | v :: vs, h => by
    unfold wipe
    by_cases e : v = i
    · subst e
      apply List.ext_getElem?
      intro j
      by_cases hj : v = j
      · subst hj
        by_cases hl : v < σ.length
        · rw [List.getElem?_set_self (by rw [wipe_length, List.length_set]; exact hl), List.getElem?_set_self (by rw [wipe_length]; exact hl)]
        · rw [List.getElem?_eq_none (by rw [List.length_set, wipe_length, List.length_set]; omega), List.getElem?_eq_none (by rw [List.length_set, wipe_length]; omega)]
      · rw [List.getElem?_set_ne hj, List.getElem?_set_ne hj]
        by_cases hv : j ∈ vs
        · by_cases hv2 : v ∈ vs
          · rw [wipe_set σ hv2]
          · have aux : ∀ (ws : List Nat) (τ : L2.St), (wipe (τ.set v x) ws)[j]? = (wipe τ ws)[j]? := by
              intro ws
              induction ws with
              | nil => intro τ; exact List.getElem?_set_ne hj
              | cons w ws ih =>
                intro τ
                unfold wipe
                by_cases hw : w = j
                · subst hw
                  by_cases hl : w < τ.length
                  · rw [List.getElem?_set_self (by rw [wipe_length, List.length_set]; exact hl), List.getElem?_set_self (by rw [wipe_length]; exact hl)]
                  · rw [List.getElem?_eq_none (by rw [List.length_set, wipe_length, List.length_set]; omega), List.getElem?_eq_none (by rw [List.length_set, wipe_length]; omega)]
                · rw [List.getElem?_set_ne hw, List.getElem?_set_ne hw]; exact ih τ
            exact aux vs σ
        · rw [wipe_out hv, wipe_out hv, List.getElem?_set_ne hj]
    · have hm : i ∈ vs := by
        rcases List.mem_cons.mp h with z | z
        · exact absurd z.symm e
        · exact z
      rw [wipe_set σ hm]
section
variable {Y : Xw} {X : Cx} {e tg : Expr} {es : List Expr} {g : FG} {k : FGs} {ss sr : List Nat} {pos : Pos}
theorem g_name (i : Nat) {x : Str} (hN : X.N.Nodup) (hi : X.N[i]? = some x := by rfl) (hx : Loc X.env.scope x := by first | exact Or.inl rfl | exact Or.inr rfl) (hf : X.fn x = true ∨ X.env.scope.names.lookup x = some .local := by first | exact .inl rfl | exact .inr rfl | assumption) : PG X (.Name x pos) (tG (gSet i) [i]) := by
  refine ⟨fun pins s σ H v u Q I r ⟨A, ow, ρ, d, ρ', E, hr, hg, q⟩ => ?_⟩
  unfold gSet at hg
  split at hg
  · rename_i hd
    cases hg
    exact (pg_name hN hi hx hf).run pins s σ H v u Q I r (q _ (E.set1 hr hd) fun vs h => wipe_set σ (h i (by simp)))
  · cases hg
theorem gs_nil : PGs X [] (tGs gsNil []) := by
  refine ⟨fun pins s σ H v u Q I r ⟨A, ow, ρ, d, ρ', E, hr, hg, q⟩ => ?_⟩
  refine pgs_nil.run pins s σ H v u Q I r ?_
  unfold gsNil at hg
  split at hg
  · cases hg
    cases hr
    exact ⟨rfl, q σ E fun _ _ => rfl⟩
  · cases hg
theorem gs_cons (h1 : PG X e (tG g ss)) (h2 : PGs X es (tGs k sr)) (hs : (assignEach (e :: es) X.env).map (·.2) = assign e X.env :: (assignEach es X.env).map (·.2) := by rfl) : PGs X (e :: es) (tGs (gsCons g k) (ss ++ sr)) := by
  refine ⟨fun pins s σ H v u Q I r ⟨A, ow, ρ, d, ρ', E, hr, hg, q⟩ => ?_⟩
  refine (pgs_cons h1 h2 hs).run pins s σ H v u Q I r ?_
  unfold gsCons at hg
  split at hg
  · rename_i d1 dr
    split at hg
    · rename_i ρ1 h1
      cases hr with
      | cons ra rb =>
        refine ⟨_, _, rfl, A, ow, ρ, d1, ρ1, E, ra, h1, fun σ1 E1 w1 => ?_⟩
        refine ⟨A, ow, ρ1, dr, ρ', E1, rb, hg, fun σ2 E2 w2 => q σ2 E2 fun vs h => ?_⟩
        rw [w2 vs fun i hi => h i (List.mem_append_right _ hi), w1 vs fun i hi => h i (List.mem_append_left _ hi)]
    · cases hg
  · cases hg
theorem g_tup {kk n : Nat} (hc : X.calm = true) (h : PGs X es (tGs k ss)) (hn : (assignEach es X.env).length = n := by rfl) (hst : (assignEach es X.env).findIdx? (·.1) = none := by rfl) : PG X (.Tuple es kk pos) (tG (gTupD k n) ss) := by
  refine ⟨fun pins s σ H v u Q I r ⟨A, ow, ρ, d, ρ', E, hr, hg, q⟩ => ?_⟩
  refine (pg_tup hc h hn hst).run pins s σ H v u Q I r ?_
  unfold gTupD at hg
  split at hg
  · rename_i ds
    split at hg
    · rename_i hl
      cases hr with
      | tup ha rl => exact ⟨_, _, rfl, SqT.of ha, rl.length.trans hl, A, ow, ρ, ds, ρ', E, rl, hg, q⟩
    · cases hg
  · cases hg
/-- target = e -/
def dAsgG (f : FE) (g : FG) : FS := fun ρ => match f ρ with
  | some (d, ρ1) => (match g d ρ1 with
    | some ρ2 => some (.nx, ρ2)
    | none => none)
  | none => none
theorem s_asg {f : FE} (he : PE X e (tE f)) (hg : PG X tg (tG g ss)) (hs : swapsWithSole [tg] e pos.line X.env = pure false := by rfl) (hw : swappedStores [tg] e X.env = pure none := by rfl)
    (h1 : (assignEach [tg] X.env).map (·.2) = [assign tg X.env] := by rfl) : PS X (.Assign [tg] e pos) (tS Y (dAsgG f g)) := PS.weak (ps_asg he hg hs hw h1) fun Dd σ H ⟨A, ow, ρ, fl, ρ', E, hg, q⟩ => by
  unfold dAsgG at hg
  split at hg
  · rename_i d ρ1 h1
    split at hg
    · rename_i ρ2 h2
      cases hg
      exact ⟨A, ow, ρ, d, ρ1, E, h1, fun v H' E' K' r => ⟨A, ow, ρ1, d, ρ', E', r, h2, fun σ' E2 _ => q σ' H' ow E2 K'⟩⟩
    · cases hg
  · cases hg
end

/-! ### what is walked -/
/-- what A may read is kept -/
def Kf (A : An) (ow : Ow) (H : Hp) (ow2 : Ow) (H2 : Hp) : Prop := ∀ a o, H a = some o → (Fz A ow a ∨ isTup o = true) → H2 a = some o ∧ NOw ow2 a
theorem EnvR.kf {A : An} {ow ow2 : Ow} {H H2 : Hp} {σ : L2.St} {ρ : DE} (E : EnvR A ow H σ ρ) (k : Kp ow H ow2 H2) : Kf A ow H ow2 H2 := fun a o h g => by
  rcases g with g | g
  · exact k.keep a o h g.2
  · cases o with
    | tup xs => exact k.keep a _ h (E.nowTup h)
    | _ => cases g
def ItD (A : An) (ow : Ow) (H : Hp) (J : It) (ds : List D) : Prop := ∀ ow2 H2, Kf A ow H ow2 H2 →
  J.stop ds.length H2 ∧ ∀ i d, ds[i]? = some d → J.go i H2 ∧ ∀ x H3, J.yld i H2 x H3 → Same H2 H3 ∧ Rep (fun a => (Fz A ow2 a ∧ H a ≠ none) ∨ H2 a = none) H3 x d
abbrev FI := DE → Option (List D × DE)
def tI (f : FI) : TI := fun σ H R => ∃ A ow ρ ds ρ', EnvR A ow H σ ρ ∧ f ρ = some (ds, ρ') ∧ ∀ J H', EnvR A ow H' σ ρ' → Kp ow H ow H' → ItD A ow H' J ds → R J H'
theorem PI.weak {X : Cx} {tg it : Expr} {t t' : TI} (h : PI X tg it t) (w : ∀ σ H Q, t' σ H Q → t σ H Q) : PI X tg it t' := ⟨fun pins s σ H Q I q => h.run pins s σ H Q I (w _ _ _ q)⟩
/-- a list or a tuple -/
def iSq (K : PySem.W.Frag) (tl : TE) : TI := fun σ H R => tl σ H fun x H1 => ∃ a, x = .ref a ∧ ((∃ xs, SqL K H1 a xs) ∧ R (Itl K a) H1 ∨ (∃ xs, SqT K H1 a xs) ∧ R (Itt K a) H1)
theorem pi_sq {X : Cx} {tg l : Expr} {tl : TE} (hl : PE X l tl) : PI X tg l (iSq X.K tl) := by
  refine ⟨fun pins s σ H R I h => ?_⟩
  refine thn (hl.run pins s σ H _ I h) fun v s1 ⟨x, H1, I1, r1, q1⟩ => ?_
  obtain ⟨a, e, q⟩ := q1
  subst e
  cases r1
  rcases q with ⟨⟨xs, hq⟩, q⟩ | ⟨⟨xs, hq⟩, q⟩
  · obtain ⟨its, rv, p, hz⟩ := I1.list hq
    refine wpAny_pyIter_list p.isList ?_
    refine ⟨s1.heap.objs.size, [s1.heap.objs.size], _, _, H1, rfl, I1.kept (t' := s1.toks) fun b o e => Heap.get?_push_of_some _ e, turn_list a _, ⟨_, Heap.get?_push_size _ rfl, rfl, rfl⟩, fun b hb => ?_, q⟩
    have e : b = s1.heap.objs.size := by simpa using hb
    subst e
    exact I1.fpOk (Nat.le_refl _) (I1.hok.fresh (Nat.le_refl _))
  · obtain ⟨its, rv, p, hz⟩ := I1.tuple hq
    refine wpAny_pyIter_tuple (show s1.heap.IsTuple a its.toArray from p) ?_
    refine ⟨s1.heap.objs.size, [s1.heap.objs.size], _, _, H1, rfl, I1.kept (t' := s1.toks) fun b o e => Heap.get?_push_of_some _ e, turn_tuple a _, ⟨_, Heap.get?_push_size _ rfl, rfl, rfl⟩, fun b hb => ?_, q⟩
    have e : b = s1.heap.objs.size := by simpa using hb
    subst e
    exact I1.fpOk (Nat.le_refl _) (I1.hok.fresh (Nat.le_refl _))
def dItems (f : FE) : FI := fun ρ => match f ρ with
  | some (.lst ds, ρ1) => some (ds, ρ1)
  | some (.tup ds, ρ1) => some (ds, ρ1)
  | _ => none

section
variable {X : Cx} {tg e e2 : Expr} {f g : FE} {fa : FA} {pos p : Pos}
theorem itd_list {K : PySem.W.Frag} {A : An} {ow : Ow} {H : Hp} {a : Addr} {xs : List V} {ds : List D} (g : Fz A ow a) (h : H a = some (.lst xs)) (r : RepL (Fz A ow) H xs ds) : ItD A ow H (Itl K a) ds := by
  intro ow2 H2 k
  have h2 := (k a _ h (.inl g)).1
  have r2 : RepL (fun a => (Fz A ow2 a ∧ H a ≠ none) ∨ H2 a = none) H2 xs ds := r.mono (fun a o g q => ⟨.inl ⟨⟨g.1, (k a o q (.inl g)).2⟩, by rw [q]; exact fun z => nomatch z⟩, (k a o q (.inl g)).1⟩) fun a xs q => (k a _ q (.inr rfl)).1
  refine ⟨⟨xs, SqL.of h2, by rw [r2.length]; exact Nat.le_refl _⟩, fun i d hd => ?_⟩
  obtain ⟨y, hy, ry⟩ := r2.get hd
  refine ⟨⟨xs, y, SqL.of h2, hy⟩, fun x H3 ⟨e, q⟩ => ?_⟩
  subst e
  have := q xs (SqL.of h2)
  rw [hy] at this
  cases this
  exact ⟨Same.refl _, ry⟩
theorem itd_tup {K : PySem.W.Frag} {A : An} {ow : Ow} {H : Hp} {a : Addr} {xs : List V} {ds : List D} (h : H a = some (.tup xs)) (r : RepL (Fz A ow) H xs ds) : ItD A ow H (Itt K a) ds := by
  intro ow2 H2 k
  have h2 := (k a _ h (.inr rfl)).1
  have r2 : RepL (fun a => (Fz A ow2 a ∧ H a ≠ none) ∨ H2 a = none) H2 xs ds := r.mono (fun a o g q => ⟨.inl ⟨⟨g.1, (k a o q (.inl g)).2⟩, by rw [q]; exact fun z => nomatch z⟩, (k a o q (.inl g)).1⟩) fun a xs q => (k a _ q (.inr rfl)).1
  refine ⟨⟨xs, SqT.of h2, by rw [r2.length]; exact Nat.le_refl _⟩, fun i d hd => ?_⟩
  obtain ⟨y, hy, ry⟩ := r2.get hd
  refine ⟨⟨xs, y, SqT.of h2, hy⟩, fun x H3 ⟨e, q⟩ => ?_⟩
  subst e
  have := q xs (SqT.of h2)
  rw [hy] at this
  cases this
  exact ⟨Same.refl _, ry⟩
theorem i_sq (he : PE X e (tE f)) : PI X tg e (tI (dItems f)) := PI.weak (pi_sq he) fun σ H R ⟨A, ow, ρ, ds, ρ', E, hf, q⟩ => by
  unfold dItems at hf
  split at hf
  · rename_i ds' ρ1 h1
    cases hf
    refine ⟨A, ow, ρ, _, ρ', E, h1, fun v H' E' K' r => ?_⟩
    cases r with
    | lst ga ha rl => exact ⟨_, rfl, .inl ⟨⟨_, SqL.of ha⟩, q _ H' E' K' (itd_list ga ha rl)⟩⟩
  · rename_i ds' ρ1 h1
    cases hf
    refine ⟨A, ow, ρ, _, ρ', E, h1, fun v H' E' K' r => ?_⟩
    cases r with
    | tup ha rl => exact ⟨_, rfl, .inr ⟨⟨_, SqT.of ha⟩, q _ H' E' K' (itd_tup ha rl)⟩⟩
  · cases hf
def rngD (lo : Int) (n : Nat) : List D := (List.range n).map fun i => D.int (lo + (i : Nat))
theorem itd_rng {A : An} {ow : Ow} {H : Hp} (lo : Int) (n : Nat) : ItD A ow H (Itr lo n) (rngD lo n) := by
  intro ow2 H2 k
  have hl : (rngD lo n).length = n := by simp [rngD]
  refine ⟨by show n ≤ (rngD lo n).length; omega, fun i d hd => ?_⟩
  have hi : i < n := by rw [← hl]; exact (List.getElem?_eq_some_iff.mp hd).1
  refine ⟨hi, fun x H3 ⟨e1, e2⟩ => ?_⟩
  subst e1 e2
  have ed : d = .int (lo + (i : Nat)) := by
    unfold rngD at hd
    rw [List.getElem?_map, List.getElem?_range hi] at hd
    exact (Option.some.inj hd).symm
  subst ed
  exact ⟨Same.refl _, .int _⟩
def okR (j : Int) : Bool := decide (-(2 ^ 62) ≤ j) && decide (j < 2 ^ 62)
theorem okR_iff {j : Int} (h : okR j = true) : -(2 ^ 62) ≤ j ∧ j < 2 ^ 62 := by
  unfold okR at h
  rw [Bool.and_eq_true] at h
  exact ⟨of_decide_eq_true h.1, of_decide_eq_true h.2⟩
def dRng1 (fa : FA) : FI := fun ρ => match fa ρ with
  | some ([.int j], ρ1) => if okR j = true then some (rngD 0 j.toNat, ρ1) else none
  | _ => none
def dRng2 (fa : FA) : FI := fun ρ => match fa ρ with
  | some ([.int i, .int j], ρ1) => if okR i = true ∧ okR j = true then some (rngD i (j - i).toNat, ρ1) else none
  | _ => none
theorem i_rng1 (hm : X.mg "range" = none) (ha : PA X [e] (tA fa)) (hg : Gl X "range" := by rfl) (hs : starEach [e] X.env = [(false, eval e X.env)] := by rfl) : PI X tg (.Call (.Name "range" p) [e] [] pos) (tI (dRng1 fa)) :=
  PI.weak (pi_range1 hg hm ha hs) fun σ H R ⟨A, ow, ρ, ds, ρ', E, hf, q⟩ => by
  unfold dRng1 at hf
  split at hf
  · rename_i j ρ1 h1
    split at hf
    · rename_i hj
      cases hf
      refine ⟨A, ow, ρ, _, ρ', E, h1, fun v H' E' K' r => ?_⟩
      cases r with
      | cons ra rb =>
        cases ra
        cases rb
        exact ⟨j, rfl, (okR_iff hj).1, (okR_iff hj).2, q _ H' E' K' (itd_rng 0 _)⟩
    · cases hf
  · cases hf
theorem i_rng2 (hm : X.mg "range" = none) (ha : PA X [e, e2] (tA fa)) (hg : Gl X "range" := by rfl) (hs : starEach [e, e2] X.env = [(false, eval e X.env), (false, eval e2 X.env)] := by rfl) (hs2 : starEach [e2] X.env = [(false, eval e2 X.env)] := by rfl) :
    PI X tg (.Call (.Name "range" p) [e, e2] [] pos) (tI (dRng2 fa)) := PI.weak (pi_range2 hg hm ha hs hs2) fun σ H R ⟨A, ow, ρ, ds, ρ', E, hf, q⟩ => by
  unfold dRng2 at hf
  split at hf
  · rename_i i j ρ1 h1
    split at hf
    · rename_i hj
      cases hf
      refine ⟨A, ow, ρ, _, ρ', E, h1, fun v H' E' K' r => ?_⟩
      cases r with
      | cons ra rb =>
        cases ra
        cases rb with
        | cons ra rb =>
          cases ra
          cases rb
          exact ⟨i, j, rfl, ⟨(okR_iff hj.1).1, (okR_iff hj.1).2, (okR_iff hj.2).1, (okR_iff hj.2).2⟩, q _ H' E' K' (itd_rng i _)⟩
    · cases hf
  · cases hf
end

/-! ### for -/
def forL (g : FG) (body : FS) : List D → DE → Option (Fl × DE)
  | [], ρ => some (.nx, ρ)
  | d :: ds, ρ => match g d ρ with
    | some ρ1 => (match body ρ1 with
      | some (.nx, ρ2) => forL g body ds ρ2
      | some (.ct, ρ2) => forL g body ds ρ2
      | some (.bk, ρ2) => some (.nx, ρ2)
      | r => r)
    | none => none
def dFor (it : FI) (g : FG) (body : FS) : FS := fun ρ => match it ρ with
  | some (ds, ρ1) => forL g body ds ρ1
  | none => none
theorem s_for {Y : Xw} {X : Cx} {tg iter : Expr} {body : List Stmt} {it : FI} {g : FG} {ss : List Nat} {b : FS} {pos : Pos} (hc : X.calm = true) (hi : PI X tg iter (tI it)) (hg : PG X tg (tG g ss)) (hb : PSs X body (tS Y b)) (hp : PassesOwn (model X.prog X.w) X.A X.env X.xe := by exact PassesOwn.never)
    (hs : ∀ x, foldedSetIterable iter X.env x = pure x := by intro _; rfl) : PS X (.For tg iter body [] pos) (tS Y (dFor it g b)) := PS.weak (ps_for hp hc hi hg hb hs) fun Dd σ H ⟨A, ow, ρ, fl, ρ', E, hf, q⟩ => by
  unfold dFor at hf
  split at hf
  · rename_i ds ρ1 h1
    refine ⟨A, ow, ρ, ds, ρ1, E, h1, fun J H1 E1 K1 hJ => ?_⟩
    refine ⟨fun i m σ2 H2 => m = ds.length - i ∧ i ≤ ds.length ∧ ∃ ow2 ρ2, EnvR A ow2 H2 σ2 ρ2 ∧ Kp ow H1 ow2 H2 ∧ forL g b (ds.drop i) ρ2 = some (fl, ρ'), ⟨ds.length, by simp, Nat.zero_le _, ow, ρ1, E1, Kp.refl _ _, by simpa using hf⟩, ?_⟩
    rintro i m σ2 H2 ⟨rfl, hi, ow2, ρ2, E2, K2, hl⟩
    have hJ2 := hJ ow2 H2 (E1.kf K2)
    by_cases hlt : i < ds.length
    · refine .inr ?_
      have hd : ds[i]? = some ds[i] := List.getElem?_eq_getElem hlt
      obtain ⟨go, yl⟩ := hJ2.2 i _ hd
      rw [List.drop_eq_getElem_cons hlt] at hl
      unfold forL at hl
      split at hl
      · rename_i ρ3 h3
        refine ⟨go, fun σ' H' => ∃ ow4 ρ4, EnvR A ow4 H' σ' ρ4 ∧ Kp ow H1 ow4 H' ∧ forL g b (ds.drop (i + 1)) ρ4 = some (fl, ρ'), fun σ' H' ⟨ow4, ρ4, E4, K4, h4⟩ => ⟨ds.length - (i + 1), by omega, rfl, hlt, ow4, ρ4, E4, K4, h4⟩, fun x H3 y => ?_⟩
        obtain ⟨s3, r3⟩ := yl x H3 y
        have E3 := E2.same s3
        refine ⟨A, ow2, ρ2, ds[i], ρ3, E3, r3.mono (fun a o g q => ⟨g.elim (fun z => z.1) E2.fresh, q⟩) fun a xs q => q, h3, fun σ4 E4 _ => ?_⟩
        have kk : Kp ow H1 ow2 H3 := K2.trans (Kp.same s3)
        cases hb2 : b ρ3 with
        | none => rw [hb2] at hl; cases hl
        | some r =>
          obtain ⟨fl2, ρ4⟩ := r
          refine ⟨A, ow2, ρ3, fl2, ρ4, E4, hb2, ?_⟩
          rw [hb2] at hl
          cases fl2 with
          | nx => exact fun σ5 H5 ow5 E5 K5 => ⟨ow5, ρ4, E5, kk.trans K5, hl⟩
          | ct => exact fun σ5 H5 ow5 E5 K5 => ⟨ow5, ρ4, E5, kk.trans K5, hl⟩
          | bk =>
            cases hl
            exact fun σ5 H5 ow5 E5 K5 => q σ5 H5 ow5 E5 (K1.trans (kk.trans K5))
          | rt d =>
            cases hl
            exact fun v σ5 H5 ow5 E5 K5 => q v σ5 H5 ow5 E5 (K1.trans (kk.trans K5))
          | ex c fs =>
            cases hl
            exact fun C dx σ5 H5 ow5 m E5 K5 => q C dx σ5 H5 ow5 m E5 (K1.trans (kk.trans K5))
      · cases hl
    · refine .inl ?_
      have e : i = ds.length := by omega
      subst e
      refine ⟨hJ2.1, ?_⟩
      rw [List.drop_length] at hl
      unfold forL at hl
      cases hl
      exact q σ2 H2 ow2 E2 (K1.trans K2)
  · cases hf

/-! ### while -/
def whL (c : FT) (b : FS) : Nat → DE → Option (Fl × DE)
  | 0, _ => none
  | n + 1, ρ => match c ρ with
    | some (true, ρ1) => (match b ρ1 with
      | some (.nx, ρ2) => whL c b n ρ2
      | some (.ct, ρ2) => whL c b n ρ2
      | some (.bk, ρ2) => some (.nx, ρ2)
      | r => r)
    | some (false, ρ1) => some (.nx, ρ1)
    | none => none
open Classical in
noncomputable def dWh (c : FT) (b : FS) : FS := fun ρ => if h : ∃ r n, whL c b n ρ = some r then some h.choose else none
theorem whL_more {c : FT} {b : FS} : ∀ {n : Nat} {ρ : DE} {r : Fl × DE}, whL c b n ρ = some r → whL c b (n + 1) ρ = some r
  | 0, _, _, h => by cases h
  | n + 1, ρ, r, h => by
    unfold whL at h ⊢
    cases hc : c ρ with
    | none => rw [hc] at h; cases h
    | some cr =>
      obtain ⟨k, ρ1⟩ := cr
      rw [hc] at h
      cases k with
      | false => exact h
      | true =>
        dsimp only at h ⊢
        cases hb : b ρ1 with
        | none => rw [hb] at h; cases h
        | some fr =>
          obtain ⟨fl, ρ2⟩ := fr
          rw [hb] at h
          cases fl with
          | nx => exact whL_more h
          | ct => exact whL_more h
          | bk => exact h
          | rt d => exact h
          | ex c fs => exact h
theorem whL_mono {c : FT} {b : FS} {n m : Nat} {ρ : DE} {r : Fl × DE} (hnm : n ≤ m) (h : whL c b n ρ = some r) : whL c b m ρ = some r := by
  induction hnm with
  | refl => exact h
  | step _ ih => exact whL_more ih
theorem dWh_of {c : FT} {b : FS} {n : Nat} {ρ : DE} {r : Fl × DE} (h : whL c b n ρ = some r) : dWh c b ρ = some r := by
  unfold dWh
  have hex : ∃ r n, whL c b n ρ = some r := ⟨r, n, h⟩
  rw [dif_pos hex]
  obtain ⟨m, hm⟩ := hex.choose_spec
  have h1 := whL_mono (Nat.le_max_left n m) h
  have h2 := whL_mono (Nat.le_max_right n m) hm
  rw [h1] at h2
  exact h2.symm
theorem s_while {Y : Xw} {X : Cx} {c : Expr} {body : List Stmt} {t : FT} {b : FS} {pos : Pos} (hc : PT X c (tT t)) (hb : PSs X body (tS Y b)) (hp : PassesOwn (model X.prog X.w) X.A X.env X.xe := by exact PassesOwn.never) : PS X (.While c body [] pos) (tS Y (dWh t b)) :=
  PS.weak (ps_while hp hc hb) fun Dd σ H ⟨A, ow, ρ, fl, ρ', E, hf, q⟩ => by
  unfold dWh at hf
  split at hf
  · rename_i hex
    obtain ⟨n, hn⟩ := hex.choose_spec
    have hf' := Option.some.inj hf
    rw [hf'] at hn
    refine ⟨fun m σ2 H2 => ∃ ow2 ρ2, EnvR A ow2 H2 σ2 ρ2 ∧ Kp ow H ow2 H2 ∧ whL t b m ρ2 = some (fl, ρ'), ⟨n, ow, ρ, E, Kp.refl _ _, hn⟩, ?_⟩
    rintro m σ2 H2 ⟨ow2, ρ2, E2, K2, hl⟩
    cases m with
    | zero => cases hl
    | succ m =>
      unfold whL at hl
      split at hl
      · rename_i ρ3 h3
        refine ⟨A, ow2, ρ2, true, ρ3, E2, h3, fun H3 E3 K3 => iteT ?_⟩
        refine ⟨fun σ' H' => ∃ ow4 ρ4, EnvR A ow4 H' σ' ρ4 ∧ Kp ow H ow4 H' ∧ whL t b m ρ4 = some (fl, ρ'), fun σ' H' h4 => ⟨m, Nat.lt_succ_self _, h4⟩, ?_⟩
        cases hb2 : b ρ3 with
        | none => rw [hb2] at hl; cases hl
        | some r =>
          obtain ⟨fl2, ρ4⟩ := r
          refine ⟨A, ow2, ρ3, fl2, ρ4, E3, hb2, ?_⟩
          rw [hb2] at hl
          have kk := K2.trans K3
          cases fl2 with
          | nx => exact fun σ5 H5 ow5 E5 K5 => ⟨ow5, ρ4, E5, kk.trans K5, hl⟩
          | ct => exact fun σ5 H5 ow5 E5 K5 => ⟨ow5, ρ4, E5, kk.trans K5, hl⟩
          | bk =>
            cases hl
            exact fun σ5 H5 ow5 E5 K5 => q σ5 H5 ow5 E5 (kk.trans K5)
          | rt d =>
            cases hl
            exact fun v σ5 H5 ow5 E5 K5 => q v σ5 H5 ow5 E5 (kk.trans K5)
          | ex c fs =>
            cases hl
            exact fun C dx σ5 H5 ow5 m E5 K5 => q C dx σ5 H5 ow5 m E5 (kk.trans K5)
      · rename_i ρ3 h3
        cases hl
        exact ⟨A, ow2, ρ2, false, ρ', E2, h3, fun H3 E3 K3 => iteF (q σ2 H3 ow2 E3 (K2.trans K3))⟩
      · cases hl
  · cases hf

end Dn

set_option Elab.async false
set_option linter.all false
set_option maxRecDepth 100000
/-! List comprehensions by data. -/
namespace Dn
open PySem PySem.Spec PyProof.Rows L2

/-! ### an object set apart -/
def An.ex (A : An) (D : Addr) (o : HO) : An := ⟨fun a => A.F a ∧ a ≠ D, upd A.H D o, fun a => A.B a ∧ a ≠ D⟩
section
variable {A : An} {ow : Ow} {H H' : Hp} {σ : L2.St} {ρ : DE} {D : Addr} {o o' : HO}
theorem fz_ex {a : Addr} : Fz (A.ex D o) ow a ↔ Fz A ow a ∧ a ≠ D := by
  unfold Fz An.ex
  dsimp only
  constructor
  · rintro ⟨h | h, n⟩
    · exact ⟨⟨.inl h.1, n⟩, h.2⟩
    · have ne : a ≠ D := fun e => by subst e; rw [upd_same] at h; cases h
      rw [upd_ne ne] at h
      exact ⟨⟨.inr h, n⟩, ne⟩
  · rintro ⟨⟨h | h, n⟩, ne⟩
    · exact ⟨.inl ⟨h, ne⟩, n⟩
    · exact ⟨.inr (by rw [upd_ne ne]; exact h), n⟩
theorem OwnAt.mono {G G' : Addr → Prop} {p : Addr} {b : Ob} (hp : ∀ o, H p = some o → H' p = some o) (hG : ∀ a o, G a → H a = some o → G' a ∧ H' a = some o) (hT : ∀ a xs, H a = some (.tup xs) → H' a = some (.tup xs)) (h : OwnAt G H p b) : OwnAt G' H' p b := by
  cases b with
  | lst ds => obtain ⟨xs, h1, h2⟩ := h; exact ⟨xs, hp _ h1, h2.mono hG hT⟩
  | dk ds => obtain ⟨xs, h1, h2⟩ := h; exact ⟨xs, hp _ h1, h2.mono hG hT⟩
/-- a new object D is set apart -/
theorem EnvR.ex (E : EnvR A ow H σ ρ) (hD : H D = none) (ht : isTup o = false) : EnvR (A.ex D o) ow (upd H D o) σ ρ := by
  have nD : ∀ i p, ow i = some p → p ≠ D := fun i p e z => by
    obtain ⟨u, h, _⟩ := E.there i p e
    rw [z, hD] at h; cases h
  have ne : ∀ {a : Addr} {u : HO}, H a = some u → a ≠ D := fun {a u} h z => by rw [z, hD] at h; cases h
  have hG : ∀ a u, Fz A ow a → H a = some u → Fz (A.ex D o) ow a ∧ upd H D o a = some u := fun a u g h => ⟨fz_ex.mpr ⟨g, ne h⟩, by rw [upd_ne (ne h)]; exact h⟩
  have hT : ∀ a xs, H a = some (.tup xs) → upd H D o a = some (.tup xs) := fun a xs h => by rw [upd_ne (ne h)]; exact h
  have hp : ∀ {p : Addr} u, H p = some u → upd H D o p = some u := fun {p} u h => by rw [upd_ne (ne h)]; exact h
  refine ⟨E.len, fun a u h n => ?_, fun i d h => ?_, fun i b h => ?_, fun i b h => ?_, E.inj, fun i p h => ?_, fun i p h => ?_, E.only⟩
  · by_cases e : a = D
    · subst e
      have h : upd A.H a o a = some u := h
      rw [upd_same] at h ⊢; exact h
    · have h : upd A.H D o a = some u := h
      rw [upd_ne e] at h ⊢
      exact E.kp a u h n
  · obtain ⟨v, h1, h2⟩ := E.dat i d h
    exact ⟨v, h1, h2.mono hG hT⟩
  · obtain ⟨p, h1, h2, h3, h4⟩ := E.own i b h
    exact ⟨p, h1, h2, h3.mono hp hG hT, by show upd A.H D o p = none; rw [upd_ne (nD i p h1)]; exact h4⟩
  · obtain ⟨p, h1, h2, h3, h4⟩ := E.bor i b h
    exact ⟨p, h1, h2, h3.mono hp hG hT, h4, nD i p h1⟩
  · have := E.fr i p h
    exact this.imp (fun z => by show upd A.H D o p = none; rw [upd_ne (nD i p h)]; exact z) fun z => ⟨z, nD i p h⟩
  · obtain ⟨u, h1, h2⟩ := E.there i p h
    exact ⟨u, hp _ h1, h2⟩
theorem EnvR.exNow (E : EnvR (A.ex D o) ow H σ ρ) : NOw ow D := fun i e => by
  rcases E.fr i D e with h | h
  · have h : upd A.H D o D = none := h
    rw [upd_same] at h; cases h
  · exact h.2 rfl
theorem EnvR.exAt (E : EnvR (A.ex D o) ow H σ ρ) : H D = some o := E.kp D o upd_same E.exNow
theorem EnvR.re (E : EnvR (A.ex D o) ow H σ ρ) (ht : isTup o = false) : EnvR (A.ex D o') ow (upd H D o') σ ρ := by
  have nD : ∀ i p, ow i = some p → p ≠ D := fun i p e z => E.exNow i (by rw [e, z])
  have at_ := E.exAt
  have hG : ∀ a u, Fz (A.ex D o) ow a → H a = some u → Fz (A.ex D o') ow a ∧ upd H D o' a = some u := fun a u g h =>
    ⟨fz_ex.mpr (fz_ex.mp g), by rw [upd_ne (fz_ex.mp g).2]; exact h⟩
  have hT : ∀ a xs, H a = some (.tup xs) → upd H D o' a = some (.tup xs) := fun a xs h => by
    rw [upd_ne (fun e => by subst e; rw [at_] at h; cases h; cases ht)]; exact h
  have hp : ∀ {i : Nat} {p : Addr} u, ow i = some p → H p = some u → upd H D o' p = some u := fun {i p} u e h => by rw [upd_ne (nD i p e)]; exact h
  have nH : ∀ {p : Addr}, p ≠ D → (A.ex D o).H p = (A.ex D o').H p := fun {p} e => by
    show upd A.H D o p = upd A.H D o' p
    rw [upd_ne e, upd_ne e]
  refine ⟨E.len, fun a u h n => ?_, fun i d h => ?_, fun i b h => ?_, fun i b h => ?_, E.inj, fun i p h => ?_, fun i p h => ?_, E.only⟩
  · by_cases e : a = D
    · subst e
      have h : upd A.H a o' a = some u := h
      rw [upd_same] at h ⊢; exact h
    · rw [upd_ne e]
      rw [← nH e] at h
      exact E.kp a u h n
  · obtain ⟨v, h1, h2⟩ := E.dat i d h
    exact ⟨v, h1, h2.mono hG hT⟩
  · obtain ⟨p, h1, h2, h3, h4⟩ := E.own i b h
    exact ⟨p, h1, h2, h3.mono (fun u => hp u h1) hG hT, by rw [← nH (nD i p h1)]; exact h4⟩
  · obtain ⟨p, h1, h2, h3, h4⟩ := E.bor i b h
    exact ⟨p, h1, h2, h3.mono (fun u => hp u h1) hG hT, h4⟩
  · rw [← nH (nD i p h)]
    exact E.fr i p h
  · obtain ⟨u, h1, h2⟩ := E.there i p h
    exact ⟨u, hp _ h h1, h2⟩
theorem EnvR.unex (E : EnvR (A.ex D o) ow H σ ρ) (hD : A.H D = none) : EnvR A ow H σ ρ := by
  have nD : ∀ i p, ow i = some p → p ≠ D := fun i p e z => E.exNow i (by rw [e, z])
  have hG : ∀ a u, Fz (A.ex D o) ow a → H a = some u → Fz A ow a ∧ H a = some u := fun a u g h => ⟨(fz_ex.mp g).1, h⟩
  have nH : ∀ {p : Addr}, p ≠ D → (A.ex D o).H p = A.H p := fun {p} e => upd_ne e
  refine ⟨E.len, fun a u h n => ?_, fun i d h => ?_, fun i b h => ?_, fun i b h => ?_, E.inj, fun i p h => ?_, E.there, E.only⟩
  · have e : a ≠ D := fun e => by subst e; rw [hD] at h; cases h
    exact E.kp a u (by rw [nH e]; exact h) n
  · obtain ⟨v, h1, h2⟩ := E.dat i d h
    exact ⟨v, h1, h2.mono hG fun a xs h => h⟩
  · obtain ⟨p, h1, h2, h3, h4⟩ := E.own i b h
    exact ⟨p, h1, h2, h3.mono (fun u h => h) hG fun a xs h => h, by rw [← nH (nD i p h1)]; exact h4⟩
  · obtain ⟨p, h1, h2, h3, h4⟩ := E.bor i b h
    exact ⟨p, h1, h2, h3.mono (fun u h => h) hG (fun a xs h => h), h4.1⟩
  · have := E.fr i p h
    rw [nH (nD i p h)] at this
    exact this.imp id fun z => z.1
/-! ### slots forgotten and given back -/
def wipeD (ρ : DE) : List Nat → DE
  | [] => ρ
  | v :: vs => (wipeD ρ vs).set v .un
def backD (ρ0 ρ : DE) : List Nat → DE
  | [] => ρ
  | v :: vs => (backD ρ0 ρ vs).set v (ρ0.getD v .un)
def allDat (ρ : DE) (vs : List Nat) : Bool := vs.all fun i => isDat ρ[i]?
theorem wipeD_length (ρ : DE) : ∀ vs, (wipeD ρ vs).length = ρ.length
  | [] => rfl
  | v :: vs => by unfold wipeD; rw [List.length_set, wipeD_length ρ vs]
theorem EnvR.un1 (E : EnvR A ow H σ ρ) {i : Nat} (h : isDat ρ[i]? = true) (x : Option V) : EnvR A ow H (σ.set i x) (ρ.set i .un) := by
  have := E.off (v := V.non) (i := i) (.inl rfl) (isDat_some h)
  rw [E.offSame h] at this
  refine ⟨by simp [E.len], this.kp, fun j d hj => ?_, fun j o hj => ?_, fun j o hj => ?_, this.inj, this.fr, this.there, this.only⟩
  · obtain ⟨v, h1, h2⟩ := this.dat j d hj
    rcases get_set hj with ⟨rfl, e, _⟩ | ⟨ne, _⟩
    · cases e
    · exact ⟨v, by rw [List.getElem?_set_ne (Ne.symm ne)] at h1 ⊢; exact h1, h2⟩
  · obtain ⟨p, h1, h2, h3⟩ := this.own j o hj
    rcases get_set hj with ⟨rfl, e, _⟩ | ⟨ne, _⟩
    · cases e
    · exact ⟨p, h1, by rw [List.getElem?_set_ne (Ne.symm ne)] at h2 ⊢; exact h2, h3⟩
  · obtain ⟨p, h1, h2, h3⟩ := this.bor j o hj
    rcases get_set hj with ⟨rfl, e, _⟩ | ⟨ne, _⟩
    · cases e
    · exact ⟨p, h1, by rw [List.getElem?_set_ne (Ne.symm ne)] at h2 ⊢; exact h2, h3⟩
theorem isDat_set {ρ : DE} {i j : Nat} {s : Sl} (hs : isDat (some s) = true) (h : isDat ρ[i]? = true) : isDat (ρ.set j s)[i]? = true := by
  by_cases e : j = i
  · subst e
    obtain ⟨z, hz, _⟩ := isDat_some h
    rw [List.getElem?_set_self (List.getElem?_eq_some_iff.mp hz).1]
    exact hs
  · rw [List.getElem?_set_ne e]; exact h
theorem isDat_wipe {ρ : DE} {i : Nat} (h : isDat ρ[i]? = true) : ∀ vs, isDat (wipeD ρ vs)[i]? = true
  | [] => h
  | v :: vs => isDat_set rfl (isDat_wipe h vs)
theorem EnvR.wipe (E : EnvR A ow H σ ρ) : ∀ {vs : List Nat}, allDat ρ vs = true → EnvR A ow H (wipe σ vs) (wipeD ρ vs)
  | [], _ => E
  | v :: vs, h => by
    unfold allDat at h
    rw [List.all_cons, Bool.and_eq_true] at h
    exact (EnvR.wipe E (vs := vs) h.2).un1 (isDat_wipe h.1 vs) none
theorem wipeD_get {ρ : DE} {i : Nat} : ∀ {vs : List Nat}, (wipeD ρ vs)[i]? = if i ∈ vs then ρ[i]?.map (fun _ => Sl.un) else ρ[i]?
  | [] => by simp [wipeD]
  | v :: vs => by
    unfold wipeD
    by_cases e : v = i
    · subst e
      rw [if_pos List.mem_cons_self]
      by_cases hl : v < ρ.length
      · rw [List.getElem?_set_self (by rw [wipeD_length]; exact hl), List.getElem?_eq_getElem hl]; rfl
      · rw [List.getElem?_eq_none (by rw [List.length_set, wipeD_length]; omega), List.getElem?_eq_none (by omega)]; rfl
    · rw [List.getElem?_set_ne e, wipeD_get]
      by_cases hm : i ∈ vs
      · rw [if_pos hm, if_pos (List.mem_cons_of_mem _ hm)]
      · rw [if_neg hm, if_neg (by intro h; rcases List.mem_cons.mp h with z | z; exact e z.symm; exact hm z)]
theorem backD_length (ρ0 ρ : DE) : ∀ vs, (backD ρ0 ρ vs).length = ρ.length
  | [] => rfl
  | v :: vs => by unfold backD; rw [List.length_set, backD_length ρ0 ρ vs]
theorem backD_get {ρ0 ρ : DE} {i : Nat} : ∀ {vs : List Nat}, (backD ρ0 ρ vs)[i]? = if i ∈ vs then ρ[i]?.map (fun _ => ρ0.getD i .un) else ρ[i]?
  | [] => by simp [backD]
  | v :: vs => by
    unfold backD
    by_cases e : v = i
    · subst e
      rw [if_pos List.mem_cons_self]
      by_cases hl : v < ρ.length
      · rw [List.getElem?_set_self (by rw [backD_length]; exact hl), List.getElem?_eq_getElem hl]; rfl
      · rw [List.getElem?_eq_none (by rw [List.length_set, backD_length]; omega), List.getElem?_eq_none (by omega)]; rfl
    · rw [List.getElem?_set_ne e, backD_get]
      by_cases hm : i ∈ vs
      · rw [if_pos hm, if_pos (List.mem_cons_of_mem _ hm)]
      · rw [if_neg hm, if_neg (by intro h; rcases List.mem_cons.mp h with z | z; exact e z.symm; exact hm z)]
theorem EnvR.back {H0 : Hp} {ρ0 : DE} {vs : List Nat} (E0 : EnvR A ow H0 σ ρ0) (k : Kp ow H0 ow H) (h0 : allDat ρ0 vs = true) (E : EnvR A ow H (L2.wipe σ vs) ρ) (h1 : allDat ρ vs = true) : EnvR A ow H σ (backD ρ0 ρ vs) := by
  have ll : ρ.length = ρ0.length := by rw [← E.len, wipe_length, E0.len]
  have dat0 : ∀ i ∈ vs, isDat ρ0[i]? = true := fun i hi => List.all_eq_true.mp h0 i hi
  have dat1 : ∀ i ∈ vs, isDat ρ[i]? = true := fun i hi => List.all_eq_true.mp h1 i hi
  have in0 : ∀ {i : Nat} {s : Sl}, i ∈ vs → (backD ρ0 ρ vs)[i]? = some s → ρ0[i]? = some s := fun {i s} hi h => by
    rw [backD_get, if_pos hi] at h
    obtain ⟨z, hz, _⟩ := isDat_some (dat0 i hi)
    rw [List.getD_eq_getElem?_getD, hz] at h
    cases q : ρ[i]? with
    | none => rw [q] at h; cases h
    | some y => rw [q] at h; rw [hz]; exact h
  have in1 : ∀ {i : Nat} {s : Sl}, i ∉ vs → (backD ρ0 ρ vs)[i]? = some s → ρ[i]? = some s := fun {i s} hi h => by
    rw [backD_get, if_neg hi] at h; exact h
  have sg : ∀ {i : Nat} {x : Option V}, i ∉ vs → (L2.wipe σ vs)[i]? = some x → σ[i]? = some x := fun {i x} hi h => by rw [wipe_out hi] at h; exact h
  refine ⟨by rw [backD_length, ll]; exact E0.len, E.kp, fun i d h => ?_, fun i o h => ?_, fun i o h => ?_, E.inj, E.fr, E.there, fun i p h => ?_⟩
  · by_cases hi : i ∈ vs
    · obtain ⟨v, g1, g2⟩ := E0.dat i d (in0 hi h)
      exact ⟨v, g1, E0.move k g2⟩
    · obtain ⟨v, g1, g2⟩ := E.dat i d (in1 hi h)
      exact ⟨v, sg hi g1, g2⟩
  · by_cases hi : i ∈ vs
    · have := dat0 i hi
      rw [in0 hi h] at this; cases this
    · obtain ⟨p, g1, g2, g3⟩ := E.own i o (in1 hi h)
      exact ⟨p, g1, sg hi g2, g3⟩
  · by_cases hi : i ∈ vs
    · have := dat0 i hi
      rw [in0 hi h] at this; cases this
    · obtain ⟨p, g1, g2, g3⟩ := E.bor i o (in1 hi h)
      exact ⟨p, g1, sg hi g2, g3⟩
  · obtain ⟨o, g⟩ := E.only i p h
    have hi : i ∉ vs := fun hi => by
      have := dat1 i hi
      rcases g with g | g <;> rw [g] at this <;> cases this
    exact ⟨o, by rw [backD_get, if_neg hi]; exact g⟩
end

theorem wipe_get {σ : L2.St} {i : Nat} : ∀ {vs : List Nat}, (L2.wipe σ vs)[i]? = if i ∈ vs then σ[i]?.map (fun _ => none) else σ[i]?
  | [] => by simp [L2.wipe]
  | v :: vs => by
    unfold L2.wipe
    by_cases e : v = i
    · subst e
      rw [if_pos List.mem_cons_self]
      by_cases hl : v < σ.length
      · rw [List.getElem?_set_self (by rw [wipe_length]; exact hl), List.getElem?_eq_getElem hl]; rfl
      · rw [List.getElem?_eq_none (by rw [List.length_set, wipe_length]; omega), List.getElem?_eq_none (by omega)]; rfl
    · rw [List.getElem?_set_ne e, wipe_get]
      by_cases hm : i ∈ vs
      · rw [if_pos hm, if_pos (List.mem_cons_of_mem _ hm)]
      · rw [if_neg hm, if_neg (by intro h; rcases List.mem_cons.mp h with z | z; exact e z.symm; exact hm z)]
theorem wipe_wipe (σ : L2.St) (vs : List Nat) : L2.wipe (L2.wipe σ vs) vs = L2.wipe σ vs := by
  apply List.ext_getElem?
  intro j
  rw [wipe_get, wipe_get]
  by_cases h : j ∈ vs
  · rw [if_pos h, if_pos h]
    cases σ[j]? <;> rfl
  · rw [if_neg h, if_neg h]
/-! ### [f for g in it if t] -/
def lim : Nat := 100000
theorem lim_lt {n : Nat} (h : n < lim) : n < sizeLine := Nat.lt_of_lt_of_le h (by decide)
def lcL (g : FG) (t : FT) (f : FE) (vs : List Nat) : List D → DE → List D → Option (List D × DE)
  | [], ρ, acc => some (acc, ρ)
  | d :: ds, ρ, acc => match g d ρ with
    | some ρ1 => (match t ρ1 with
      | some (true, ρ2) => (match f ρ2 with
        | some (y, ρ3) => if allDat ρ3 vs = true ∧ acc.length < lim then lcL g t f vs ds (wipeD ρ3 vs) (acc ++ [y]) else none
        | none => none)
      | some (false, ρ2) => if allDat ρ2 vs = true then lcL g t f vs ds (wipeD ρ2 vs) acc else none
      | none => none)
    | none => none
def dLc (it : FI) (g : FG) (t : FT) (f : FE) (vs : List Nat) : FE := fun ρ => match it ρ with
  | some (ds, ρ1) => if allDat ρ1 vs = true then (match lcL g t f vs ds (wipeD ρ1 vs) [] with
    | some (acc, ρ2) => some (.lst acc, backD ρ1 ρ2 vs)
    | none => none) else none
  | none => none
theorem lcL_dat {g : FG} {t : FT} {f : FE} {vs : List Nat} : ∀ {ds : List D} {ρ : DE} {acc acc' : List D} {ρ' : DE}, allDat ρ vs = true → lcL g t f vs ds ρ acc = some (acc', ρ') → allDat ρ' vs = true
  | [], ρ, acc, acc', ρ', h, e => by cases e; exact h
  | d :: ds, ρ, acc, acc', ρ', h, e => by
    have wd : ∀ {ρ : DE}, allDat ρ vs = true → allDat (wipeD ρ vs) vs = true := fun {ρ} h => List.all_eq_true.mpr fun i hi => isDat_wipe (List.all_eq_true.mp h i hi) vs
    unfold lcL at e
    split at e
    · split at e
      · split at e
        · split at e
          · rename_i hh; exact lcL_dat (wd hh.1) e
          · cases e
        · cases e
      · split at e
        · rename_i hh; exact lcL_dat (wd hh) e
        · cases e
      · cases e
    · cases e
def tTs (t : FT) : TT := tT t
def dYes : FT := fun ρ => some (true, ρ)
theorem PTs.weak {X : Cx} {e : List Expr} {t t' : TT} (h : PTs X e t) (w : ∀ σ H Q, t' σ H Q → t σ H Q) : PTs X e t' := ⟨fun pins s σ H Q I q => h.run pins s σ H Q I (w _ _ _ q)⟩
theorem ts_nil {X : Cx} : PTs X [] (tT dYes) := PTs.weak pts_nil fun σ H Q ⟨A, ow, ρ, d, ρ', E, hf, q⟩ => by
  cases hf
  exact q H E (Kp.refl _ _)
theorem ts_one {X : Cx} {c : Expr} {t : FT} (h : PT X c (tT t)) : PTs X [c] (tT t) := pts_one h
theorem wd_dat {ρ : DE} {vs : List Nat} (h : allDat ρ vs = true) : allDat (wipeD ρ vs) vs = true := List.all_eq_true.mpr fun i hi => isDat_wipe (List.all_eq_true.mp h i hi) vs
/-- kept, but for D -/
def Kd (D : Addr) (ow : Ow) (H H' : Hp) : Prop := ∀ a o, H a = some o → NOw ow a → a ≠ D → H' a = some o
theorem ItD.ex {A : An} {ow : Ow} {H : Hp} {J : It} {ds : List Dn.D} {D : Addr} {o : HO} (h : ItD A ow H J ds) (hD : H D = none) : ItD (A.ex D o) ow (upd H D o) J ds := fun ow2 H2 k => by
  have ne : ∀ {a : Addr} {u : HO}, H a = some u → a ≠ D := fun {a u} h z => by rw [z, hD] at h; cases h
  obtain ⟨h1, h2⟩ := h ow2 H2 fun a u q g => k a u (by rw [upd_ne (ne q)]; exact q) (g.imp (fun z => fz_ex.mpr ⟨z, ne q⟩) id)
  refine ⟨h1, fun i d hd => ?_⟩
  obtain ⟨g1, g2⟩ := h2 i d hd
  refine ⟨g1, fun x H3 y => ?_⟩
  obtain ⟨s3, r3⟩ := g2 x H3 y
  refine ⟨s3, r3.mono (fun a u g q => ⟨g.imp (fun z => ?_) id, q⟩) fun a xs q => q⟩
  have nD : a ≠ D := fun e => z.2 (by rw [e]; exact hD)
  exact ⟨fz_ex.mpr ⟨z.1, nD⟩, by rw [upd_ne nD]; exact z.2⟩
/-- the loop that fills D -/
theorem lcL_run {A : An} {ow : Ow} {D : Addr} (aD : A.H D = none) {J : It} {g : FG} {t : FT} {f : FE} {vs ss : List Nat} (hss : ∀ i ∈ ss, i ∈ vs) {τ : L2.St} (ht : L2.wipe τ vs = τ) {H0 : Hp} {ρ0 ρe : DE} {ds acc0 acce : List Dn.D} {xs0 : List V} {Fin : Hp → Prop}
    (E0 : EnvR (A.ex D (.lst xs0)) ow H0 τ ρ0) (d0 : allDat ρ0 vs = true) (r0 : RepL (Fz (A.ex D (.lst xs0)) ow) H0 xs0 acc0) (hJ : ItD (A.ex D (.lst xs0)) ow H0 J ds) (h0 : lcL g t f vs ds ρ0 acc0 = some (acce, ρe))
    (hfin : ∀ H' xs', EnvR (A.ex D (.lst xs')) ow H' τ ρe → allDat ρe vs = true → RepL (Fz (A.ex D (.lst xs')) ow) H' xs' acce → Kd D ow H0 H' → Fin H') :
    ∃ W : Nat → Nat → Hp → Prop, (∃ m, W 0 m H0) ∧ ∀ i m H, W i m H → (J.stop i H ∧ Fin H) ∨ (J.go i H ∧ ∃ Nx : Hp → Prop, (∀ H', Nx H' → ∃ m', m' < m ∧ W (i + 1) m' H') ∧ ∀ x H', J.yld i H x H' → tG g ss x τ H' fun σ2 H2 => L2.wipe σ2 vs = τ ∧ tT t σ2 H2 fun b H3 =>
      if b = true then tE f σ2 H3 fun y H4 => ∃ acc, H4 D = some (.lst acc) ∧ acc.length < sizeLine ∧ Nx (upd H4 D (.lst (acc ++ [y]))) else Nx H3) := by
  have nw0 : NOw ow D := E0.exNow
  refine ⟨fun i m H2 => m = ds.length - i ∧ i ≤ ds.length ∧ ∃ ρ3 xs acc, EnvR (A.ex D (.lst xs)) ow H2 τ ρ3 ∧ allDat ρ3 vs = true ∧ RepL (Fz (A.ex D (.lst xs)) ow) H2 xs acc ∧ Kd D ow H0 H2 ∧ lcL g t f vs (ds.drop i) ρ3 acc = some (acce, ρe),
    ⟨ds.length, by simp, Nat.zero_le _, ρ0, xs0, acc0, E0, d0, r0, fun a o h _ _ => h, by simpa using h0⟩, ?_⟩
  rintro i m H2 ⟨rfl, hi, ρ3, xs, acc, E2, hd3, rx, K2, hl⟩
  have hD2 : H2 D = some (.lst xs) := E2.exAt
  have kf2 : Kf (A.ex D (.lst xs0)) ow H0 ow H2 := fun a o h g => by
    rcases g with g | g
    · have z := fz_ex.mp g
      exact ⟨K2 a o h z.1.2 z.2, z.1.2⟩
    · have nt : NOw ow a := by
        cases o with
        | tup xs => exact E0.nowTup h
        | _ => cases g
      exact ⟨K2 a o h nt (fun e => by subst e; rw [E0.exAt] at h; cases h; cases g), nt⟩
  have hJ2 := hJ ow H2 kf2
  by_cases hlt : i < ds.length
  · refine .inr ?_
    have hd : ds[i]? = some ds[i] := List.getElem?_eq_getElem hlt
    obtain ⟨go, yl⟩ := hJ2.2 i _ hd
    rw [List.drop_eq_getElem_cons hlt] at hl
    unfold lcL at hl
    split at hl
    · rename_i ρ4 h4
      refine ⟨go, fun H' => ∃ ρ3 xs acc, EnvR (A.ex D (.lst xs)) ow H' τ ρ3 ∧ allDat ρ3 vs = true ∧ RepL (Fz (A.ex D (.lst xs)) ow) H' xs acc ∧ Kd D ow H0 H' ∧ lcL g t f vs (ds.drop (i + 1)) ρ3 acc = some (acce, ρe),
        fun H' ⟨ρ9, xs9, acc9, z⟩ => ⟨ds.length - (i + 1), by omega, rfl, hlt, ρ9, xs9, acc9, z⟩, fun x H3 y => ?_⟩
      obtain ⟨s3, r3⟩ := yl x H3 y
      have E3 := E2.same s3
      have r3' : Rep (Fz (A.ex D (.lst xs)) ow) H3 x ds[i] := r3.mono (fun a o g q => ⟨g.elim (fun z => fz_ex.mpr (fz_ex.mp z.1)) fun z => E2.fresh z, q⟩) fun a xs q => q
      have kd3 : Kd D ow H0 H3 := fun a o h n ne => s3 _ _ (K2 a o h n ne)
      refine ⟨A.ex D (.lst xs), ow, ρ3, ds[i], ρ4, E3, r3', h4, fun σ4 E4 w4 => ?_⟩
      have w4' : L2.wipe σ4 vs = τ := by rw [w4 vs hss, ht]
      refine ⟨w4', ?_⟩
      split at hl
      · rename_i ρ5 h5
        split at hl
        · rename_i y ρ6 h6
          split at hl
          · rename_i hh
            refine ⟨_, ow, ρ4, true, ρ5, E4, h5, fun H5 E5 K5 => iteT ?_⟩
            refine ⟨_, ow, ρ5, y, ρ6, E5, h6, fun v H6 E6 K6 r6 => ?_⟩
            have rx6 := E5.moveL K6 (E4.moveL K5 (E2.moveL (Kp.same s3) rx))
            have a6 := E6.exAt
            refine ⟨xs, a6, by rw [rx.length]; exact lim_lt hh.2, wipeD ρ6 vs, xs ++ [v], acc ++ [y], ?_⟩
            have E7 := (E6.wipe hh.1).re (o' := .lst (xs ++ [v])) rfl
            rw [w4'] at E7
            have mvx : ∀ a u, Fz (A.ex D (.lst xs)) ow a → H6 a = some u → Fz (A.ex D (.lst (xs ++ [v]))) ow a ∧ upd H6 D (.lst (xs ++ [v])) a = some u := fun a u g h => ⟨fz_ex.mpr (fz_ex.mp g), by rw [upd_ne (fz_ex.mp g).2]; exact h⟩
            have mvt : ∀ a zs, H6 a = some (.tup zs) → upd H6 D (.lst (xs ++ [v])) a = some (.tup zs) := fun a zs h => by rw [upd_ne (fun e => by subst e; rw [a6] at h; cases h)]; exact h
            refine ⟨E7, wd_dat hh.1, (rx6.mono mvx mvt).append (.cons (r6.mono mvx mvt) .nil), fun a o h n ne => ?_, hl⟩
            rw [upd_ne ne]
            exact (K6.keep a o (K5.keep a o (kd3 a o h n ne) n).1 n).1
          · cases hl
        · cases hl
      · rename_i ρ5 h5
        split at hl
        · rename_i hh
          refine ⟨_, ow, ρ4, false, ρ5, E4, h5, fun H5 E5 K5 => iteF ?_⟩
          have E6 := E5.wipe hh
          rw [w4'] at E6
          exact ⟨wipeD ρ5 vs, xs, acc, E6, wd_dat hh, E4.moveL K5 (E2.moveL (Kp.same s3) rx), fun a o h n ne => (K5.keep a o (kd3 a o h n ne) n).1, hl⟩
        · cases hl
      · cases hl
    · cases hl
  · refine .inl ?_
    have e : i = ds.length := by omega
    subst e
    refine ⟨hJ2.1, ?_⟩
    rw [List.drop_length] at hl
    unfold lcL at hl
    cases hl
    exact hfin H2 xs E2 hd3 rx K2
theorem lc_of {K : PySem.W.Frag} {it : FI} {g : FG} {t : FT} {f : FE} {vs ss : List Nat} (hss : ∀ i ∈ ss, i ∈ vs) (σ : L2.St) (H : Hp) (Q : VK) : tE (dLc it g t f vs) σ H Q → tLc (tI it) (tG g ss) (tT t) (tE f) vs σ H Q := by
  rintro ⟨A, ow, ρ, d, ρ', E, hf, q⟩
  unfold dLc at hf
  split at hf
  · rename_i ds ρ1 h1
    split at hf
    · rename_i had
      split at hf
      · rename_i acc0 ρ2 hl0
        cases hf
        refine ⟨A, ow, ρ, ds, ρ1, E, h1, fun J H1 E1 K1 hJ D hD => ?_⟩
        have fzD := E1.fresh hD
        have aD : A.H D = none := by
          cases z : A.H D with
          | none => rfl
          | some o => rw [E1.kp D o z fzD.2] at hD; cases hD
        have R := lcL_run (Fin := Q (.ref D)) aD hss (wipe_wipe σ vs) ((E1.wipe had).ex (o := .lst []) hD rfl) (wd_dat had) .nil (hJ.ex hD) hl0 fun H' xs' E' d' r' k' => by
          have k2 : Kp ow H1 ow H' := ⟨fun a o h n => ⟨k' a o (Same.new hD a o h) n fun e => (by subst e; rw [hD] at h; cases h), n⟩⟩
          exact q _ H' (E1.back k2 had (E'.unex aD) d') (K1.trans k2) (.lst fzD E'.exAt (r'.mono (fun a o g q => ⟨(fz_ex.mp g).1, q⟩) fun a xs q => q))
        exact R
      · cases hf
    · cases hf
  · cases hf
/-- [e for tg in iter if ..] -/
theorem e_lc {X : Cx} {elt tg iter : Expr} {ifs : List Expr} {scope : Scope} {pos : Pos} {it : FI} {g : FG} {t : FT} {f : FE} {ss : List Nat} (own : List (Str × Nat)) (hc : X.calm = true) (hN : X.N.Nodup) (hi : PI X tg iter (tI it)) (ok : BlkOk X.N X.env.scope scope own)
    (hg : ∀ (s : Shared) (H : Hp) (C : Addr) (cl : List (Str × Addr)) (fp : List Addr), PG (X.blk s H scope (compEnvC scope cl C X.env) fp) tg (tG g ss)) (ht : ∀ (s : Shared) (H : Hp) (C : Addr) (cl : List (Str × Addr)) (fp : List Addr), PTs (X.blk s H scope (compEnvC scope cl C X.env) fp) ifs (tT t))
    (he : ∀ (s : Shared) (H : Hp) (C : Addr) (cl : List (Str × Addr)) (fp : List Addr), PE (X.blk s H scope (compEnvC scope cl C X.env) fp) elt (tE f)) (hss : ∀ i ∈ ss, i ∈ own.map (·.2) := by decide) (hs : ∀ x, foldedSetIterable iter X.env x = pure x := by intro _; rfl) :
    PE X (.ListComp elt [⟨tg, iter, ifs, 0⟩] scope pos) (tE (dLc it g t f (own.map (·.2)))) := PE.weak (pe_lc hc hN hi ok hg ht he hs) (lc_of (K := X.K) hss)
end Dn

set_option Elab.async false
set_option linter.all false
set_option maxRecDepth 100000
/-! List comprehensions of two clauses, own lists, defs. -/
namespace Dn
open PySem PySem.Spec PyProof.Rows L2

def lc2L (g : FG) (t : FT) (it1 : FI) (g1 : FG) (t1 : FT) (f : FE) (vs vs1 : List Nat) : List D → DE → List D → Option (List D × DE)
  | [], ρ, acc => some (acc, ρ)
  | d :: ds, ρ, acc => match g d ρ with
    | some ρ1 => (match t ρ1 with
      | some (true, ρ2) => (match it1 ρ2 with
        | some (ds1, ρ3) => if allDat ρ3 vs1 = true then (match lcL g1 t1 f vs1 ds1 (wipeD ρ3 vs1) acc with
          | some (acc1, ρ4) => if allDat ρ4 vs = true then lc2L g t it1 g1 t1 f vs vs1 ds (wipeD ρ4 vs) acc1 else none
          | none => none) else none
        | none => none)
      | some (false, ρ2) => if allDat ρ2 vs = true then lc2L g t it1 g1 t1 f vs vs1 ds (wipeD ρ2 vs) acc else none
      | none => none)
    | none => none
def dLc2 (it : FI) (g : FG) (t : FT) (it1 : FI) (g1 : FG) (t1 : FT) (f : FE) (vs vs1 : List Nat) : FE := fun ρ => match it ρ with
  | some (ds, ρ1) => if allDat ρ1 vs = true then (match lc2L g t it1 g1 t1 f vs vs1 ds (wipeD ρ1 vs) [] with
    | some (acc, ρ2) => some (.lst acc, backD ρ1 ρ2 vs)
    | none => none) else none
  | none => none
theorem wipe_sub {σ : L2.St} {vs vs1 : List Nat} (h : ∀ i ∈ vs1, i ∈ vs) : L2.wipe (L2.wipe σ vs1) vs = L2.wipe σ vs := by
  apply List.ext_getElem?
  intro j
  simp only [wipe_get]
  by_cases hj : j ∈ vs
  · rw [if_pos hj, if_pos hj]
    split
    · cases σ[j]? <;> rfl
    · rfl
  · rw [if_neg hj, if_neg hj, if_neg fun z => hj (h j z)]
theorem lc2_of {it it1 : FI} {g g1 : FG} {t t1 : FT} {f : FE} {vs vs1 ss ss1 : List Nat} (hss : ∀ i ∈ ss, i ∈ vs) (hs1 : ∀ i ∈ ss1, i ∈ vs1) (hv : ∀ i ∈ vs1, i ∈ vs) (σ : L2.St) (H : Hp) (Q : VK) :
    tE (dLc2 it g t it1 g1 t1 f vs vs1) σ H Q → tLc2 (tI it) (tG g ss) (tT t) (tI it1) (tG g1 ss1) (tT t1) (tE f) vs vs1 σ H Q := by
  rintro ⟨A, ow, ρ, d, ρ', E, hf, q⟩
  unfold dLc2 at hf
  split at hf
  · rename_i ds ρ1 h1
    split at hf
    · rename_i had
      split at hf
      · rename_i acce ρe hl0
        cases hf
        refine ⟨A, ow, ρ, ds, ρ1, E, h1, fun J H1 E1 K1 hJ0 C hD => ?_⟩
        have fzD := E1.fresh hD
        have aD : A.H C = none := by
          cases z : A.H C with
          | none => rfl
          | some o => rw [E1.kp C o z fzD.2] at hD; cases hD
        have hJ := hJ0.ex (o := .lst []) hD
        have E0 := (E1.wipe had).ex (o := .lst []) hD rfl
        refine ⟨fun i m H2 => m = ds.length - i ∧ i ≤ ds.length ∧ ∃ ρ3 xs acc, EnvR (A.ex C (.lst xs)) ow H2 (L2.wipe σ vs) ρ3 ∧ allDat ρ3 vs = true ∧ RepL (Fz (A.ex C (.lst xs)) ow) H2 xs acc ∧ Kd C ow (upd H1 C (.lst [])) H2 ∧ lc2L g t it1 g1 t1 f vs vs1 (ds.drop i) ρ3 acc = some (acce, ρe),
          ⟨ds.length, by simp, Nat.zero_le _, wipeD ρ1 vs, [], [], E0, wd_dat had, .nil, fun a o h _ _ => h, by simpa using hl0⟩, ?_⟩
        rintro i m H2 ⟨rfl, hi, ρ3, xs, acc, E2, hd3, rx, K2, hl⟩
        have kf2 : Kf (A.ex C (.lst [])) ow (upd H1 C (.lst [])) ow H2 := fun a o h g => by
          rcases g with g | g
          · have z := fz_ex.mp g
            exact ⟨K2 a o h z.1.2 z.2, z.1.2⟩
          · have nt : NOw ow a := by
              cases o with
              | tup xs => exact E0.nowTup h
              | _ => cases g
            exact ⟨K2 a o h nt (fun e => by subst e; rw [upd_same] at h; cases h; cases g), nt⟩
        have hJ2 := hJ ow H2 kf2
        by_cases hlt : i < ds.length
        · refine .inr ?_
          have hd : ds[i]? = some ds[i] := List.getElem?_eq_getElem hlt
          obtain ⟨go, yl⟩ := hJ2.2 i _ hd
          rw [List.drop_eq_getElem_cons hlt] at hl
          unfold lc2L at hl
          split at hl
          · rename_i ρ4 h4
            refine ⟨go, fun H' => ∃ ρ3 xs acc, EnvR (A.ex C (.lst xs)) ow H' (L2.wipe σ vs) ρ3 ∧ allDat ρ3 vs = true ∧ RepL (Fz (A.ex C (.lst xs)) ow) H' xs acc ∧ Kd C ow (upd H1 C (.lst [])) H' ∧ lc2L g t it1 g1 t1 f vs vs1 (ds.drop (i + 1)) ρ3 acc = some (acce, ρe),
              fun H' ⟨ρ9, xs9, acc9, z⟩ => ⟨ds.length - (i + 1), by omega, rfl, hlt, ρ9, xs9, acc9, z⟩, fun x H3 y => ?_⟩
            obtain ⟨s3, r3⟩ := yl x H3 y
            have E3 := E2.same s3
            have r3' : Rep (Fz (A.ex C (.lst xs)) ow) H3 x ds[i] := r3.mono (fun a o g q => ⟨g.elim (fun z => fz_ex.mpr (fz_ex.mp z.1)) fun z => E2.fresh z, q⟩) fun a xs q => q
            have kd3 : Kd C ow (upd H1 C (.lst [])) H3 := fun a o h n ne => s3 _ _ (K2 a o h n ne)
            refine ⟨A.ex C (.lst xs), ow, ρ3, ds[i], ρ4, E3, r3', h4, fun σ4 E4 w4 => ?_⟩
            have w4' : L2.wipe σ4 vs = L2.wipe σ vs := by rw [w4 vs hss, wipe_wipe]
            refine ⟨w4', ?_⟩
            split at hl
            · rename_i ρ5 h5
              split at hl
              · rename_i ds1 ρ6 h6
                split at hl
                · rename_i hda
                  split at hl
                  · rename_i acc1 ρ7 h7
                    split at hl
                    · rename_i hdb
                      refine ⟨_, ow, ρ4, true, ρ5, E4, h5, fun H5 E5 K5 => iteT ?_⟩
                      refine ⟨_, ow, ρ5, ds1, ρ6, E5, h6, fun J1 H6 E6 K6 hJ1 => ?_⟩
                      have rx6 := E5.moveL K6 (E4.moveL K5 (E2.moveL (Kp.same s3) rx))
                      refine lcL_run aD hs1 (wipe_wipe σ4 vs1) (E6.wipe hda) (wd_dat hda) rx6 hJ1 h7 fun H7 xs7 E7 d7 r7 k7 => ?_
                      have E8 := E7.wipe hdb
                      rw [wipe_sub hv, w4'] at E8
                      exact ⟨wipeD ρ7 vs, xs7, acc1, E8, wd_dat hdb, r7, fun a o h n ne => k7 a o (K6.keep a o (K5.keep a o (kd3 a o h n ne) n).1 n).1 n ne, hl⟩
                    · cases hl
                  · cases hl
                · cases hl
              · cases hl
            · rename_i ρ5 h5
              split at hl
              · rename_i hh
                refine ⟨_, ow, ρ4, false, ρ5, E4, h5, fun H5 E5 K5 => iteF ?_⟩
                have E6 := E5.wipe hh
                rw [w4'] at E6
                exact ⟨wipeD ρ5 vs, xs, acc, E6, wd_dat hh, E4.moveL K5 (E2.moveL (Kp.same s3) rx), fun a o h n ne => (K5.keep a o (kd3 a o h n ne) n).1, hl⟩
              · cases hl
            · cases hl
          · cases hl
        · refine .inl ?_
          have e : i = ds.length := by omega
          subst e
          refine ⟨hJ2.1, ?_⟩
          rw [List.drop_length] at hl
          unfold lc2L at hl
          cases hl
          have k2 : Kp ow H1 ow H2 := ⟨fun a o h n => ⟨K2 a o (Same.new hD a o h) n fun e => (by subst e; rw [hD] at h; cases h), n⟩⟩
          exact q _ H2 (E1.back k2 had (E2.unex aD) hd3) (K1.trans k2) (.lst fzD E2.exAt (rx.mono (fun a o g q => ⟨(fz_ex.mp g).1, q⟩) fun a xs q => q))
      · cases hf
    · cases hf
  · cases hf
theorem e_lc2 {X : Cx} {elt tg iter tg1 iter1 : Expr} {ifs ifs1 : List Expr} {scope : Scope} {pos : Pos} {it it1 : FI} {g g1 : FG} {t t1 : FT} {f : FE} {ss ss1 : List Nat} (own : List (Str × Nat)) (vs1 : List Nat) (hc : X.calm = true) (hN : X.N.Nodup) (hi : PI X tg iter (tI it)) (ok : BlkOk X.N X.env.scope scope own)
    (hg : ∀ (s : Shared) (H : Hp) (C : Addr) (cl : List (Str × Addr)) (fp : List Addr), PG (X.blk s H scope (compEnvC scope cl C X.env) fp) tg (tG g ss)) (ht : ∀ (s : Shared) (H : Hp) (C : Addr) (cl : List (Str × Addr)) (fp : List Addr), PTs (X.blk s H scope (compEnvC scope cl C X.env) fp) ifs (tT t))
    (hi1 : ∀ (s : Shared) (H : Hp) (C : Addr) (cl : List (Str × Addr)) (fp : List Addr), PI (X.blk s H scope (compEnvC scope cl C X.env) fp) tg1 iter1 (tI it1))
    (hg1 : ∀ (s : Shared) (H : Hp) (C : Addr) (cl : List (Str × Addr)) (fp : List Addr), PG (X.blk s H scope (compEnvC scope cl C X.env) fp) tg1 (tG g1 ss1)) (ht1 : ∀ (s : Shared) (H : Hp) (C : Addr) (cl : List (Str × Addr)) (fp : List Addr), PTs (X.blk s H scope (compEnvC scope cl C X.env) fp) ifs1 (tT t1))
    (he : ∀ (s : Shared) (H : Hp) (C : Addr) (cl : List (Str × Addr)) (fp : List Addr), PE (X.blk s H scope (compEnvC scope cl C X.env) fp) elt (tE f)) (hss : ∀ i ∈ ss, i ∈ own.map (·.2) := by decide) (hs1 : ∀ i ∈ ss1, i ∈ vs1 := by decide) (hv : ∀ i ∈ vs1, i ∈ own.map (·.2) := by decide)
    (hs : ∀ x, foldedSetIterable iter X.env x = pure x := by intro _; rfl) (hs1' : ∀ env x, foldedSetIterable iter1 env x = pure x := by intro _ _; rfl) :
    PE X (.ListComp elt [⟨tg, iter, ifs, 0⟩, ⟨tg1, iter1, ifs1, 0⟩] scope pos) (tE (dLc2 it g t it1 g1 t1 f (own.map (·.2)) vs1)) := PE.weak (pe_lc2 hc hN hi ok hv hg ht hi1 hg1 ht1 he hs hs1') (lc2_of hss hs1 hv)

/-! ### own lists -/
section
variable {Y : Xw} {X : Cx} {e : Expr} {es : List Expr} {f g : FE} {k : FA} {pos : Pos}
/-- x = [..]: a list of one's own -/
def dOwn (i : Nat) (k : FA) : FS := fun ρ => match k ρ with
  | some (ds, ρ1) => if ds.length ≤ lim then (match setOwn ρ1 i (.lst ds) with
    | some ρ2 => some (.nx, ρ2)
    | none => none) else none
  | none => none
theorem rep_ne {A : An} {ow : Ow} {H : Hp} {vs : List V} {ds : List D} (r : RepL (Fz A ow) H vs ds) {p : Addr} (hp : H p = none) (o : HO) : RepL (fun a => Fz A ow a ∧ a ≠ p) (upd H p o) vs ds :=
  r.mono (fun a u g q => ⟨⟨g, ne_of_none q hp⟩, by rw [upd_ne (ne_of_none q hp)]; exact q⟩) fun a xs q => by rw [upd_ne (ne_of_none q hp)]; exact q
theorem lim_le {n : Nat} (h : n ≤ lim) : n ≤ sizeLine := Nat.le_trans h (by decide)
theorem s_own (i : Nat) {x : Str} {pos pos' pos2 : Pos} (hN : X.N.Nodup) (he : PA X es (tA k)) (hi : X.N[i]? = some x := by rfl) (hx : Loc X.env.scope x := by first | exact Or.inl rfl | exact Or.inr rfl) (hs : swapsWith (.List es pos2) (some (.Name x pos')) pos.line X.env = pure false := by rfl) (hf : X.fn x = true ∨ X.env.scope.names.lookup x = some .local := by first | exact .inl rfl | exact .inr rfl | assumption) :
    PS X (.Assign [.Name x pos'] (.List es pos2) pos) (tS Y (dOwn i k)) := PS.weak (ps_set (i := i) hN hi hx (pe_lst he) hs hf) fun Dd σ H ⟨A, ow, ρ, fl, ρ', E, hg, q⟩ => by
  unfold dOwn at hg
  split at hg
  · rename_i ds ρ1 h1
    split at hg
    · rename_i hl
      split at hg
      · rename_i ρ2 h2
        cases hg
        refine ⟨A, ow, ρ, ds, ρ1, E, h1, fun vs H1 E1 K1 r1 => ⟨by rw [r1.length]; exact lim_le hl, fun p hp => ?_⟩⟩
        obtain ⟨E2, K2⟩ := E1.on (Same.new hp) (o := .lst ds) hp upd_same rfl ⟨vs, upd_same, rep_ne r1 hp _⟩ h2
        exact q _ _ _ E2 (K1.trans K2)
      · cases hg
    · cases hg
  · cases hg
/-- what an own list holds, and it again -/
def oL (ρ : DE) (i : Nat) : Option (List D) := match ρ[i]? with
  | some (.own (.lst ds)) => some ds
  | some (.bor (.lst ds)) => some ds
  | _ => none
def pL (ρ : DE) (i : Nat) (ds : List D) : DE := match ρ[i]? with
  | some (.own _) => ρ.set i (.own (.lst ds))
  | _ => ρ.set i (.bor (.lst ds))
theorem EnvR.getL {A : An} {ow : Ow} {H : Hp} {σ : L2.St} {ρ : DE} (E : EnvR A ow H σ ρ) {i : Nat} {ds : List D} (h : oL ρ i = some ds) : ∃ p xs, ow i = some p ∧ σ[i]? = some (some (.ref p)) ∧ H p = some (.lst xs) ∧ RepL (Fz A ow) H xs ds := by
  unfold oL at h
  split at h
  · rename_i e
    cases h
    obtain ⟨p, h1, h2, ⟨xs, h3, h4⟩, _⟩ := E.own i _ e
    exact ⟨p, xs, h1, h2, h3, h4⟩
  · rename_i e
    cases h
    obtain ⟨p, h1, h2, ⟨xs, h3, h4⟩, _⟩ := E.bor i _ e
    exact ⟨p, xs, h1, h2, h3, h4⟩
  · cases h
theorem EnvR.putL {A : An} {ow : Ow} {H : Hp} {σ : L2.St} {ρ : DE} (E : EnvR A ow H σ ρ) {i : Nat} {ds ds' : List D} {p : Addr} {xs : List V} (h : oL ρ i = some ds) (hp : ow i = some p) (r : RepL (Fz A ow) H xs ds') : EnvR A ow (upd H p (.lst xs)) σ (pL ρ i ds') ∧ Kp ow H ow (upd H p (.lst xs)) := by
  have nf : ∀ a, Fz A ow a → a ≠ p := fun a g e => g.2 i (by rw [e]; exact hp)
  obtain ⟨u, hu, ht⟩ := E.there i p hp
  have r' : RepL (Fz A ow) (upd H p (.lst xs)) xs ds' := r.mono (fun a o g q => ⟨g, by rw [upd_ne (nf a g)]; exact q⟩) fun a zs q => by
    rw [upd_ne (fun e => by subst e; rw [hu] at q; cases q; cases ht)]; exact q
  unfold oL at h
  split at h
  · rename_i e
    have := E.put (o := .lst ds') hp (u := .lst xs) rfl ⟨xs, upd_same, r'⟩ (s := .own (.lst ds')) (.inl ⟨_, e, rfl⟩)
    unfold pL
    rw [e]
    exact this
  · rename_i e
    have := E.put (o := .lst ds') hp (u := .lst xs) rfl ⟨xs, upd_same, r'⟩ (s := .bor (.lst ds')) (.inr ⟨_, e, rfl⟩)
    unfold pL
    rw [e]
    exact this
  · cases h
/-- x.append(e) -/
def dApp (i : Nat) (f : FE) : FS := fun ρ => match oL ρ i with
  | some _ => (match f ρ with
    | some (d, ρ1) => (match oL ρ1 i with
      | some ds => if ds.length < lim then some (.nx, pL ρ1 i (ds ++ [d])) else none
      | none => none)
    | none => none)
  | none => none
theorem tyL {K : PySem.W.Frag} {H : Hp} {p : Addr} {xs : List V} (h : H p = some (.lst xs)) : tyV K "list" (.ref p) H := Or.inl ⟨rfl, _, Or.inl (Or.inl h)⟩
theorem s_app (i : Nat) {x : Str} {e : Expr} {apos cpos npos : Pos} (he : PE X e (tE f)) (hN : X.N[i]? = some x := by rfl) (hv : Vis X.env.scope x := by first | exact Or.inl rfl | exact Or.inr (Or.inl rfl) | exact Or.inr (Or.inr rfl)) (hd : (x == ("__debug__" : Str)) = false := by decide) (hcd : (x == ("__classdict__" : Str)) = false := by decide)
    (hst : starEach [e] X.env = (false, eval e X.env) :: starEach [] X.env := by rfl) (hpl : (backTo cpos (starEach [] X.env)).any (·.1) = false := by rfl)
    (hfew : ((backTo cpos (starEach (e :: []) X.env)).all (fun x => !x.1) && (backToKw cpos (keywordEach [] X.env)).all (fun x => x.1.isSome)
      && decide ((e :: []).length + ([] : List Keyword).length + (if ([] : List Keyword).isEmpty then 0 else 1) < 30)) = true := by rfl)
    (hline : (apos.endLine == cpos.line) = true := by rfl) (hbase : attributeBase (.Name x npos) "append" X.env (eval (.Name x npos) X.env) = eval (.Name x npos) X.env := by rfl)
    (hs : swapsWith (.Call (.Attribute (.Name x npos) "append" apos) [e] [] cpos) none pos.line X.env = pure false := by rfl) :
    PS X (.Expr (.Call (.Attribute (.Name x npos) "append" apos) [e] [] cpos) pos) (tS Y (dApp i f)) :=
  PS.weak (ps_expr (pe_bm PySem.F.plainAttrs_list PySem.F.slot_list_append PySem.F.type_list_append mt_append (pe_var (i := i) hN hv hd hcd) (pa_cons he pa_nil hst) hbase hfew hline hst hpl) hs) fun Dd σ H ⟨A, ow, ρ, fl, ρ', E, hg, q⟩ => by
  unfold dApp at hg
  split at hg
  · rename_i ds0 h0
    split at hg
    · rename_i d ρ1 h1
      split at hg
      · rename_i ds h2
        split at hg
        · rename_i hl
          cases hg
          obtain ⟨p, xs, g1, g2, g3, g4⟩ := E.getL h0
          refine ⟨.ref p, g2, tyL g3, A, ow, ρ, d, ρ1, E, h1, fun v H1 E1 K1 r1 => ?_⟩
          obtain ⟨p', xs', k1, k2, k3, k4⟩ := E1.getL h2
          rw [g1] at k1; cases k1
          refine ⟨p, xs', v, rfl, rfl, k3, by rw [k4.length]; exact lim_lt hl, ?_⟩
          obtain ⟨E2, K2⟩ := E1.putL (xs := xs' ++ [v]) h2 g1 (k4.append (.cons r1 .nil))
          exact q _ _ _ E2 (K1.trans K2)
        · cases hg
      · cases hg
    · cases hg
  · cases hg
end
end Dn

set_option Elab.async false
set_option linter.all false
set_option maxRecDepth 100000
/-! Defs by data. -/
namespace Dn
open PySem PySem.Spec PyProof.Rows L2

def st0 (n : Nat) (ds : List D) : DE := ds.map Sl.dat ++ List.replicate (n - ds.length) Sl.un
def run (g : FS) (n m : Nat) (ds : List D) : Option D := if ds.length = m then (match g (st0 n ds) with
  | some (.rt d, _) => some d
  | some (.nx, _) => some .non
  | _ => none) else none
theorem env0 {G : Addr → Prop} {H : Hp} {vs : List V} {ds : List D} {N : List Str} (r : RepL G H vs ds) : EnvR ⟨G, H, fun _ => False⟩ (fun _ => none) H (start N vs) (st0 N.length ds) := by
  have hl := r.length
  have fz : ∀ a, G a → Fz ⟨G, H, fun _ => False⟩ (fun _ => none) a := fun a g => ⟨.inl g, fun i e => by cases e⟩
  have lt : ∀ {i : Nat} {s : Sl}, (st0 N.length ds)[i]? = some s → s ≠ .un → ∃ d, ds[i]? = some d ∧ s = .dat d := fun {i s} h hs => by
    unfold st0 at h
    by_cases hi : i < ds.length
    · rw [List.getElem?_append_left (by simpa using hi), List.getElem?_map, List.getElem?_eq_getElem hi] at h
      exact ⟨_, List.getElem?_eq_getElem hi, (Option.some.inj h).symm⟩
    · rw [List.getElem?_append_right (by simpa using hi), List.getElem?_replicate] at h
      split at h
      · exact absurd (Option.some.inj h).symm hs
      · cases h
  refine ⟨by simp [L2.start, st0, hl], fun a o h _ => h, fun i d h => ?_, fun i o h => ?_, fun i o h => ?_, fun i j p h => ?_, fun i p h => ?_, fun i p h => ?_, fun i p h => ?_⟩
  · obtain ⟨d', h1, h2⟩ := lt h (fun e => nomatch e)
    cases h2
    obtain ⟨v, h3, h4⟩ := r.get h1
    refine ⟨v, ?_, h4.mono (fun a o g q => ⟨fz a g, q⟩) fun a xs q => q⟩
    unfold L2.start
    have hi : i < vs.length := (List.getElem?_eq_some_iff.mp h3).1
    rw [List.getElem?_append_left (by simpa using hi), List.getElem?_map, h3]
    rfl
  · obtain ⟨d', h1, h2⟩ := lt h (fun e => nomatch e)
    cases h2
  · obtain ⟨d', h1, h2⟩ := lt h (fun e => nomatch e)
    cases h2
  · cases h
  · cases h
  · cases h
  · cases h
theorem same_of {G : Addr → Prop} {H H' : Hp} {ow : Ow} {σ : L2.St} {ρ : DE} (E : EnvR ⟨G, H, fun _ => False⟩ ow H' σ ρ) : Same H H' := fun a o h => E.kp a o h fun i e => by
  rcases E.fr i a e with z | z
  · have z : H a = none := z
    rw [h] at z; cases z
  · exact z
section
variable {P : Program} {w : World} {K : PySem.W.Frag} {mg : Str → Option Value} {base : Heap}
theorem len_ok {m : List D → Option D} {n : Nat} (h : ∀ ds d, m ds = some d → ds.length = n) {vs : List V} {H : Hp} {Q : VK} {E : XK} (q : spD m vs H Q E) : vs.length = n := by
  obtain ⟨G, ds, d, r, hm, _⟩ := q
  rw [r.length]
  exact h ds d hm
theorem run_len {g : FS} {n m : Nat} {ds : List D} {d : D} (h : run g n m ds = some d) : ds.length = m := by
  unfold run at h
  split at h
  · assumption
  · cases h
/-- a def that changes nothing, by its body -/
theorem okD {x qual : Str} {st : Stmt} {f : Addr} {fd : FuncData} {N ps : List Str} {k n m : Nat} {g : FS} (F : Fun K x qual st f fd) (S : FnScope N ps (defScope st))
    (hb : ∀ (cdv : Value) (A : Around) (outer : List Env) (s : Shared) (H : Hp) (E : XK), Room k (A.deeper (envOfC qual (defScope st) s.heap.objs.size f cdv)) → PSs (cxOf CX0 P w K mg base N qual (defScope st) f cdv A outer s H E).nox (defBody st) (tS (Y0 mg) g))
    (hn : N.length = n := by rfl) (hm : ps.length = m := by rfl) : FnOk P w K mg base CX0 (k + 1) f fd ps (spD (run g n m)) := by
  subst hn hm
  refine F.ok S (fun vs H Q E h => len_ok (fun ds d e => run_len e) h) fun cdv A outer s H vs Q E hr h => ⟨tS (Y0 mg) g, hb cdv A outer s H E hr, ?_⟩
  obtain ⟨G, ds, d, r, hrun, q⟩ := h
  unfold run at hrun
  rw [if_pos (run_len hrun)] at hrun
  split at hrun
  · rename_i d' ρ' hg
    cases hrun
    refine ⟨⟨G, H, fun _ => False⟩, fun _ => none, _, _, ρ', env0 r, hg, fun v σ' H' ow' E' K' r' => ?_⟩
    exact q v H' (same_of E') (r'.mono (fun a o g z => ⟨g, z⟩) fun a xs z => z)
  · rename_i ρ' hg
    cases hrun
    refine ⟨⟨G, H, fun _ => False⟩, fun _ => none, _, _, ρ', env0 r, hg, fun σ' H' ow' E' K' => ?_⟩
    exact q .non H' (same_of E') .non
  · cases hrun
end
section
variable {X : Cx} {x : Str} {p pos : Pos} {e : Expr} {es : List Expr} {fa : FA} {m : List D → Option D} {k : Nat} {f : Addr} {fd : FuncData} {ps : List Str}
/-- a call of such a def -/
theorem e_call (F : FnOk X.prog X.w X.K X.mg X.base CX0 k f fd ps (spD m)) (hr : Room k X.A) (hm : X.mg x = some (.ref f)) (hk : PySem.W.keepIn X.K (.ref f) = true) (hb : Binds X.K fd ps [])
    (ha : PA X (e :: es) (tA fa)) (hg : Gl X x := by rfl) (hdb : (x == ("__debug__" : Str)) = false := by decide) (he : starEach (e :: es) X.env = (false, eval e X.env) :: starEach es X.env := by rfl) (hpl : (backTo pos (starEach es X.env)).any (·.1) = false := by rfl) :
    PE X (.Call (.Name x p) (e :: es) [] pos) (tE (dCall m fa)) := PE.weak (pe_call (E := E0) F hr hg hm hk hb .nil pass0 ha hdb he hpl) fun σ H Q => by
  rintro ⟨A, ow, ρ, d, ρ', E, hf, q⟩
  unfold dCall at hf
  split at hf
  · rename_i d1 ρ1 h1
    split at hf
    · rename_i d3 h3
      cases hf
      refine ⟨A, ow, ρ, d1, ρ', E, h1, fun v H1 E1 K1 r1 => ?_⟩
      show spD m (v ++ []) H1 Q E0
      rw [List.append_nil]
      exact ⟨_, d1, d, r1, h3, fun z H3 s3 r3 => q z H3 (E1.same s3) (K1.trans (Kp.same s3)) (E1.ungrow r3)⟩
    · cases hf
  · cases hf
/-- a call of a built-in function, of a built-in type -/
theorem e_callB {id : String} {r : List V → Hp → VK → Prop} {op : List D → Option D} (hc : CallR X (.builtin id) r) (h : CallD r op) (hm : X.mg x = none) (hv : bootBuiltins x = some (.builtin id)) (ha : PA X (e :: es) (tA fa)) (hg : Gl X x := by rfl) (hn : x ≠ "__name__" := by decide) (hdb : (x == ("__debug__" : Str)) = false := by decide)
    (he : starEach (e :: es) X.env = (false, eval e X.env) :: starEach es X.env := by rfl) (hpl : (backTo pos (starEach es X.env)).any (·.1) = false := by rfl) : PE X (.Call (.Name x p) (e :: es) [] pos) (tE (dCall op fa)) :=
  PE.weak (pe_callB hc hg hm hv ha hn hdb he hpl) (tCB_of h)
theorem e_callTy {T : String} {r : List V → Hp → VK → Prop} {op : List D → Option D} (hc : CallR X (.type T) r) (h : CallD r op) (hm : X.mg x = none) (hv : bootBuiltins x = some (.type T)) (ha : PA X (e :: es) (tA fa)) (hg : Gl X x := by rfl) (hn : x ≠ "__name__" := by decide) (hdb : (x == ("__debug__" : Str)) = false := by decide)
    (he : starEach (e :: es) X.env = (false, eval e X.env) :: starEach es X.env := by rfl) (hpl : (backTo pos (starEach es X.env)).any (·.1) = false := by rfl) : PE X (.Call (.Name x p) (e :: es) [] pos) (tE (dCall op fa)) :=
  PE.weak (pe_callTy hc hg hm hv ha hn hdb he hpl) (tCB_of h)
end
end Dn

set_option Elab.async false
set_option linter.all false
set_option maxRecDepth 100000
/-! Operations on data. -/
namespace Dn
open PySem PySem.Spec PyProof.Rows L2

theorem same1 {G : Addr → Prop} {H : Hp} {v : V} {d : D} {Q : VK} (q : ∀ v H', Same H H' → Rep (Gr G H) H' v d → Q v H') (r : Rep G H v d) : Q v H := q v H (Same.refl H) r.old
/-- a new tuple, a new list -/
theorem newT {G : Addr → Prop} {H : Hp} {xs : List V} {ds : List D} {Q : VK} (q : ∀ v H', Same H H' → Rep (Gr G H) H' v (.tup ds) → Q v H') (r : RepL G H xs ds) {p : Addr} (hp : H p = none) : Q (.ref p) (upd H p (.tup xs)) :=
  q _ _ (Same.new hp) (.tup upd_same (r.grow (Same.new hp)))
theorem newL {G : Addr → Prop} {H : Hp} {xs : List V} {ds : List D} {Q : VK} (q : ∀ v H', Same H H' → Rep (Gr G H) H' v (.lst ds) → Q v H') (r : RepL G H xs ds) {p : Addr} (hp : H p = none) : Q (.ref p) (upd H p (.lst xs)) :=
  q _ _ (Same.new hp) (.lst (.inr hp) upd_same (r.grow (Same.new hp)))
theorem RepL.nil_iff {G : Addr → Prop} {H : Hp} {xs : List V} {ds : List D} (r : RepL G H xs ds) : xs = [] ↔ ds = [] := by
  cases r <;> simp

/-! ### + - * // % -/
def dAdd : D → D → Option D
  | .int i, .int j => some (.int (i + j))
  | .tup xs, .tup ys => if xs.length + ys.length ≤ lim then some (.tup (xs ++ ys)) else none
  | .lst xs, .lst ys => if xs.length + ys.length ≤ lim then some (.lst (xs ++ ys)) else none
  | _, _ => none
def rAddD (K : PySem.W.Frag) : R2 := fun x y H Q => rI0 (fun i j => .int (i + j)) x y H Q ∨ (rCatA K x y H Q ∨ rCat x y H Q)
theorem or_add {X : Cx} : OpR X (binaryOp .Add) (rAddD X.K) := op_add.or (op_catA.or op_cat)
theorem dd_add {K : PySem.W.Frag} : OpD (rAddD K) dAdd := by
  intro G H x y dx dy d Q rx ry h q
  unfold dAdd at h
  split at h
  · cases h; cases rx; cases ry
    exact .inl ⟨_, _, rfl, rfl, same1 q (.int _)⟩
  · split at h
    · rename_i xs ys hl
      cases h
      cases rx with
      | tup ha ra =>
        cases ry with
        | tup hb rb =>
          refine .inr (.inl ⟨_, _, _, _, rfl, rfl, SqT.of ha, SqT.of hb, by rw [ra.length, rb.length]; exact lim_le hl, fun e => ?_, fun _ e => ?_, fun _ _ p hp => newT q (ra.append rb) hp⟩)
          · have := ra.nil_iff.mp e
            subst this
            exact same1 q (.tup hb rb)
          · have := rb.nil_iff.mp e
            subst this
            rw [List.append_nil] at q
            exact same1 q (.tup ha ra)
    · cases h
  · split at h
    · rename_i xs ys hl
      cases h
      cases rx with
      | lst ga ha ra =>
        cases ry with
        | lst gb hb rb => exact .inr (.inr ⟨_, _, _, _, rfl, rfl, ha, hb, by rw [ra.length, rb.length]; exact lim_le hl, fun p hp => newL q (ra.append rb) hp⟩)
    · cases h
  · cases h
def dSub : D → D → Option D
  | .int i, .int j => some (.int (i - j))
  | _, _ => none
theorem dd_sub : OpD (rI0 fun i j => .int (i - j)) dSub := by
  intro G H x y dx dy d Q rx ry h q
  unfold dSub at h
  split at h
  · cases h; cases rx; cases ry
    exact ⟨_, _, rfl, rfl, same1 q (.int _)⟩
  · cases h
/-- products: of ints of together less than a million bits; of a list and an int -/
def dMul : D → D → Option D
  | .int i, .int j => if i.natAbs.log2 + j.natAbs.log2 < 1000000 then some (.int (i * j)) else none
  | .lst xs, .int k => if -(2 ^ 63) ≤ k ∧ k < 2 ^ 63 ∧ xs.length * k.toNat ≤ lim then some (.lst (List.replicate k.toNat xs).flatten) else none
  | _, _ => none
def rMulD : R2 := fun x y H Q => rI CMulW (fun i j => .int (i * j)) x y H Q ∨ rRep x y H Q
theorem or_mul {X : Cx} : OpR X (binaryOp .Mult) rMulD := op_mulW.or op_rep
theorem RepL.rep {G : Addr → Prop} {H : Hp} {xs : List V} {ds : List D} (r : RepL G H xs ds) : ∀ n : Nat, RepL G H (List.replicate n xs).flatten (List.replicate n ds).flatten
  | 0 => .nil
  | n + 1 => by
    rw [List.replicate_succ, List.replicate_succ, List.flatten_cons, List.flatten_cons]
    exact r.append (RepL.rep r n)
theorem dd_mul : OpD rMulD dMul := by
  intro G H x y dx dy d Q rx ry h q
  unfold dMul at h
  split at h
  · split at h
    · rename_i hb
      cases h; cases rx; cases ry
      exact .inl ⟨_, _, rfl, rfl, hb, same1 q (.int _)⟩
    · cases h
  · split at h
    · rename_i xs k hb
      cases h
      cases ry
      cases rx with
      | lst ga ha ra =>
        refine .inr ?_
        exact ⟨_, _, _, rfl, rfl, ha, hb.1, hb.2.1, by rw [ra.length]; exact lim_le hb.2.2, fun p hp => newL q (ra.rep k.toNat) hp⟩
    · cases h
  · cases h
def dDiv : D → D → Option D
  | .int i, .int j => if 0 < j ∧ j.natAbs.log2 < 9000 then some (.int (i / j)) else none
  | _, _ => none
theorem dd_div : OpD (rI CDivW fun i j => .int (i / j)) dDiv := by
  intro G H x y dx dy d Q rx ry h q
  unfold dDiv at h
  split at h
  · split at h
    · rename_i hb
      cases h; cases rx; cases ry
      exact ⟨_, _, rfl, rfl, hb, same1 q (.int _)⟩
    · cases h
  · cases h
def dMod : D → D → Option D
  | .int i, .int j => if 0 < j then some (.int (i % j)) else none
  | _, _ => none
theorem dd_mod : OpD (rI (fun _ j => 0 < j) fun i j => .int (i % j)) dMod := by
  intro G H x y dx dy d Q rx ry h q
  unfold dMod at h
  split at h
  · split at h
    · rename_i hb
      cases h; cases rx; cases ry
      exact ⟨_, _, rfl, rfl, hb, same1 q (.int _)⟩
    · cases h
  · cases h
def dPow : D → D → Option D
  | .int i, .int j => if 0 ≤ j ∧ j ≤ 1000000 ∧ i.natAbs < 2 ^ 64 then some (.int (i ^ j.toNat)) else none
  | _, _ => none
theorem dd_pow : OpD (rI CPow fun i j => .int (i ^ j.toNat)) dPow := by
  intro G H x y dx dy d Q rx ry h q
  unfold dPow at h
  split at h
  · split at h
    · rename_i hb
      cases h; cases rx; cases ry
      exact ⟨_, _, rfl, rfl, hb, same1 q (.int _)⟩
    · cases h
  · cases h
def dNeg : D → Option D
  | .int i => some (.int (-i))
  | _ => none
theorem dd_neg : UnD (rU fun i => .int (-i)) dNeg := by
  intro G H x dx d Q rx h q
  unfold dNeg at h
  split at h
  · cases h; cases rx
    exact ⟨_, rfl, same1 q (.int _)⟩
  · cases h
/-! ### comparisons -/
def dCmp (p : Int → Int → Bool) : D → D → Option D
  | .int i, .int j => some (.bl (p i j))
  | _, _ => none
theorem dd_cmp {p : Int → Int → Bool} : OpD (rI0 fun i j => .bl (p i j)) (dCmp p) := by
  intro G H x y dx dy d Q rx ry h q
  unfold dCmp at h
  split at h
  · cases h; cases rx; cases ry
    exact ⟨_, _, rfl, rfl, same1 q (.bl _)⟩
  · cases h
abbrev dLt := dCmp fun i j => decide (i < j)
abbrev dLe := dCmp fun i j => decide (i ≤ j)
abbrev dGt := dCmp fun i j => decide (j < i)
abbrev dGe := dCmp fun i j => decide (j ≤ i)
mutual
def toPy : D → Option PyData
  | .non => some .none
  | .bl b => some (.bool b)
  | .int i => some (.int i)
  | .str x => some (.str x)
  | .tup xs => (match toPyL xs with
    | some ps => some (.tuple ps)
    | none => none)
  | .lst xs => (match toPyL xs with
    | some ps => some (.list ps)
    | none => none)
  | .dk _ => none
  | .ins _ _ => none
  | .frl _ _ => none
def toPyL : List D → Option (List PyData)
  | [] => some []
  | d :: ds => (match toPy d with
    | some p => (match toPyL ds with
      | some ps => some (p :: ps)
      | none => none)
    | none => none)
end
mutual
theorem dp_of {K : PySem.W.Frag} {G : Addr → Prop} {H : Hp} : ∀ {d : D} {v : V} {p : PyData}, Rep G H v d → toPy d = some p → Dp K H v p
  | .non, _, _, r, h => by cases r; cases h; exact .non
  | .bl b, _, _, r, h => by cases r; cases h; exact .bl b
  | .int i, _, _, r, h => by cases r; cases h; exact .int i
  | .str x, _, _, r, h => by cases r; cases h; exact .str x
  | .tup xs, _, _, r, h => by
    unfold toPy at h
    split at h
    · rename_i ps hp
      cases h
      cases r with
      | tup ha ra => exact .tup (SqT.of ha) (dpl_of ra hp)
    · cases h
  | .lst xs, _, _, r, h => by
    unfold toPy at h
    split at h
    · rename_i ps hp
      cases h
      cases r with
      | lst ga ha ra => exact .lst (SqL.of ha) (dpl_of ra hp)
    · cases h
  | .dk _, _, _, r, h => by cases h
  | .ins _ _, _, _, r, h => by cases h
  | .frl _ _, _, _, r, h => by cases h
theorem dpl_of {K : PySem.W.Frag} {G : Addr → Prop} {H : Hp} : ∀ {d : List D} {v : List V} {p : List PyData}, RepL G H v d → toPyL d = some p → DpAll K H v p
  | [], _, _, r, h => by cases r; cases h; exact .nil
  | d :: ds, _, _, r, h => by
    unfold toPyL at h
    split at h
    · rename_i p hp
      split at h
      · rename_i ps hps
        cases h
        cases r with
        | cons ra rb => exact .cons (dp_of ra hp) (dpl_of rb hps)
      · cases h
    · cases h
end
def dEq (x y : D) : Option D := match toPy x, toPy y with
  | some p, some q => if SeqAt.shaped p = true ∧ SeqAt.shaped q = true then some (.bl (PyData.eqv p q)) else none
  | _, _ => none
def dNe (x y : D) : Option D := match toPy x, toPy y with
  | some p, some q => if SeqAt.shaped p = true ∧ SeqAt.shaped q = true then some (.bl (!PyData.eqv p q)) else none
  | _, _ => none
theorem dd_eq {K : PySem.W.Frag} : OpD (rEqD K) dEq := by
  intro G H x y dx dy d Q rx ry h q
  unfold dEq at h
  split at h
  · rename_i p p' h1 h2
    split at h
    · rename_i hs
      cases h
      exact ⟨_, _, dp_of rx h1, dp_of ry h2, hs.1, hs.2, same1 q (.bl _)⟩
    · cases h
  · cases h
theorem dd_ne {K : PySem.W.Frag} : OpD (rNeD K) dNe := by
  intro G H x y dx dy d Q rx ry h q
  unfold dNe at h
  split at h
  · rename_i p p' h1 h2
    split at h
    · rename_i hs
      cases h
      exact ⟨_, _, dp_of rx h1, dp_of ry h2, hs.1, hs.2, same1 q (.bl _)⟩
    · cases h
  · cases h
/-- is None -/
def isNon : D → Bool
  | .non => true
  | _ => false
def dIsN (x y : D) : Option D := match y with
  | .non => some (.bl (isNon x))
  | _ => none
def dNotN (x y : D) : Option D := match y with
  | .non => some (.bl (!isNon x))
  | _ => none
theorem isNon_of {G : Addr → Prop} {H : Hp} {x : V} {d : D} (r : Rep G H x d) : decide (x = .non) = isNon d := by
  cases r <;> rfl
theorem dd_isN : OpD (fun x y H Q => y = .non ∧ Q (.bl (decide (x = .non))) H) dIsN := by
  intro G H x y dx dy d Q rx ry h q
  unfold dIsN at h
  split at h
  · cases h; cases ry
    exact ⟨rfl, by rw [isNon_of rx]; exact same1 q (.bl _)⟩
  · cases h
theorem dd_notN : OpD (fun x y H Q => y = .non ∧ Q (.bl (!decide (x = .non))) H) dNotN := by
  intro G H x y dx dy d Q rx ry h q
  unfold dNotN at h
  split at h
  · cases h; cases ry
    exact ⟨rfl, by rw [isNon_of rx]; exact same1 q (.bl _)⟩
  · cases h
/-! x in xs: flat items -/
def toV : D → Option V
  | .non => some .non
  | .bl b => some (.bl b)
  | .int i => some (.int i)
  | .str x => some (.str x)
  | _ => none
/-! ### subscripts, slices -/
def dIx (x y : D) : Option D := match x, y with
  | .lst xs, .int i => atI xs i
  | .tup xs, .int i => atI xs i
  | _, _ => none
theorem atI_rep {G : Addr → Prop} {H : Hp} {vs : List V} {ds : List D} {i : Int} {d : D} (r : RepL G H vs ds) (h : atI ds i = some d) : ∃ v, atI vs i = some v ∧ Rep G H v d := by
  unfold atI at h ⊢
  rw [r.length]
  cases e : ixN ds.length i with
  | none => rw [e] at h; cases h
  | some j =>
    rw [e] at h
    exact r.get h
def rIxD (K : PySem.W.Frag) : R2 := fun x y H Q => rIxL K x y H Q ∨ rIxT K x y H Q
theorem or_ix {X : Cx} : IxR X (rIxD X.K) := ix_list.or ix_tup
theorem dd_ix {K : PySem.W.Frag} : OpD (rIxD K) dIx := by
  intro G H x y dx dy d Q rx ry h q
  unfold dIx at h
  split at h
  · cases ry
    cases rx with
    | lst ga ha ra =>
      obtain ⟨v, h1, h2⟩ := atI_rep ra h
      exact .inl ⟨_, _, _, v, rfl, rfl, SqL.of ha, h1, same1 q h2⟩
  · cases ry
    cases rx with
    | tup ha ra =>
      obtain ⟨v, h1, h2⟩ := atI_rep ra h
      exact .inr ⟨_, _, _, v, rfl, rfl, SqT.of ha, h1, same1 q h2⟩
  · cases h
theorem e_ix {X : Cx} {a b : Expr} {f g : FE} {pos : Pos} (ha : PE X a (tE f)) (hb : PE X b (tE g)) (hs : PlainIx b := by intro _ _; rfl) : PE X (.Subscript a b pos) (tE (dOp dIx f g)) := PE.weak (pe_ix or_ix ha hb hs) (tOp_of dd_ix)
/-- a part of a slice -/
abbrev FO := DE → Option (Option Int × DE)
def tO (f : FO) : TO := fun σ H Q => ∃ A ow ρ d ρ', EnvR A ow H σ ρ ∧ f ρ = some (d, ρ') ∧ ∀ H', EnvR A ow H' σ ρ' → Kp ow H ow H' → Q d H'
def dNoP : FO := fun ρ => some (none, ρ)
def dPart (f : FE) : FO := fun ρ => match f ρ with
  | some (.int i, ρ1) => some (some i, ρ1)
  | _ => none
theorem PO.weak {X : Cx} {e : Option Expr} {t t' : TO} (h : PO X e t) (w : ∀ σ H Q, t' σ H Q → t σ H Q) : PO X e t' := ⟨fun pins s σ H Q I q => h.run pins s σ H Q I (w _ _ _ q)⟩
theorem o_none {X : Cx} : PO X none (tO dNoP) := PO.weak po_none fun σ H Q ⟨A, ow, ρ, d, ρ', E, hf, q⟩ => by
  cases hf
  exact q H E (Kp.refl _ _)
theorem o_some {X : Cx} {e : Expr} {f : FE} (h : PE X e (tE f)) : PO X (some e) (tO (dPart f)) := PO.weak (po_some h) fun σ H Q ⟨A, ow, ρ, d, ρ', E, hf, q⟩ => by
  unfold dPart at hf
  split at hf
  · rename_i i ρ1 h1
    cases hf
    refine ⟨A, ow, ρ, _, ρ', E, h1, fun v H' E' K' r => ?_⟩
    cases r
    exact ⟨_, rfl, q H' E' K'⟩
  · cases hf
def cutD (xs : List D) (lo hi : Option Int) : List D := (xs.drop (HT.sIx xs.length 0 lo)).take (HT.sIx xs.length xs.length hi - HT.sIx xs.length 0 lo)
def slD (x : D) (lo hi : Option Int) : Option D := match x with
  | .lst xs => some (.lst (cutD xs lo hi))
  | .tup xs => some (.tup (cutD xs lo hi))
  | _ => none
def dSl (f : FE) (g h : FO) : FE := fun ρ => match f ρ with
  | some (x, ρ1) => (match g ρ1 with
    | some (lo, ρ2) => (match h ρ2 with
      | some (hi, ρ3) => (match slD x lo hi with
        | some d => some (d, ρ3)
        | none => none)
      | none => none)
    | none => none)
  | none => none
def rSlD (K : PySem.W.Frag) : V → Option Int → Option Int → Hp → VK → Prop := fun x lo hi H Q => rSlL K x lo hi H Q ∨ rSlA K x lo hi H Q
theorem or_sl {X : Cx} : SlR X (rSlD X.K) := sl_list.or sl_tupA
theorem cut_rep {G : Addr → Prop} {H : Hp} {vs : List V} {ds : List D} {lo hi : Option Int} (r : RepL G H vs ds) : RepL G H (cutV vs lo hi) (cutD ds lo hi) := by
  unfold cutV cutD
  rw [r.length]
  exact (r.drop _).take _
theorem dd_sl {K : PySem.W.Frag} {G : Addr → Prop} {H : Hp} {x : V} {dx d : D} {lo hi : Option Int} {Q : VK} (rx : Rep G H x dx) (h : slD dx lo hi = some d) (q : ∀ v H', Same H H' → Rep (Gr G H) H' v d → Q v H') : rSlD K x lo hi H Q := by
  unfold slD at h
  split at h
  · cases h
    cases rx with
    | lst ga ha ra => exact .inl ⟨_, _, rfl, SqL.of ha, fun p hp => newL q (cut_rep ra) hp⟩
  · rename_i xs
    cases h
    cases rx with
    | tup ha ra =>
      refine .inr ⟨_, _, rfl, SqT.of ha, fun w => ?_, fun _ p hp => newT q (cut_rep ra) hp⟩
      have e : cutD xs lo hi = xs := by
        rw [ra.length] at w
        unfold cutD
        rw [w.1, w.2]
        simp
      rw [e] at q
      exact same1 q (.tup ha ra)
  · cases h
theorem e_slice {X : Cx} {e : Expr} {lo hi : Option Expr} {f : FE} {g h : FO} {pos p2 : Pos} (he : PE X e (tE f)) (hl : PO X lo (tO g)) (hu : PO X hi (tO h)) : PE X (.Subscript e (.Slice lo hi none p2) pos) (tE (dSl f g h)) :=
  PE.weak (pe_slice or_sl he hl hu) fun σ H Q ⟨A, ow, ρ, d, ρ', E, hf, q⟩ => by
  unfold dSl at hf
  split at hf
  · rename_i x ρ1 h1
    split at hf
    · rename_i l ρ2 h2
      split at hf
      · rename_i u ρ3 h3
        split at hf
        · rename_i d' h4
          cases hf
          refine ⟨A, ow, ρ, x, ρ1, E, h1, fun v H1 E1 K1 r1 => ⟨A, ow, ρ1, l, ρ2, E1, h2, fun H2 E2 K2 => ⟨A, ow, ρ2, u, ρ', E2, h3, fun H3 E3 K3 => ?_⟩⟩⟩
          exact dd_sl (E2.move K3 (E1.move K2 r1)) h4 fun z H4 s4 r4 => q z H4 (E3.same s4) (((K1.trans K2).trans K3).trans (Kp.same s4)) (E3.ungrow r4)
        · cases hf
      · cases hf
    · cases hf
  · cases hf
/-! ### displays -/
def dTup (k : FA) : FE := fun ρ => match k ρ with
  | some (ds, ρ1) => if ds.length ≤ lim then some (.tup ds, ρ1) else none
  | none => none
def dLst (k : FA) : FE := fun ρ => match k ρ with
  | some (ds, ρ1) => if ds.length ≤ lim then some (.lst ds, ρ1) else none
  | none => none
theorem e_tup {X : Cx} {es : List Expr} {k : FA} {x1} {pos : Pos} (h : PA X es (tA k)) : PE X (.Tuple es x1 pos) (tE (dTup k)) := PE.weak (pe_tup h) fun σ H Q ⟨A, ow, ρ, d, ρ', E, hf, q⟩ => by
  unfold dTup at hf
  split at hf
  · rename_i ds ρ1 h1
    split at hf
    · rename_i hl
      cases hf
      refine ⟨A, ow, ρ, ds, ρ', E, h1, fun vs H1 E1 K1 r1 => ⟨by rw [r1.length]; exact lim_le hl, fun p hp => ?_⟩⟩
      exact q _ _ (E1.same (Same.new hp)) (K1.trans (Kp.same (Same.new hp))) (.tup upd_same (E1.ungrowL (r1.grow (Same.new hp))))
    · cases hf
  · cases hf
theorem e_lst {X : Cx} {es : List Expr} {k : FA} {pos : Pos} (h : PA X es (tA k)) : PE X (.List es pos) (tE (dLst k)) := PE.weak (pe_lst h) fun σ H Q ⟨A, ow, ρ, d, ρ', E, hf, q⟩ => by
  unfold dLst at hf
  split at hf
  · rename_i ds ρ1 h1
    split at hf
    · rename_i hl
      cases hf
      refine ⟨A, ow, ρ, ds, ρ', E, h1, fun vs H1 E1 K1 r1 => ⟨by rw [r1.length]; exact lim_le hl, fun p hp => ?_⟩⟩
      exact q _ _ (E1.same (Same.new hp)) (K1.trans (Kp.same (Same.new hp))) (.lst (E1.fresh hp) upd_same (E1.ungrowL (r1.grow (Same.new hp))))
    · cases hf
  · cases hf
/-! ### len, int, tuple, list, all, any, sum, max, min, isinstance -/
def dLen : List D → Option D
  | [.lst xs] => some (.int xs.length)
  | [.tup xs] => some (.int xs.length)
  | _ => none
theorem dd_len {K : PySem.W.Frag} : CallD (fun xs H Q => ∃ p ys, xs = [.ref p] ∧ (SqL K H p ys ∨ SqT K H p ys) ∧ Q (.int ys.length) H) dLen := by
  intro G H vs ds d Q r h q
  unfold dLen at h
  split at h
  · cases h
    cases r with
    | cons ra rb =>
      cases rb
      cases ra with
      | lst ga ha rl => exact ⟨_, _, rfl, .inl (SqL.of ha), by rw [rl.length]; exact same1 q (.int _)⟩
  · cases h
    cases r with
    | cons ra rb =>
      cases rb
      cases ra with
      | tup ha rl => exact ⟨_, _, rfl, .inr (SqT.of ha), by rw [rl.length]; exact same1 q (.int _)⟩
  · cases h
def dInt : List D → Option D
  | [.int i] => some (.int i)
  | [.bl k] => some (.int (if k then 1 else 0))
  | _ => none
theorem dd_int : CallD (fun xs H Q => (∃ i, xs = [.int i] ∧ Q (.int i) H) ∨ ∃ k, xs = [.bl k] ∧ Q (.int (if k then 1 else 0)) H) dInt := by
  intro G H vs ds d Q r h q
  unfold dInt at h
  split at h
  · cases h
    cases r with
    | cons ra rb => cases rb; cases ra; exact .inl ⟨_, rfl, same1 q (.int _)⟩
  · cases h
    cases r with
    | cons ra rb => cases rb; cases ra; exact .inr ⟨_, rfl, same1 q (.int _)⟩
  · cases h
def dTuple : List D → Option D
  | [.lst xs] => some (.tup xs)
  | [.tup xs] => some (.tup xs)
  | _ => none
theorem dd_tuple {K : PySem.W.Frag} : CallD (fun xs H Q => ∃ p ys, xs = [.ref p] ∧ ((SqL K H p ys ∧ ∀ l, H l = none → Q (.ref l) (upd H l (.tup ys))) ∨ (SqT K H p ys ∧ Q (.ref p) H))) dTuple := by
  intro G H vs ds d Q r h q
  unfold dTuple at h
  split at h
  · cases h
    cases r with
    | cons ra rb => cases rb; cases ra with
      | lst ga ha rl => exact ⟨_, _, rfl, .inl ⟨SqL.of ha, fun p hp => newT q rl hp⟩⟩
  · cases h
    cases r with
    | cons ra rb => cases rb; cases ra with
      | tup ha rl => exact ⟨_, _, rfl, .inr ⟨SqT.of ha, same1 q (.tup ha rl)⟩⟩
  · cases h
def dList : List D → Option D
  | [.lst xs] => some (.lst xs)
  | [.tup xs] => some (.lst xs)
  | _ => none
theorem dd_list {K : PySem.W.Frag} : CallD (fun xs H Q => ∃ p ys, xs = [.ref p] ∧ (SqL K H p ys ∨ SqT K H p ys) ∧ ∀ l, H l = none → Q (.ref l) (upd H l (.lst ys))) dList := by
  intro G H vs ds d Q r h q
  unfold dList at h
  split at h
  · cases h
    cases r with
    | cons ra rb => cases rb; cases ra with
      | lst ga ha rl => exact ⟨_, _, rfl, .inl (SqL.of ha), fun p hp => newL q rl hp⟩
  · cases h
    cases r with
    | cons ra rb => cases rb; cases ra with
      | tup ha rl => exact ⟨_, _, rfl, .inr (SqT.of ha), fun p hp => newL q rl hp⟩
  · cases h
/-- the bools, the ints of a row -/
def blsOf : List D → Option (List Bool)
  | [] => some []
  | .bl b :: r => (match blsOf r with
    | some bs => some (b :: bs)
    | none => none)
  | _ => none
def intsOf : List D → Option (List Int)
  | [] => some []
  | .int i :: r => (match intsOf r with
    | some is => some (i :: is)
    | none => none)
  | _ => none
theorem blsOf_eq : ∀ {ds : List D} {bs : List Bool}, blsOf ds = some bs → ds = bs.map .bl
  | [], _, h => by cases h; rfl
  | .bl b :: r, bs, h => by
    unfold blsOf at h
    split at h
    · rename_i bs' h'
      cases h
      rw [blsOf_eq h']
      rfl
    · cases h
  | .non :: _, _, h => by cases h
  | .int _ :: _, _, h => by cases h
  | .str _ :: _, _, h => by cases h
  | .tup _ :: _, _, h => by cases h
  | .lst _ :: _, _, h => by cases h
  | .dk _ :: _, _, h => by cases h
  | .ins _ _ :: _, _, h => by cases h
theorem intsOf_eq : ∀ {ds : List D} {bs : List Int}, intsOf ds = some bs → ds = bs.map .int
  | [], _, h => by cases h; rfl
  | .int b :: r, bs, h => by
    unfold intsOf at h
    split at h
    · rename_i bs' h'
      cases h
      rw [intsOf_eq h']
      rfl
    · cases h
  | .non :: _, _, h => by cases h
  | .bl _ :: _, _, h => by cases h
  | .str _ :: _, _, h => by cases h
  | .tup _ :: _, _, h => by cases h
  | .lst _ :: _, _, h => by cases h
  | .dk _ :: _, _, h => by cases h
  | .ins _ _ :: _, _, h => by cases h
theorem blsOf_map (bs : List Bool) : blsOf (bs.map .bl) = some bs := by
  induction bs with
  | nil => rfl
  | cons b r ih => show (match blsOf (r.map .bl) with | some bs => some (b :: bs) | none => none) = _; rw [ih]
theorem intsOf_map (bs : List Int) : intsOf (bs.map .int) = some bs := by
  induction bs with
  | nil => rfl
  | cons b r ih => show (match intsOf (r.map .int) with | some bs => some (b :: bs) | none => none) = _; rw [ih]
def dFold (k : List Bool → D) : List D → Option D
  | [.lst xs] => (match blsOf xs with
    | some bs => some (k bs)
    | none => none)
  | _ => none
theorem dd_all {K : PySem.W.Frag} : CallD (rAll K) (dFold fun bs => .bl (bs.all id)) := by
  intro G H vs ds d Q r h q
  unfold dFold at h
  split at h
  · split at h
    · rename_i xs bs hb
      cases h
      rw [blsOf_eq hb] at r
      cases r with
      | cons ra rb => cases rb; cases ra with
        | lst ga ha rl => exact ⟨_, bs, rfl, SqL.of (by rw [ha, rl.bls]), same1 q (.bl _)⟩
    · cases h
  · cases h
theorem dd_any {K : PySem.W.Frag} : CallD (rAny K) (dFold fun bs => .bl (bs.any id)) := by
  intro G H vs ds d Q r h q
  unfold dFold at h
  split at h
  · split at h
    · rename_i xs bs hb
      cases h
      rw [blsOf_eq hb] at r
      cases r with
      | cons ra rb => cases rb; cases ra with
        | lst ga ha rl => exact ⟨_, bs, rfl, SqL.of (by rw [ha, rl.bls]), same1 q (.bl _)⟩
    · cases h
  · cases h
def dSum : List D → Option D
  | [.lst xs] => (match intsOf xs with
    | some ns => some (.int ns.sum)
    | none => none)
  | _ => none
theorem dd_sum {K : PySem.W.Frag} : CallD (rSum K) dSum := by
  intro G H vs ds d Q r h q
  unfold dSum at h
  split at h
  · split at h
    · rename_i xs bs hb
      cases h
      rw [intsOf_eq hb] at r
      cases r with
      | cons ra rb => cases rb; cases ra with
        | lst ga ha rl => exact ⟨_, bs, rfl, SqL.of (by rw [ha, rl.ints]), same1 q (.int _)⟩
    · cases h
  · cases h
/-- the greatest, the least -/
def maxI : List Int → Int
  | [] => 0
  | x :: r => r.foldl max x
def minI : List Int → Int
  | [] => 0
  | x :: r => r.foldl min x
theorem foldl_max_le : ∀ (r : List Int) (x : Int), x ≤ r.foldl max x ∧ ∀ y ∈ r, y ≤ r.foldl max x
  | [], x => ⟨Int.le_refl _, fun y h => by cases h⟩
  | z :: r, x => by
    have ih := foldl_max_le r (max x z)
    refine ⟨by show x ≤ r.foldl max (max x z); have := Int.le_max_left x z; omega, fun y h => ?_⟩
    show y ≤ r.foldl max (max x z)
    rcases List.mem_cons.mp h with e | h
    · subst e; have := Int.le_max_right x y; omega
    · exact ih.2 y h
theorem foldl_max_mem : ∀ (r : List Int) (x : Int), r.foldl max x = x ∨ r.foldl max x ∈ r
  | [], x => .inl rfl
  | z :: r, x => by
    show r.foldl max (max x z) = x ∨ r.foldl max (max x z) ∈ z :: r
    rcases foldl_max_mem r (max x z) with e | h
    · rw [e]
      rcases Int.le_total x z with h | h
      · exact .inr (by rw [Int.max_eq_right h]; exact List.mem_cons_self)
      · exact .inl (Int.max_eq_left h)
    · exact .inr (List.mem_cons_of_mem _ h)
theorem foldl_min_le : ∀ (r : List Int) (x : Int), r.foldl min x ≤ x ∧ ∀ y ∈ r, r.foldl min x ≤ y
  | [], x => ⟨Int.le_refl _, fun y h => by cases h⟩
  | z :: r, x => by
    have ih := foldl_min_le r (min x z)
    refine ⟨by show r.foldl min (min x z) ≤ x; have := Int.min_le_left x z; omega, fun y h => ?_⟩
    show r.foldl min (min x z) ≤ y
    rcases List.mem_cons.mp h with e | h
    · subst e; have := Int.min_le_right x y; omega
    · exact ih.2 y h
theorem foldl_min_mem : ∀ (r : List Int) (x : Int), r.foldl min x = x ∨ r.foldl min x ∈ r
  | [], x => .inl rfl
  | z :: r, x => by
    show r.foldl min (min x z) = x ∨ r.foldl min (min x z) ∈ z :: r
    rcases foldl_min_mem r (min x z) with e | h
    · rw [e]
      rcases Int.le_total x z with h | h
      · exact .inl (Int.min_eq_left h)
      · exact .inr (by rw [Int.min_eq_right h]; exact List.mem_cons_self)
    · exact .inr (List.mem_cons_of_mem _ h)
theorem maxI_eq {ns : List Int} {m : Int} (hm : m ∈ ns) (h : ∀ y ∈ ns, y ≤ m) : m = maxI ns := by
  cases ns with
  | nil => cases hm
  | cons x r =>
    have a := foldl_max_le r x
    have b := foldl_max_mem r x
    show m = r.foldl max x
    have h1 : r.foldl max x ≤ m := by
      rcases b with e | e
      · rw [e]; exact h x List.mem_cons_self
      · exact h _ (List.mem_cons_of_mem _ e)
    have h2 : m ≤ r.foldl max x := by
      rcases List.mem_cons.mp hm with e | e
      · subst e; exact a.1
      · exact a.2 m e
    omega
theorem minI_eq {ns : List Int} {m : Int} (hm : m ∈ ns) (h : ∀ y ∈ ns, m ≤ y) : m = minI ns := by
  cases ns with
  | nil => cases hm
  | cons x r =>
    have a := foldl_min_le r x
    have b := foldl_min_mem r x
    show m = r.foldl min x
    have h1 : m ≤ r.foldl min x := by
      rcases b with e | e
      · rw [e]; exact h x List.mem_cons_self
      · exact h _ (List.mem_cons_of_mem _ e)
    have h2 : r.foldl min x ≤ m := by
      rcases List.mem_cons.mp hm with e | e
      · subst e; exact a.1
      · exact a.2 m e
    omega
def dMax : List D → Option D
  | [.lst xs] => (match intsOf xs with
    | some ns => if 0 < ns.length then some (.int (maxI ns)) else none
    | none => none)
  | _ => none
def dMin : List D → Option D
  | [.lst xs] => (match intsOf xs with
    | some ns => if 0 < ns.length then some (.int (minI ns)) else none
    | none => none)
  | _ => none
theorem dd_max {K : PySem.W.Frag} : CallD (rMax K) dMax := by
  intro G H vs ds d Q r h q
  unfold dMax at h
  split at h
  · split at h
    · rename_i xs bs hb
      split at h
      · rename_i hp
        cases h
        rw [intsOf_eq hb] at r
        cases r with
        | cons ra rb => cases rb; cases ra with
          | lst ga ha rl => exact ⟨_, bs, rfl, SqL.of (by rw [ha, rl.ints]), hp, fun m h1 h2 => by rw [maxI_eq h1 h2]; exact same1 q (.int _)⟩
      · cases h
    · cases h
  · cases h
theorem dd_min {K : PySem.W.Frag} : CallD (rMin K) dMin := by
  intro G H vs ds d Q r h q
  unfold dMin at h
  split at h
  · split at h
    · rename_i xs bs hb
      split at h
      · rename_i hp
        cases h
        rw [intsOf_eq hb] at r
        cases r with
        | cons ra rb => cases rb; cases ra with
          | lst ga ha rl => exact ⟨_, bs, rfl, SqL.of (by rw [ha, rl.ints]), hp, fun m h1 h2 => by rw [minI_eq h1 h2]; exact same1 q (.int _)⟩
      · cases h
    · cases h
  · cases h
def dMax2 : List D → Option D
  | [.int i, .int j] => some (.int (max i j))
  | _ => none
def dMin2 : List D → Option D
  | [.int i, .int j] => some (.int (min i j))
  | _ => none
theorem dd_max2 : CallD (fun xs H Q => ∃ i j, xs = [.int i, .int j] ∧ Q (.int (if j > i then j else i)) H) dMax2 := by
  intro G H vs ds d Q r h q
  unfold dMax2 at h
  split at h
  · rename_i i j
    cases h
    cases r with
    | cons ra rb => cases rb with
      | cons rb rc =>
        cases rc; cases ra; cases rb
        refine ⟨i, j, rfl, ?_⟩
        have e : (if j > i then j else i) = max i j := by
          split <;> omega
        rw [e]
        exact same1 q (.int _)
  · cases h
theorem dd_min2 : CallD (fun xs H Q => ∃ i j, xs = [.int i, .int j] ∧ Q (.int (if j < i then j else i)) H) dMin2 := by
  intro G H vs ds d Q r h q
  unfold dMin2 at h
  split at h
  · rename_i i j
    cases h
    cases r with
    | cons ra rb => cases rb with
      | cons rb rc =>
        cases rc; cases ra; cases rb
        refine ⟨i, j, rfl, ?_⟩
        have e : (if j < i then j else i) = min i j := by
          split <;> omega
        rw [e]
        exact same1 q (.int _)
  · cases h
/-- isinstance(x, T), T a built-in type -/
def tyD : D → Option String
  | .non => some "NoneType"
  | .bl _ => some "bool"
  | .int _ => some "int"
  | .str _ => some "str"
  | .tup _ => some "tuple"
  | .lst _ => some "list"
  | .dk _ => some "dict"
  | .ins _ _ => none
  | .frl _ _ => none
def isTy (T : String) (d : D) : Option D := match tyD d with
  | some t => (match kitB t T with
    | some b => some (.bl b)
    | none => none)
  | none => none
theorem tyD_of {K : PySem.W.Frag} {G : Addr → Prop} {H : Hp} {x : V} {d : D} {t : String} (r : Rep G H x d) (h : tyD d = some t) : TyX K H x (.type t) := by
  cases r with
  | non => cases h; exact .base .non
  | bl b => cases h; exact .base (.bl b)
  | int i => cases h; exact .base (.int i)
  | str x => cases h; exact .base (.str x)
  | tup ha ra => cases h; exact .base (.tup ha)
  | lst ga ha ra => cases h; exact .base (.lst ha)
  | dk ga ha ra => cases h; exact .base (.dK ha)
  | ins ga ha ra => cases h
  | frl ga => cases h
theorem e_isi {X : Cx} {e : Expr} {f : FE} {T : Str} {Ts : String} {p p1 pos : Pos} (he : PE X e (tE f)) (hm : X.mg "isinstance" = none) (hmT : X.mg T = none) (hv : bootBuiltins T = some (.type Ts)) (hg : Gl X "isinstance" := by rfl) (hgT : Gl X T := by rfl) (hb : bootBuiltins ("isinstance" : Str) = some (.builtin "isinstance") := by decide +kernel) (hn : T ≠ "__name__" := by decide)
    (hd : (T == ("__debug__" : Str)) = false := by decide) (hs : starEach [e, .Name T p1] X.env = (false, eval e X.env) :: starEach [.Name T p1] X.env := by rfl) (hs1 : starEach [.Name T p1] X.env = (false, eval (.Name T p1) X.env) :: starEach [] X.env := by rfl) (hpl : (backTo pos (starEach [.Name T p1] X.env)).any (·.1) = false := by rfl) :
    PE X (.Call (.Name "isinstance" p) [e, .Name T p1] [] pos) (tE (dUn (isTy Ts) f)) :=
  PE.weak (pe_callB call_isi hg hm hb (pa_cons he (pa_cons (pe_bltn (v := .ty Ts) hgT hmT hv rfl hn hd) pa_nil hs1) hs) (by decide) (by decide) hs hpl) fun σ H Q ⟨A, ow, ρ, d, ρ', E, hf, q⟩ => by
  unfold dUn at hf
  split at hf
  · rename_i x ρ1 h1
    split at hf
    · rename_i d3 h3
      cases hf
      refine ⟨A, ow, ρ, x, ρ', E, h1, fun v H1 E1 K1 r1 => ?_⟩
      unfold isTy at h3
      split at h3
      · rename_i t ht
        split at h3
        · rename_i b hb2
          cases h3
          exact ⟨v, .ty Ts, .type t, .type Ts, b, rfl, .ty Ts, tyD_of r1 ht, kit_ty hb2, q _ H1 E1 K1 (.bl b)⟩
        · cases h3
      · cases h3
    · cases hf
  · cases hf
end Dn

set_option Elab.async false
set_option linter.all false
set_option maxRecDepth 100000
/-! Own lists that are read; membership; defs bundled. -/
namespace Dn
open PySem PySem.Spec PyProof.Rows L2

section
variable {Y : Xw} {X : Cx} {e : Expr} {es : List Expr} {f g : FE} {k : FA} {pos : Pos}
/-- the reading of a name whose slot holds an own list: its address -/
theorem own_var {A : An} {ow : Ow} {H : Hp} {σ : L2.St} {ρ : DE} (E : EnvR A ow H σ ρ) {i : Nat} {ds : List D} (h : oL ρ i = some ds) {Q : VK} (q : ∀ p xs, ow i = some p → H p = some (.lst xs) → RepL (Fz A ow) H xs ds → Q (.ref p) H) : tVar i σ H Q := by
  obtain ⟨p, xs, h1, h2, h3, h4⟩ := E.getL h
  exact ⟨.ref p, h2, q p xs h1 h3 h4⟩
/-- return x -/
def dRetO (i : Nat) : FS := fun ρ => match ρ[i]? with
  | some (.own (.lst ds)) => some (.rt (.lst ds), ρ)
  | _ => none
theorem s_retO (i : Nat) {x : Str} {npos : Pos} (hN : X.N[i]? = some x := by rfl) (hv : Vis X.env.scope x := by first | exact Or.inl rfl | exact Or.inr (Or.inl rfl) | exact Or.inr (Or.inr rfl)) (hd : (x == ("__debug__" : Str)) = false := by decide) (hcd : (x == ("__classdict__" : Str)) = false := by decide) :
    PS X (.Return (some (.Name x npos)) pos) (tS Y (dRetO i)) := PS.weak (ps_ret (pe_var (i := i) hN hv hd hcd)) fun Dd σ H ⟨A, ow, ρ, fl, ρ', E, hg, q⟩ => by
  unfold dRetO at hg
  split at hg
  · rename_i ds he
    cases hg
    obtain ⟨p, h1, h2, ⟨xs, h3, h4⟩, h5⟩ := E.own i _ he
    exact ⟨.ref p, h2, q _ σ H ow E (Kp.refl _ _) (.lst (.inr h5) h3 (h4.mono (fun a o g z => ⟨g.1, z⟩) fun a xs z => z))⟩
  · cases hg
/-- len(x) -/
def dLenO (i : Nat) : FE := fun ρ => match oL ρ i with
  | some ds => some (.int ds.length, ρ)
  | none => none
theorem e_lenO (i : Nat) {x : Str} {p npos : Pos} (hm : X.mg "len" = none) (hN : X.N[i]? = some x := by rfl) (hv : Vis X.env.scope x := by first | exact Or.inl rfl | exact Or.inr (Or.inl rfl) | exact Or.inr (Or.inr rfl)) (hd : (x == ("__debug__" : Str)) = false := by decide) (hcd : (x == ("__classdict__" : Str)) = false := by decide)
    (hg : Gl X "len" := by rfl) (he : starEach [.Name x npos] X.env = (false, eval (.Name x npos) X.env) :: starEach [] X.env := by rfl) (hpl : (backTo pos (starEach [] X.env)).any (·.1) = false := by rfl) :
    PE X (.Call (.Name "len" p) [.Name x npos] [] pos) (tE (dLenO i)) := PE.weak (pe_callB call_len_seq hg hm PySem.boot_len (pa_cons (pe_var (i := i) hN hv hd hcd) pa_nil he) (by decide) (by decide) he hpl) fun σ H Q ⟨A, ow, ρ, d, ρ', E, hf, q⟩ => by
  unfold dLenO at hf
  split at hf
  · rename_i ds h1
    cases hf
    refine own_var E h1 fun p xs g1 g2 g3 => ⟨p, xs, rfl, .inl (SqL.of g2), ?_⟩
    rw [g3.length]
    exact q _ H E (Kp.refl _ _) (.int _)
  · cases hf
/-- tuple(x) -/
def dTupO (i : Nat) : FE := fun ρ => match oL ρ i with
  | some ds => some (.tup ds, ρ)
  | none => none
theorem e_tupO (i : Nat) {x : Str} {p npos : Pos} (hm : X.mg "tuple" = none) (hN : X.N[i]? = some x := by rfl) (hv : Vis X.env.scope x := by first | exact Or.inl rfl | exact Or.inr (Or.inl rfl) | exact Or.inr (Or.inr rfl)) (hd : (x == ("__debug__" : Str)) = false := by decide) (hcd : (x == ("__classdict__" : Str)) = false := by decide)
    (hg : Gl X "tuple" := by rfl) (hb : bootBuiltins ("tuple" : Str) = some (.type "tuple") := by decide +kernel) (he : starEach [.Name x npos] X.env = (false, eval (.Name x npos) X.env) :: starEach [] X.env := by rfl) (hpl : (backTo pos (starEach [] X.env)).any (·.1) = false := by rfl) :
    PE X (.Call (.Name "tuple" p) [.Name x npos] [] pos) (tE (dTupO i)) := PE.weak (pe_callTy call_tuple_of hg hm hb (pa_cons (pe_var (i := i) hN hv hd hcd) pa_nil he) (by decide) (by decide) he hpl) fun σ H Q ⟨A, ow, ρ, d, ρ', E, hf, q⟩ => by
  unfold dTupO at hf
  split at hf
  · rename_i ds h1
    cases hf
    refine own_var E h1 fun p xs g1 g2 g3 => ⟨p, xs, rfl, .inl ⟨SqL.of g2, fun l hl => ?_⟩⟩
    exact q _ _ (E.same (Same.new hl)) (Kp.same (Same.new hl)) (.tup upd_same (E.ungrowL (g3.grow (Same.new hl))))
  · cases hf
/-- x[e] -/
def dIxO (i : Nat) (f : FE) : FE := fun ρ => match oL ρ i with
  | some _ => (match f ρ with
    | some (.int j, ρ1) => (match oL ρ1 i with
      | some ds => (match atI ds j with
        | some d => some (d, ρ1)
        | none => none)
      | none => none)
    | _ => none)
  | none => none
theorem e_ixO (i : Nat) {x : Str} {b : Expr} {npos : Pos} (hb : PE X b (tE f)) (hN : X.N[i]? = some x := by rfl) (hv : Vis X.env.scope x := by first | exact Or.inl rfl | exact Or.inr (Or.inl rfl) | exact Or.inr (Or.inr rfl)) (hd : (x == ("__debug__" : Str)) = false := by decide) (hcd : (x == ("__classdict__" : Str)) = false := by decide) (hs : PlainIx b := by intro _ _; rfl) :
    PE X (.Subscript (.Name x npos) b pos) (tE (dIxO i f)) := PE.weak (pe_ix ix_list (pe_var (i := i) hN hv hd hcd) hb hs) fun σ H Q ⟨A, ow, ρ, d, ρ', E, hf, q⟩ => by
  unfold dIxO at hf
  split at hf
  · rename_i ds0 h0
    split at hf
    · rename_i j ρ1 h1
      split at hf
      · rename_i ds h2
        split at hf
        · rename_i d' h3
          cases hf
          refine own_var E h0 fun p xs g1 g2 g3 => ⟨A, ow, ρ, _, ρ', E, h1, fun v H1 E1 K1 r1 => ?_⟩
          cases r1
          obtain ⟨p', xs', k1, k2, k3, k4⟩ := E1.getL h2
          rw [g1] at k1; cases k1
          obtain ⟨v, h4, h5⟩ := atI_rep k4 h3
          exact ⟨p, xs', j, v, rfl, rfl, SqL.of k3, h4, q v H1 E1 K1 h5⟩
        · cases hf
      · cases hf
    · cases hf
  · cases hf
/-- x.pop() as a value, x an own list -/
def dPop (i : Nat) : FE := fun ρ => match oL ρ i with
  | some ds => (match ds.getLast? with
    | some d => some (d, pL ρ i ds.dropLast)
    | none => none)
  | none => none
theorem e_pop (i : Nat) {x : Str} {apos npos : Pos} (hN : X.N[i]? = some x := by rfl) (hv : Vis X.env.scope x := by first | exact Or.inl rfl | exact Or.inr (Or.inl rfl) | exact Or.inr (Or.inr rfl)) (hd : (x == ("__debug__" : Str)) = false := by decide) (hcd : (x == ("__classdict__" : Str)) = false := by decide)
    (hbase : attributeBase (.Name x npos) "pop" X.env (eval (.Name x npos) X.env) = eval (.Name x npos) X.env := by rfl) (hline : (apos.endLine == pos.line) = true := by rfl) : PE X (.Call (.Attribute (.Name x npos) "pop" apos) [] [] pos) (tE (dPop i)) :=
  PE.weak (pe_bm0 PySem.F.plainAttrs_list PySem.F.slot_list_pop PySem.F.type_list_pop mt_pop (pe_var (i := i) hN hv hd hcd) hbase hline) fun σ H Q ⟨A, ow, ρ, d, ρ', E, hf, q⟩ => by
  unfold dPop at hf
  split at hf
  · rename_i ds h1
    split at hf
    · rename_i d' h2
      cases hf
      refine own_var E h1 fun p xs g1 g2 g3 => ⟨tyL g2, ?_⟩
      have hd' : ds[ds.length - 1]? = some d := by rw [← List.getLast?_eq_getElem?]; exact h2
      obtain ⟨y, hy, ry⟩ := g3.get hd'
      refine ⟨p, xs, y, rfl, rfl, g2, by rw [g3.length]; exact hy, ?_⟩
      obtain ⟨E2, K2⟩ := E.putL (xs := xs.dropLast) h1 g1 g3.dropLast
      exact q _ _ E2 K2 (E.move K2 ry)
    · cases hf
  · cases hf
/-- x in xs -/
def flatD : D → Bool
  | .non => true | .bl _ => true | .int _ => true | .str _ => true
  | _ => false
def dIn (x y : D) : Option D := match y with
  | .lst ds => (match toPy x, toPy (.lst ds) with
    | some p, some (.list ps) => if SeqAt.shaped p = true ∧ SeqAt.shaped (.list ps) = true then some (.bl (ps.any fun z => PyData.eqv z p)) else none
    | _, _ => none)
  | _ => none
def dNotIn (x y : D) : Option D := match y with
  | .lst ds => (match toPy x, toPy (.lst ds) with
    | some p, some (.list ps) => if SeqAt.shaped p = true ∧ SeqAt.shaped (.list ps) = true then some (.bl (!ps.any fun z => PyData.eqv z p)) else none
    | _, _ => none)
  | _ => none
theorem dd_in {K : PySem.W.Frag} : OpD (rInD K) dIn := by
  intro G H x y dx dy d Q rx ry h q
  unfold dIn at h
  split at h
  · split at h
    · rename_i p ps h1 h2
      split at h
      · rename_i hs
        cases h
        exact ⟨p, ps, dp_of rx h1, dp_of ry h2, hs.1, hs.2, same1 q (.bl _)⟩
      · cases h
    · cases h
  · cases h
theorem dd_notIn {K : PySem.W.Frag} : OpD (rNotInD K) dNotIn := by
  intro G H x y dx dy d Q rx ry h q
  unfold dNotIn at h
  split at h
  · split at h
    · rename_i p ps h1 h2
      split at h
      · rename_i hs
        cases h
        exact ⟨p, ps, dp_of rx h1, dp_of ry h2, hs.1, hs.2, same1 q (.bl _)⟩
      · cases h
    · cases h
  · cases h
end

/-- an int of the module -/
theorem e_globI {X : Cx} {x : Str} {i : Int} {pos : Pos} (hm : ∃ t, X.mg x = some (.int i t)) (hg : Gl X x := by rfl) (hd : (x == ("__debug__" : Str)) = false := by decide) : PE X (.Name x pos) (tE (dC (.int i))) := by
  obtain ⟨t, h⟩ := hm
  exact e_glob (v := V.int i) hg h ⟨t, rfl⟩ (fun _ _ => .int i) hd
theorem _root_.L2.Room.units65 {k : Nat} {A : Around} (r : Room k A) : A.units + 65 < cLine := by
  have h := r.un
  omega
/-! ### a def of the text, with what it promises -/
structure Df (P : Program) (w : World) (K : PySem.W.Frag) (mg : Str → Option Value) (base : Heap) (x : Str) (k : Nat) (ps : List Str) (m : List D → Option D) : Prop where
  ex : ∃ f fd, FnOk P w K mg base CX0 k f fd ps (spD m) ∧ mg x = some (.ref f) ∧ PySem.W.keepIn K (.ref f) = true ∧ Binds K fd ps []
/-- where a def stands -/
structure At (K : PySem.W.Frag) (mg : Str → Option Value) (x : Str) (st : Stmt) : Prop where
  ex : ∃ f fd, Fun K x x st f fd ∧ mg x = some (.ref f)
section
variable {P : Program} {w : World} {K : PySem.W.Frag} {mg : Str → Option Value} {base : Heap}
theorem At.df {x : Str} {st : Stmt} {N ps : List Str} {k n m : Nat} {g : FS} (T : At K mg x st) (S : FnScope N ps (defScope st))
    (hbd : ∀ (kV doc pm : Value) (an : Option Addr) (cdv ct : Value) (us : List Value), us.length = ps.length → bindArgs (PySem.W.fnOf x x (defArgs st) (defBody st) (defScope st) .none kV doc pm an cdv ct) ⟨us, []⟩ = pure (ps.zip us))
    (hb : ∀ (f : Addr) (cdv : Value) (A : Around) (outer : List Env) (s : Shared) (H : Hp) (E : XK), Room k (A.deeper (envOfC x (defScope st) s.heap.objs.size f cdv)) → PSs (cxOf CX0 P w K mg base N x (defScope st) f cdv A outer s H E).nox (defBody st) (tS (Y0 mg) g))
    (hn : N.length = n := by rfl) (hm : ps.length = m := by rfl) : Df P w K mg base x (k + 1) ps (run g n m) := by
  obtain ⟨f, fd, F, h⟩ := T.ex
  exact ⟨f, fd, okD F S (hb f) hn hm, h, F.kp, F.binds hbd⟩
end
section
variable {Y : Xw} {X : Cx} {x : Str} {p pos : Pos} {e : Expr} {es : List Expr} {fa : FA} {m : List D → Option D} {k : Nat} {ps : List Str}
theorem e_df (F : Df X.prog X.w X.K X.mg X.base x k ps m) (hr : Room k X.A) (ha : PA X (e :: es) (tA fa)) (hg : Gl X x := by rfl) (hdb : (x == ("__debug__" : Str)) = false := by decide) (he : starEach (e :: es) X.env = (false, eval e X.env) :: starEach es X.env := by rfl) (hpl : (backTo pos (starEach es X.env)).any (·.1) = false := by rfl) :
    PE X (.Call (.Name x p) (e :: es) [] pos) (tE (dCall m fa)) := by
  obtain ⟨f, fd, F, h1, h2, h3⟩ := F.ex
  exact e_call F hr h1 h2 h3 ha hg hdb he hpl
end
/-- the same promise said otherwise -/
theorem Df.eq {P : Program} {w : World} {K : PySem.W.Frag} {mg : Str → Option Value} {base : Heap} {x : Str} {k : Nat} {ps : List Str} {m m' : List D → Option D} (F : Df P w K mg base x k ps m) (h : ∀ ds d, m' ds = some d → m ds = some d) : Df P w K mg base x k ps m' := by
  obtain ⟨f, fd, F, h1⟩ := F.ex
  exact ⟨f, fd, F.imp fun vs H Q E ⟨G, ds, d, r, hm, q⟩ => ⟨G, ds, d, r, h ds d hm, q⟩, h1⟩
theorem Df.up {P : Program} {w : World} {K : PySem.W.Frag} {mg : Str → Option Value} {base : Heap} {x : Str} {k k' : Nat} {ps : List Str} {m : List D → Option D} (F : Df P w K mg base x k ps m) (h : k ≤ k') : Df P w K mg base x k' ps m := by
  obtain ⟨f, fd, F, h1⟩ := F.ex
  exact ⟨f, fd, F.mono h, h1⟩
end Dn

set_option Elab.async false
set_option linter.all false
set_option maxRecDepth 100000
/-! An own list's item is stored; defs that change a list that they are handed. -/
namespace Dn
open PySem PySem.Spec PyProof.Rows L2

section
variable {Y : Xw} {X : Cx} {e b : Expr} {f g : FE} {pos : Pos}
/-- x[b] = e, x an own list: e first, then the index -/
def dSetIx (i : Nat) (f g : FE) : FS := fun ρ => match f ρ with
  | some (d, ρ1) => (match oL ρ1 i with
    | some _ => (match g ρ1 with
      | some (.int k, ρ2) => (match oL ρ2 i with
        | some ds => (match ixN ds.length k with
          | some j => some (.nx, pL ρ2 i (ds.set j d))
          | none => none)
        | none => none)
      | _ => none)
    | none => none)
  | none => none
theorem s_setIx (i : Nat) {x : Str} {npos spos : Pos} (he : PE X e (tE f)) (hb : PE X b (tE g)) (hN : X.N[i]? = some x := by rfl) (hv : Vis X.env.scope x := by first | exact Or.inl rfl | exact Or.inr (Or.inl rfl) | exact Or.inr (Or.inr rfl)) (hd : (x == ("__debug__" : Str)) = false := by decide) (hcd : (x == ("__classdict__" : Str)) = false := by decide)
    (ha : ∀ v, assign (.Subscript (.Name x npos) b spos) X.env v = (do
      let ov ← holding [v] (eval (.Name x npos) X.env)
      let iv ← holding [v, ov] (eval b X.env)
      standAt spos
      holding [v, ov, iv] (setItem ov iv v)
      release [v, ov, iv] []) := by intro _; rfl)
    (hs : swapsWithSole [.Subscript (.Name x npos) b spos] e pos.line X.env = pure false := by rfl) (hw : swappedStores [.Subscript (.Name x npos) b spos] e X.env = pure none := by rfl) (h1 : (assignEach [.Subscript (.Name x npos) b spos] X.env).map (·.2) = [assign (.Subscript (.Name x npos) b spos) X.env] := by rfl) :
    PS X (.Assign [.Subscript (.Name x npos) b spos] e pos) (tS Y (dSetIx i f g)) := PS.weak (ps_asg he (pg_sub (pe_var (i := i) hN hv hd hcd) hb set_list ha) hs hw h1) fun Dd σ H ⟨A, ow, ρ, fl, ρ', E, hg, q⟩ => by
  unfold dSetIx at hg
  split at hg
  · rename_i d ρ1 h1
    split at hg
    · rename_i ds0 h0
      split at hg
      · rename_i k ρ2 h2
        split at hg
        · rename_i ds h3
          split at hg
          · rename_i j h4
            cases hg
            refine ⟨A, ow, ρ, d, ρ1, E, h1, fun v H1 E1 K1 r1 => ?_⟩
            refine own_var E1 h0 fun p xs g1 g2 g3 => ⟨A, ow, ρ1, _, ρ2, E1, h2, fun iv H2 E2 K2 r2 => ?_⟩
            cases r2
            obtain ⟨p', xs', k1, k2, k3, k4⟩ := E2.getL h3
            rw [g1] at k1; cases k1
            obtain ⟨E3, K3⟩ := E2.putL (xs := xs'.set j v) h3 g1 (k4.set j (E1.move K2 r1))
            exact ⟨p, xs', k, j, rfl, rfl, k3, by rw [k4.length]; exact h4, q _ _ _ E3 ((K1.trans K2).trans K3)⟩
          · cases hg
        · cases hg
      · cases hg
    · cases hg
  · cases hg
end

/-! ### defs that change a list that they are handed -/
/-- an argument: data, or the list -/
abbrev Ag := Option D
def ArgR (G : Addr → Prop) (H : Hp) (p : Addr) : List V → List Ag → Prop
  | [], [] => True
  | v :: vs, some d :: ds => Rep G H v d ∧ ArgR G H p vs ds
  | v :: vs, none :: ds => v = .ref p ∧ ArgR G H p vs ds
  | _, _ => False
theorem ArgR.length {G : Addr → Prop} {H : Hp} {p : Addr} : ∀ {vs : List V} {as : List Ag}, ArgR G H p vs as → vs.length = as.length
  | [], [], _ => rfl
  | [], _ :: _, h => h.elim
  | _ :: _, [], h => h.elim
  | v :: vs, some d :: ds, h => congrArg (· + 1) (ArgR.length h.2)
  | v :: vs, none :: ds, h => congrArg (· + 1) (ArgR.length h.2)
theorem ArgR.mono {G G' : Addr → Prop} {H H' : Hp} {p : Addr} (hG : ∀ a o, G a → H a = some o → G' a ∧ H' a = some o) (hT : ∀ a xs, H a = some (.tup xs) → H' a = some (.tup xs)) : ∀ {vs : List V} {as : List Ag}, ArgR G H p vs as → ArgR G' H' p vs as
  | [], [], _ => trivial
  | [], _ :: _, h => h.elim
  | _ :: _, [], h => h.elim
  | v :: vs, some d :: ds, h => ⟨h.1.mono hG hT, ArgR.mono hG hT h.2⟩
  | v :: vs, none :: ds, h => ⟨h.1, ArgR.mono hG hT h.2⟩
abbrev MB := List D → List Ag → Option (List D × D)
/-- the list at p, the arguments; the list behind the call, the answer -/
def spB (m : MB) : Sp := fun vs H Q _ => ∃ (G : Addr → Prop) (p : Addr) (xs : List V) (st : List D) (as : List Ag) (st' : List D) (d : D), ArgR G H p vs as ∧ as.any Option.isNone = true ∧ ¬ G p ∧ H p = some (.lst xs) ∧ RepL G H xs st ∧ m st as = some (st', d) ∧
  ∀ v H' xs', (∀ a o, H a = some o → a ≠ p → H' a = some o) → H' p = some (.lst xs') → RepL (fun a => Gr G H a ∧ a ≠ p) H' xs' st' → Rep (fun a => Gr G H a ∧ a ≠ p) H' v d → Q v H'
def slOf (st : List D) : Ag → Sl
  | some d => .dat d
  | none => .bor (.lst st)
def stB (n : Nat) (st : List D) (as : List Ag) : DE := as.map (slOf st) ++ List.replicate (n - as.length) Sl.un
/-- the list's slot -/
def borAt : List Ag → Nat
  | [] => 0
  | none :: _ => 0
  | some _ :: r => borAt r + 1
def oneBor : List Ag → Bool
  | [] => false
  | none :: r => r.all Option.isSome
  | some _ :: r => oneBor r
theorem borAt_get : ∀ {as : List Ag}, oneBor as = true → as[borAt as]? = some none ∧ ∀ j, as[j]? = some none → j = borAt as
  | [], h => by cases h
  | none :: r, h => ⟨rfl, fun j hj => by
    cases j with
    | zero => rfl
    | succ j =>
      have h : r.all Option.isSome = true := h
      have hj : r[j]? = some none := by simpa using hj
      have := List.all_eq_true.mp h none (List.mem_of_getElem? hj)
      cases this⟩
  | some d :: r, h => by
    have ih := borAt_get (as := r) h
    refine ⟨by simpa [borAt] using ih.1, fun j hj => ?_⟩
    cases j with
    | zero => cases hj
    | succ j => exact congrArg (· + 1) (ih.2 j (by simpa using hj))
def bL (ρ : DE) (i : Nat) : Option (List D) := match ρ[i]? with
  | some (.bor (.lst ds)) => some ds
  | _ => none
def runB (g : FS) (n m : Nat) : MB := fun st as => if as.length = m ∧ oneBor as = true then (match g (stB n st as) with
  | some (.rt d, ρ) => (match bL ρ (borAt as) with
    | some st' => some (st', d)
    | none => none)
  | some (.nx, ρ) => (match bL ρ (borAt as) with
    | some st' => some (st', .non)
    | none => none)
  | _ => none) else none
theorem ArgR.get {G : Addr → Prop} {H : Hp} {p : Addr} : ∀ {vs : List V} {as : List Ag} {i : Nat} {a : Ag}, ArgR G H p vs as → as[i]? = some a → ∃ v, vs[i]? = some v ∧ (match a with | some d => Rep G H v d | none => v = .ref p)
  | [], [], _, _, _, e => by simp at e
  | [], _ :: _, _, _, h, _ => h.elim
  | _ :: _, [], _, _, h, _ => h.elim
  | v :: vs, some d :: ds, 0, a, h, e => by simp at e; subst e; exact ⟨v, rfl, h.1⟩
  | v :: vs, none :: ds, 0, a, h, e => by simp at e; subst e; exact ⟨v, rfl, h.1⟩
  | v :: vs, some d :: ds, i + 1, a, h, e => by
    obtain ⟨w, h1, h2⟩ := ArgR.get (i := i) h.2 (by simpa using e)
    exact ⟨w, by simpa using h1, h2⟩
  | v :: vs, none :: ds, i + 1, a, h, e => by
    obtain ⟨w, h1, h2⟩ := ArgR.get (i := i) h.2 (by simpa using e)
    exact ⟨w, by simpa using h1, h2⟩
theorem envB {G : Addr → Prop} {H : Hp} {p : Addr} {vs : List V} {xs : List V} {st : List D} {as : List Ag} {N : List Str} (r : ArgR G H p vs as) (ho : oneBor as = true) (np : ¬ G p) (hp : H p = some (.lst xs)) (rx : RepL G H xs st) :
    EnvR ⟨G, H, fun a => a = p⟩ (fun i => if i = borAt as then some p else none) H (L2.start N vs) (stB N.length st as) := by
  have hl := r.length
  obtain ⟨hb1, hb2⟩ := borAt_get ho
  have hbl : borAt as < as.length := (List.getElem?_eq_some_iff.mp hb1).1
  have now : ∀ a, a ≠ p → NOw (fun i => if i = borAt as then some p else none) a := fun a ha i e => by
    try dsimp only at e
    split at e
    · cases e; exact ha rfl
    · cases e
  have fz : ∀ a, G a → Fz ⟨G, H, fun a => a = p⟩ (fun i => if i = borAt as then some p else none) a := fun a g => ⟨.inl g, now a fun e => np (e ▸ g)⟩
  have lt : ∀ {i : Nat} {s : Sl}, (stB N.length st as)[i]? = some s → s ≠ .un → ∃ a, as[i]? = some a ∧ s = slOf st a := fun {i s} h hs => by
    unfold stB at h
    by_cases hi : i < as.length
    · rw [List.getElem?_append_left (by simpa using hi), List.getElem?_map, List.getElem?_eq_getElem hi] at h
      exact ⟨_, List.getElem?_eq_getElem hi, (Option.some.inj h).symm⟩
    · rw [List.getElem?_append_right (by simpa using hi), List.getElem?_replicate] at h
      split at h
      · exact absurd (Option.some.inj h).symm hs
      · cases h
  have sg : ∀ {i : Nat} {v : V}, vs[i]? = some v → (L2.start N vs)[i]? = some (some v) := fun {i v} h => by
    unfold L2.start
    have hi : i < vs.length := (List.getElem?_eq_some_iff.mp h).1
    rw [List.getElem?_append_left (by simpa using hi), List.getElem?_map, h]
    rfl
  refine ⟨by simp [L2.start, stB, hl], fun a o h _ => h, fun i d h => ?_, fun i o h => ?_, fun i o h => ?_, fun i j q h1 h2 => ?_, fun i q h => ?_, fun i q h => ?_, fun i q h => ?_⟩
  · obtain ⟨a, h1, h2⟩ := lt h (fun e => nomatch e)
    cases a with
    | none => cases h2
    | some d' =>
      cases h2
      obtain ⟨v, h3, h4⟩ := r.get h1
      exact ⟨v, sg h3, h4.mono (fun a o g q => ⟨fz a g, q⟩) fun a xs q => q⟩
  · obtain ⟨a, h1, h2⟩ := lt h (fun e => nomatch e)
    cases a <;> cases h2
  · obtain ⟨a, h1, h2⟩ := lt h (fun e => nomatch e)
    cases a with
    | some d' => cases h2
    | none =>
      cases h2
      obtain ⟨v, h3, h4⟩ := r.get h1
      subst h4
      refine ⟨p, if_pos (hb2 i h1), sg h3, ⟨xs, hp, rx.mono (fun a o g q => ⟨fz a g, q⟩) fun a xs q => q⟩, rfl⟩
  · try dsimp only at h1 h2
    split at h1
    · split at h2
      · rename_i e1 e2; rw [e1, e2]
      · cases h2
    · cases h1
  · try dsimp only at h
    split at h
    · cases h; exact .inr rfl
    · cases h
  · try dsimp only at h
    split at h
    · cases h; exact ⟨_, hp, rfl⟩
    · cases h
  · try dsimp only at h
    split at h
    · rename_i e
      subst e
      refine ⟨.lst st, .inr ?_⟩
      unfold stB
      rw [List.getElem?_append_left (by simpa using hbl), List.getElem?_map, hb1]
      rfl
    · cases h
section
variable {P : Program} {w : World} {K : PySem.W.Frag} {mg : Str → Option Value} {base : Heap}
theorem runB_len {g : FS} {n m : Nat} {st : List D} {as : List Ag} {r : List D × D} (h : runB g n m st as = some r) : as.length = m ∧ oneBor as = true := by
  unfold runB at h
  split at h
  · assumption
  · cases h
/-- how such a body ends -/
theorem endB {G : Addr → Prop} {H : Hp} {p : Addr} {st' : List D} {j : Nat} {σ' : L2.St} {H' : Hp} {ow' : Ow} {ρ' : DE} (E : EnvR ⟨G, H, fun a => a = p⟩ ow' H' σ' ρ') (hs : bL ρ' j = some st') :
    (∀ a o, H a = some o → a ≠ p → H' a = some o) ∧ (∃ xs', H' p = some (.lst xs') ∧ RepL (fun a => Gr G H a ∧ a ≠ p) H' xs' st') := by
  unfold bL at hs
  split at hs
  · rename_i ds e
    cases hs
    obtain ⟨q, h1, h2, ⟨xs', h3, h5⟩, h4⟩ := E.bor j _ e
    have e : q = p := h4
    subst e
    refine ⟨fun a o h ne => E.kp a o h fun i e => ?_, xs', h3, h5.mono (fun a o g z => ⟨⟨g.1, fun e => g.2 j (by rw [e]; exact h1)⟩, z⟩) fun a xs z => z⟩
    rcases E.fr i a e with z | z
    · have z : H a = none := z
      rw [h] at z; cases z
    · exact ne z
  · cases hs
theorem rt_ne {G : Addr → Prop} {H : Hp} {p : Addr} {xs : List V} (np : ¬ G p) (hp : H p = some (.lst xs)) {H' : Hp} {v : V} {d : D} (r : Rep (Rt ⟨G, H, fun a => a = p⟩) H' v d) : Rep (fun a => Gr G H a ∧ a ≠ p) H' v d :=
  r.mono (fun a o g z => ⟨⟨g, fun e => by
    subst e
    rcases g with g | g
    · exact np g
    · have g : H a = none := g
      rw [hp] at g; cases g⟩, z⟩) fun a xs z => z
/-- a def that changes nothing but the list that it is handed, by its body -/
theorem okB {x qual : Str} {st : Stmt} {f : Addr} {fd : FuncData} {N ps : List Str} {k n m : Nat} {g : FS} (F : Fun K x qual st f fd) (S : FnScope N ps (defScope st))
    (hb : ∀ (cdv : Value) (A : Around) (outer : List Env) (s : Shared) (H : Hp) (E : XK), Room k (A.deeper (envOfC qual (defScope st) s.heap.objs.size f cdv)) → PSs (cxOf CX0 P w K mg base N qual (defScope st) f cdv A outer s H E).nox (defBody st) (tS (Y0 mg) g))
    (hn : N.length = n := by rfl) (hm : ps.length = m := by rfl) : FnOk P w K mg base CX0 (k + 1) f fd ps (spB (runB g n m)) := by
  subst hn hm
  refine F.ok S (fun vs H Q E h => ?_) fun cdv A outer s H vs Q E hr h => ⟨tS (Y0 mg) g, hb cdv A outer s H E hr, ?_⟩
  · obtain ⟨G, p, xs, st, as, st', d, ra, hm, np, hp, rx, hrun, q⟩ := h
    rw [ra.length]
    exact (runB_len hrun).1
  · obtain ⟨G, p, xs, st, as, st', d, ra, hm, np, hp, rx, hrun, q⟩ := h
    have ho := (runB_len hrun).2
    unfold runB at hrun
    rw [if_pos (runB_len hrun)] at hrun
    split at hrun
    · rename_i d' ρ' hg
      split at hrun
      · rename_i st2 hs
        cases hrun
        refine ⟨⟨G, H, fun a => a = p⟩, _, _, _, ρ', envB ra ho np hp rx, hg, fun v σ' H' ow' E' K' r' => ?_⟩
        obtain ⟨h1, xs', h2, h3⟩ := endB E' hs
        exact q v H' xs' h1 h2 h3 (rt_ne np hp r')
      · cases hrun
    · rename_i ρ' hg
      split at hrun
      · rename_i st2 hs
        cases hrun
        refine ⟨⟨G, H, fun a => a = p⟩, _, _, _, ρ', envB ra ho np hp rx, hg, fun σ' H' ow' E' K' => ?_⟩
        obtain ⟨h1, xs', h2, h3⟩ := endB E' hs
        exact q .non H' xs' h1 h2 h3 .non
      · cases hrun
    · cases hrun
end
/-! ### its call -/
abbrev FX := DE → Option (List Ag × DE)
/-- arguments of which some are the own list in slot i -/
def tX (i : Nat) (f : FX) : TA := fun σ H Q => ∃ A ow ρ as ρ' p, EnvR A ow H σ ρ ∧ ow i = some p ∧ f ρ = some (as, ρ') ∧ ∀ v H', EnvR A ow H' σ ρ' → Kp ow H ow H' → ArgR (Fz A ow) H' p v as → Q v H'
def xNil : FX := fun ρ => some ([], ρ)
def xDat (f : FE) (k : FX) : FX := fun ρ => match f ρ with
  | some (d, ρ1) => (match k ρ1 with
    | some (as, ρ2) => some (some d :: as, ρ2)
    | none => none)
  | none => none
def xOwn (i : Nat) (k : FX) : FX := fun ρ => match oL ρ i with
  | some _ => (match k ρ with
    | some (as, ρ2) => some (none :: as, ρ2)
    | none => none)
  | none => none
/-- an own object is written, the heap grows -/
theorem EnvR.put2 {A : An} {ow : Ow} {H H' : Hp} {σ : L2.St} {ρ : DE} (E : EnvR A ow H σ ρ) {i : Nat} {p : Addr} {o : Ob} {u : HO} (hp : ow i = some p) (hk : ∀ a o, H a = some o → a ≠ p → H' a = some o) (hu : H' p = some u) (ht : isTup u = false)
    (ho : OwnAt (Fz A ow) H' p o) {s : Sl} (hs : (∃ o', ρ[i]? = some (.own o') ∧ s = .own o) ∨ (∃ o', ρ[i]? = some (.bor o') ∧ s = .bor o)) : EnvR A ow H' σ (ρ.set i s) ∧ Kp ow H ow H' := by
  have k : Kp ow H ow H' := ⟨fun a o h n => ⟨hk a o h (fun z => n i (by rw [z]; exact hp)), n⟩⟩
  have mv : ∀ {j : Nat} {q : Addr} {o : Ob}, j ≠ i → ow j = some q → OwnAt (Fz A ow) H q o → OwnAt (Fz A ow) H' q o := fun {j q o} ne hq h => by
    have nqp : q ≠ p := fun z => ne (E.inj j i q hq (by rw [z]; exact hp))
    cases o with
    | lst ds => obtain ⟨xs, h1, h2⟩ := h; exact ⟨xs, hk _ _ h1 nqp, E.moveL k h2⟩
    | dk ds => obtain ⟨xs, h1, h2⟩ := h; exact ⟨xs, hk _ _ h1 nqp, E.moveK k h2⟩
  have hil : i < ρ.length := by
    rcases hs with ⟨o', h, _⟩ | ⟨o', h, _⟩ <;> exact (List.getElem?_eq_some_iff.mp h).1
  refine ⟨⟨by simp [E.len], fun a o h n => (k.keep a o (E.kp a o h n) n).1, fun j d h => ?_, fun j o' h => ?_, fun j o' h => ?_, E.inj, E.fr, fun j q h => ?_, fun j q h => ?_⟩, k⟩
  · rcases get_set h with ⟨rfl, e, hl⟩ | ⟨ne, h⟩
    · rcases hs with ⟨o', _, e'⟩ | ⟨o', _, e'⟩ <;> rw [e'] at e <;> cases e
    · obtain ⟨w, h1, h2⟩ := E.dat j d h
      exact ⟨w, h1, E.move k h2⟩
  · rcases get_set h with ⟨rfl, e, hl⟩ | ⟨ne, h⟩
    · rcases hs with ⟨o2, h2, e'⟩ | ⟨o2, _, e'⟩
      · rw [e'] at e; cases e
        obtain ⟨q, g1, g2, g3, g4⟩ := E.own j o2 h2
        rw [hp] at g1; cases g1
        exact ⟨p, hp, g2, ho, g4⟩
      · rw [e'] at e; cases e
    · obtain ⟨q, h1, h2, h3, h4⟩ := E.own j o' h
      exact ⟨q, h1, h2, mv ne h1 h3, h4⟩
  · rcases get_set h with ⟨rfl, e, hl⟩ | ⟨ne, h⟩
    · rcases hs with ⟨o2, _, e'⟩ | ⟨o2, h2, e'⟩
      · rw [e'] at e; cases e
      · rw [e'] at e; cases e
        obtain ⟨q, g1, g2, g3, g4⟩ := E.bor j o2 h2
        rw [hp] at g1; cases g1
        exact ⟨p, hp, g2, ho, g4⟩
    · obtain ⟨q, h1, h2, h3, h4⟩ := E.bor j o' h
      exact ⟨q, h1, h2, mv ne h1 h3, h4⟩
  · by_cases e : q = p
    · subst e; exact ⟨u, hu, ht⟩
    · obtain ⟨o', h1, h2⟩ := E.there j q h
      exact ⟨o', hk _ _ h1 e, h2⟩
  · by_cases e : j = i
    · subst e
      rcases hs with ⟨o2, _, e'⟩ | ⟨o2, _, e'⟩
      · exact ⟨o, .inl (by rw [e']; exact List.getElem?_set_self hil)⟩
      · exact ⟨o, .inr (by rw [e']; exact List.getElem?_set_self hil)⟩
    · obtain ⟨o', h1⟩ := E.only j q h
      exact ⟨o', by rw [List.getElem?_set_ne (Ne.symm e)]; exact h1⟩
theorem EnvR.putL2 {A : An} {ow : Ow} {H H' : Hp} {σ : L2.St} {ρ : DE} (E : EnvR A ow H σ ρ) {i : Nat} {ds ds' : List D} {p : Addr} {xs : List V} (h : oL ρ i = some ds) (hp : ow i = some p) (hk : ∀ a o, H a = some o → a ≠ p → H' a = some o) (hu : H' p = some (.lst xs)) (r : RepL (Fz A ow) H' xs ds') :
    EnvR A ow H' σ (pL ρ i ds') ∧ Kp ow H ow H' := by
  unfold oL at h
  split at h
  · rename_i e
    have := E.put2 (o := .lst ds') hp hk hu rfl ⟨xs, hu, r⟩ (s := .own (.lst ds')) (.inl ⟨_, e, rfl⟩)
    unfold pL
    rw [e]
    exact this
  · rename_i e
    have := E.put2 (o := .lst ds') hp hk hu rfl ⟨xs, hu, r⟩ (s := .bor (.lst ds')) (.inr ⟨_, e, rfl⟩)
    unfold pL
    rw [e]
    exact this
  · cases h
theorem EnvR.moveA {A : An} {ow ow' : Ow} {H H' : Hp} {σ : L2.St} {ρ : DE} (E : EnvR A ow H σ ρ) (k : Kp ow H ow' H') {p : Addr} {v : List V} {as : List Ag} (h : ArgR (Fz A ow) H p v as) : ArgR (Fz A ow') H' p v as :=
  h.mono (fun a o g q => ⟨⟨g.1, (k.keep a o q g.2).2⟩, (k.keep a o q g.2).1⟩) fun a xs q => (k.keep a _ q (E.nowTup q)).1
section
variable {Y : Xw} {X : Cx} {e : Expr} {es : List Expr} {f : FE} {k : FX} {i : Nat}
theorem x_nil : PA X [] (tX i xNil) := PA.weak pa_nil fun σ H Q ⟨A, ow, ρ, as, ρ', p, E, hp, hf, q⟩ => by
  cases hf
  exact q [] H E (Kp.refl _ _) trivial
theorem x_dat (ha : PE X e (tE f)) (hr : PA X es (tX i k)) (hs : starEach (e :: es) X.env = (false, eval e X.env) :: starEach es X.env := by rfl) : PA X (e :: es) (tX i (xDat f k)) := PA.weak (pa_cons ha hr hs) fun σ H Q ⟨A, ow, ρ, as, ρ', p, E, hp, hf, q⟩ => by
  unfold xDat at hf
  split at hf
  · rename_i d ρ1 h1
    split at hf
    · rename_i as' ρ2 h2
      cases hf
      exact ⟨A, ow, ρ, d, ρ1, E, h1, fun v H1 E1 K1 r1 => ⟨A, ow, ρ1, as', ρ', p, E1, hp, h2, fun vs H2 E2 K2 r2 => q _ H2 E2 (K1.trans K2) ⟨E1.move K2 r1, r2⟩⟩⟩
    · cases hf
  · cases hf
theorem x_own {x : Str} {npos : Pos} (hr : PA X es (tX i k)) (hN : X.N[i]? = some x := by rfl) (hv : Vis X.env.scope x := by first | exact Or.inl rfl | exact Or.inr (Or.inl rfl) | exact Or.inr (Or.inr rfl)) (hd : (x == ("__debug__" : Str)) = false := by decide) (hcd : (x == ("__classdict__" : Str)) = false := by decide)
    (hs : starEach (.Name x npos :: es) X.env = (false, eval (.Name x npos) X.env) :: starEach es X.env := by rfl) : PA X (.Name x npos :: es) (tX i (xOwn i k)) := PA.weak (pa_cons (pe_var (i := i) hN hv hd hcd) hr hs) fun σ H Q ⟨A, ow, ρ, as, ρ', p, E, hp, hf, q⟩ => by
  unfold xOwn at hf
  split at hf
  · rename_i ds h0
    split at hf
    · rename_i as' ρ2 h2
      cases hf
      refine own_var E h0 fun p' xs g1 g2 g3 => ?_
      rw [hp] at g1; cases g1
      exact ⟨A, ow, ρ, as', ρ', p, E, hp, h2, fun vs H2 E2 K2 r2 => q _ H2 E2 K2 ⟨rfl, r2⟩⟩
    · cases hf
  · cases hf
/-- f(.., x, ..), x the own list in slot i -/
def dCallO (i : Nat) (m : MB) (k : FX) : FE := fun ρ => match oL ρ i with
  | some _ => (match k ρ with
    | some (as, ρ1) => (match oL ρ1 i with
      | some st => if as.any Option.isNone = true then (match m st as with
        | some (st', d) => some (d, pL ρ1 i st')
        | none => none) else none
      | none => none)
    | none => none)
  | none => none
variable {x : Str} {p pos : Pos} {m : MB} {kk : Nat} {fa : Addr} {fd : FuncData} {ps : List Str}
theorem e_callO (F : FnOk X.prog X.w X.K X.mg X.base CX0 kk fa fd ps (spB m)) (hr : Room kk X.A) (hm : X.mg x = some (.ref fa)) (hk : PySem.W.keepIn X.K (.ref fa) = true) (hb : Binds X.K fd ps [])
    (ha : PA X (e :: es) (tX i k)) (hg : Gl X x := by rfl) (hdb : (x == ("__debug__" : Str)) = false := by decide) (he : starEach (e :: es) X.env = (false, eval e X.env) :: starEach es X.env := by rfl) (hpl : (backTo pos (starEach es X.env)).any (·.1) = false := by rfl) :
    PE X (.Call (.Name x p) (e :: es) [] pos) (tE (dCallO i m k)) := PE.weak (pe_call (E := E0) F hr hg hm hk hb .nil pass0 ha hdb he hpl) fun σ H Q => by
  rintro ⟨A, ow, ρ, d, ρ', E, hf, q⟩
  unfold dCallO at hf
  split at hf
  · rename_i ds0 h0
    split at hf
    · rename_i as ρ1 h1
      split at hf
      · rename_i st h2
        split at hf
        · rename_i hin
          split at hf
          · rename_i st' d' h3
            cases hf
            obtain ⟨p, _, hp, _⟩ := E.getL h0
            refine ⟨A, ow, ρ, as, ρ1, p, E, hp, h1, fun vs H1 E1 K1 r1 => ?_⟩
            show spB m (vs ++ []) H1 Q E0
            rw [List.append_nil]
            obtain ⟨p', xs, g1, g2, g3, g4⟩ := E1.getL h2
            rw [hp] at g1; cases g1
            have np : ¬ Fz A ow p := fun g => g.2 i hp
            refine ⟨Fz A ow, p, xs, st, as, st', d, r1, hin, np, g3, g4, h3, fun v H' xs' hk' hp' rx' rv' => ?_⟩
            have rx2 : RepL (Fz A ow) H' xs' st' := rx'.mono (fun a o g z => ⟨E1.gr g.1, z⟩) fun a xs z => z
            obtain ⟨E2, K2⟩ := E1.putL2 h2 hp hk' hp' rx2
            exact q v H' E2 (K1.trans K2) (rv'.mono (fun a o g z => ⟨E1.gr g.1, z⟩) fun a xs z => z)
          · cases hf
        · cases hf
      · cases hf
    · cases hf
  · cases hf
end
/-! ### such a def bundled -/
structure Db (P : Program) (w : World) (K : PySem.W.Frag) (mg : Str → Option Value) (base : Heap) (x : Str) (k : Nat) (ps : List Str) (m : MB) : Prop where
  ex : ∃ f fd, FnOk P w K mg base CX0 k f fd ps (spB m) ∧ mg x = some (.ref f) ∧ PySem.W.keepIn K (.ref f) = true ∧ Binds K fd ps []
theorem At.db {P : Program} {w : World} {K : PySem.W.Frag} {mg : Str → Option Value} {base : Heap} {x : Str} {st : Stmt} {N ps : List Str} {k n m : Nat} {g : FS} (T : At K mg x st) (S : FnScope N ps (defScope st))
    (hbd : ∀ (kV doc pm : Value) (an : Option Addr) (cdv ct : Value) (us : List Value), us.length = ps.length → bindArgs (PySem.W.fnOf x x (defArgs st) (defBody st) (defScope st) .none kV doc pm an cdv ct) ⟨us, []⟩ = pure (ps.zip us))
    (hb : ∀ (f : Addr) (cdv : Value) (A : Around) (outer : List Env) (s : Shared) (H : Hp) (E : XK), Room k (A.deeper (envOfC x (defScope st) s.heap.objs.size f cdv)) → PSs (cxOf CX0 P w K mg base N x (defScope st) f cdv A outer s H E).nox (defBody st) (tS (Y0 mg) g))
    (hn : N.length = n := by rfl) (hm : ps.length = m := by rfl) : Db P w K mg base x (k + 1) ps (runB g n m) := by
  obtain ⟨f, fd, F, h⟩ := T.ex
  exact ⟨f, fd, okB F S (hb f) hn hm, h, F.kp, F.binds hbd⟩
theorem e_db {X : Cx} {x : Str} {p pos : Pos} {e : Expr} {es : List Expr} {k : FX} {m : MB} {kk : Nat} {ps : List Str} (i : Nat) (F : Db X.prog X.w X.K X.mg X.base x kk ps m) (hr : Room kk X.A) (ha : PA X (e :: es) (tX i k)) (hg : Gl X x := by rfl) (hdb : (x == ("__debug__" : Str)) = false := by decide) (he : starEach (e :: es) X.env = (false, eval e X.env) :: starEach es X.env := by rfl) (hpl : (backTo pos (starEach es X.env)).any (·.1) = false := by rfl) :
    PE X (.Call (.Name x p) (e :: es) [] pos) (tE (dCallO i m k)) := by
  obtain ⟨f, fd, F, h1, h2, h3⟩ := F.ex
  exact e_callO F hr h1 h2 h3 ha hg hdb he hpl
end Dn

set_option Elab.async false
set_option linter.all false
set_option maxRecDepth 100000
/-! x[::1], x[::-1] of lists and tuples. -/
namespace Dn
open PySem PySem.Spec PyProof.Rows L2 HT

section
variable {prog : Program} {w : World} {A : Around} {E : Value → Shared → Prop} {s : Shared}
theorem adj_back (n : Nat) : Builtin.Slice.sliceAdjust none none (-1) (n : Int) = ((n : Int) - 1, -1) := rfl
theorem places_back (n : Nat) : Builtin.Slice.slicePlaces ((n : Int) - 1) (-1) (-1) = n := by
  unfold Builtin.Slice.slicePlaces
  rw [if_neg (by omega : ¬ ((-1 : Int) > 0))]
  split
  · have e : ((n : Int) - 1 - -1 - 1) / (- -1) = (n : Int) - 1 := by
      rw [show (- -1 : Int) = 1 from rfl, Int.ediv_one]; omega
    rw [e]; omega
  · omega
theorem applied_back {sl : Addr} {vk : Value} {n : Nat} {Q : Int × Int × Nat → Shared → Prop} (hs : s.heap.IsSliceOf sl .none .none vk) (pk : IsPart vk (some (-1))) (h : Q ((n : Int) - 1, -1, n) s) :
    wpAny (model prog w) A (Builtin.Slice.sliceApplied (.ref sl) (pure (n : Int))) Q E s := by
  obtain ⟨os, hos, hcs, hds⟩ := id hs
  unfold Builtin.Slice.sliceApplied Builtin.Slice.sliceFields
  refine wpAny_bind (wpAny_bind (wpAny_field hos hds (x := .none) rfl (wpAny_bind (wpAny_field hos hds (x := .none) rfl (wpAny_bind (wpAny_field hos hds (x := vk) rfl (wpAny_pure ?_)))))))
  refine wpAny_bind (slicePart_ pk ?_)
  show wpAny _ _ (if ((-1 : Int) == 0) = true then _ else _) _ _ s
  rw [if_neg (by decide)]
  refine wpAny_bind (slicePart_ .none (wpAny_bind (slicePart_ .none (wpAny_bind (wpAny_pure ?_)))))
  show wpAny _ _ (match Builtin.Slice.sliceAdjust none none (-1) (n : Int) with | (lo, hi) => pure (lo, (-1 : Int), Builtin.Slice.slicePlaces lo hi (-1))) _ _ s
  rw [adj_back]
  show wpAny _ _ (pure ((n : Int) - 1, (-1 : Int), Builtin.Slice.slicePlaces ((n : Int) - 1) (-1) (-1))) _ _ s
  rw [places_back]
  exact wpAny_pure h
theorem pick_back (xs : Array Value) : ((List.range xs.size).filterMap fun (m : Nat) => xs[((xs.size : Int) - 1 + (m : Int) * -1).toNat]?) = xs.toList.reverse := by
  have e : ((List.range xs.size).filterMap fun (m : Nat) => xs[((xs.size : Int) - 1 + (m : Int) * -1).toNat]?) = ((List.range xs.size).map fun k => xs.size - 1 - k).filterMap (xs[·]?) := by
    rw [List.filterMap_map]
    have aux : ∀ l : List Nat, (∀ m ∈ l, m < xs.size) → l.filterMap (fun (m : Nat) => xs[((xs.size : Int) - 1 + (m : Int) * -1).toNat]?) = l.filterMap ((fun x => xs[x]?) ∘ fun k => xs.size - 1 - k) := by
      intro l
      induction l with
      | nil => intro _; rfl
      | cons m r ih =>
        intro h
        have hm := h m List.mem_cons_self
        have e2 : ((xs.size : Int) - 1 + (m : Int) * -1).toNat = xs.size - 1 - m := by omega
        rw [List.filterMap_cons, List.filterMap_cons, ih fun k hk => h k (List.mem_cons_of_mem _ hk), e2]
        rfl
    exact aux _ fun m hm => List.mem_range.mp hm
  rw [e, PySem.W.krv_range, List.filterMap_reverse, PySem.W.krv_all]
theorem applied_fwd {sl : Addr} {vk : Value} {n : Nat} {Q : Int × Int × Nat → Shared → Prop} (hs : s.heap.IsSliceOf sl .none .none vk) (pk : IsPart vk (some 1)) (h : Q (0, 1, n) s) :
    wpAny (model prog w) A (Builtin.Slice.sliceApplied (.ref sl) (pure (n : Int))) Q E s := by
  obtain ⟨os, hos, hcs, hds⟩ := id hs
  unfold Builtin.Slice.sliceApplied Builtin.Slice.sliceFields
  refine wpAny_bind (wpAny_bind (wpAny_field hos hds (x := .none) rfl (wpAny_bind (wpAny_field hos hds (x := .none) rfl (wpAny_bind (wpAny_field hos hds (x := vk) rfl (wpAny_pure ?_)))))))
  refine wpAny_bind (slicePart_ pk ?_)
  show wpAny _ _ (if ((1 : Int) == 0) = true then _ else _) _ _ s
  rw [if_neg (by decide)]
  refine wpAny_bind (slicePart_ .none (wpAny_bind (slicePart_ .none (wpAny_bind (wpAny_pure ?_)))))
  have e : Builtin.Slice.slicePlaces 0 (n : Int) 1 = n := places_gen 0 n
  show wpAny _ _ (pure ((0 : Int), (1 : Int), Builtin.Slice.slicePlaces 0 (n : Int) 1)) _ _ s
  rw [e]
  exact wpAny_pure h
theorem tuple_fwd {t sl : Addr} {items : Array Value} {vk : Value} {Q : Value → Shared → Prop} (ht : IsTup s.heap t items) (hs : s.heap.IsSliceOf sl .none .none vk) (pk : IsPart vk (some 1)) (h : Q (.ref t) s) : wpAny (model prog w) A (getItem (.ref t) (.ref sl)) Q E s := by
  obtain ⟨os, hos, hcs, hds⟩ := id hs
  have hTs : s.TypeIs (.ref sl) "slice" := ⟨os, hos, hcs⟩
  unfold getItem
  try with_reducible refine wpAny_holding ?_
  first | refine wpAny_bind (wpAny_pure ?_) | skip
  refine wpAny_bind (wpAny_sequenceKey ht.typeIs (by decide) ?_)
  refine wpAny_bind (wpAny_callSpecial?_slot (name := Str.ofString "__getitem__") ht.typeIs PyProof.Rows.slot_tuple_getitem (wpAny_call_entry PyProof.Rows.slot_tuple_getitem ht.typeIs entry_tuple_getitem ?_ (args_tuple_getitem _ _)))
  show wpAny _ _ (Builtin.Tuple.tupleItemsOf (.ref t) >>= _) _ _ s
  refine wpAny_bind (tupleItemsOf_ ht ?_)
  refine wpAny_bind (wpAny_typeOf hTs ?_)
  rw [if_pos (by decide)]
  refine wpAny_bind (applied_fwd hs pk ?_)
  have hyes : ((0 : Int) == 0 && (1 : Int) == 1 && items.size == items.size) = true := by simp
  show wpAny _ _ (if ((0 : Int) == 0 && (1 : Int) == 1 && items.size == items.size) = true then _ else _) _ _ s
  rw [if_pos hyes]
  refine wpAny_bind ?_
  show wpAny _ _ (typeOf (.ref t) >>= fun T => pure (T == .type "tuple")) _ _ s
  refine wpAny_bind (wpAny_typeOf ht.typeIs (wpAny_pure ?_))
  first
    | rw [if_pos (by decide)]
    | simp only [beq_self_eq_true, if_true]
  first
    | exact wpAny_bind (wpAny_rule (wpAny_pure ⟨_, rfl, wpAny_pure h⟩))
    | exact wpAny_bind (wpAny_rule (wpAny_bind (wpAny_pure (wpAny_pure ⟨_, rfl, wpAny_pure h⟩))))
theorem pick_fwd (xs : Array Value) : slicePick xs none none (some 1) = xs := by
  unfold slicePick
  have e : sliceBounds none none (some 1) xs.size = (0, (xs.size : Int), 1) := by first | rfl | simp [sliceBounds]
  rw [e]
  show ((sliceRange 0 (xs.size : Int) 1).filterMap (xs[·]?)).toArray = xs
  have e2 : sliceRange 0 (xs.size : Int) 1 = List.range xs.size := by
    unfold sliceRange
    rw [if_pos (by decide)]
    by_cases h : (0 : Int) < (xs.size : Int)
    · simp only [h, if_true, Int.ediv_one]
      have e3 : ((xs.size : Int) - 0 + 1 - 1).toNat = xs.size := by omega
      rw [e3]
      apply List.ext_getElem
      · simp
      · intro i h1 h2
        simp
    · have : xs.size = 0 := by omega
      rw [this]
      rfl
  rw [e2, PySem.W.krv_all]
theorem tuple_back {t sl : Addr} {items : Array Value} {vk : Value} {Q : Value → Shared → Prop} (ht : IsTup s.heap t items) (hs : s.heap.IsSliceOf sl .none .none vk) (pk : IsPart vk (some (-1)))
    (h : Q (.ref s.heap.objs.size) { s with heap := s.heap.push { cls := .type "tuple", data := .seq items.toList.reverse.toArray } }) (hsz : items.size ≤ sizeLine) : wpAny (model prog w) A (getItem (.ref t) (.ref sl)) Q E s := by
  have hz : sizeOk (.seq items.toList.reverse.toArray) := by
    show items.toList.reverse.toArray.size ≤ sizeLine
    simpa using hsz
  obtain ⟨os, hos, hcs, hds⟩ := id hs
  have hTs : s.TypeIs (.ref sl) "slice" := ⟨os, hos, hcs⟩
  unfold getItem
  try with_reducible refine wpAny_holding ?_
  first | refine wpAny_bind (wpAny_pure ?_) | skip
  refine wpAny_bind (wpAny_sequenceKey ht.typeIs (by decide) ?_)
  refine wpAny_bind (wpAny_callSpecial?_slot (name := Str.ofString "__getitem__") ht.typeIs PyProof.Rows.slot_tuple_getitem (wpAny_call_entry PyProof.Rows.slot_tuple_getitem ht.typeIs entry_tuple_getitem ?_ (args_tuple_getitem _ _)))
  show wpAny _ _ (Builtin.Tuple.tupleItemsOf (.ref t) >>= _) _ _ s
  refine wpAny_bind (tupleItemsOf_ ht ?_)
  refine wpAny_bind (wpAny_typeOf hTs ?_)
  rw [if_pos (by decide)]
  refine wpAny_bind (applied_back hs pk ?_)
  have hno : ¬ ((((items.size : Int) - 1) == 0 && (-1 : Int) == 1 && items.size == items.size) = true) := by
    rw [show ((-1 : Int) == 1) = false from rfl, Bool.and_false, Bool.false_and]
    exact Bool.false_ne_true
  show wpAny _ _ (if (((items.size : Int) - 1) == 0 && (-1 : Int) == 1 && items.size == items.size) = true then _ else _) _ _ s
  rw [if_neg hno, pick_back]
  first
    | exact wpAny_bind (m := Builtin.Tuple.tupleExact _) (wpAny_newObj_type (wpAny_pure ⟨_, rfl, wpAny_pure h⟩) hz)
    | exact wpAny_bind (m := Builtin.Tuple.tupleExact _) (wpAny_newObj_type (wpAny_bind (wpAny_pure (wpAny_pure ⟨_, rfl, wpAny_pure h⟩))) hz)
    | exact wpAny_bind (wpAny_bind (m := Builtin.Tuple.tupleExact _) (wpAny_newObj_type (wpAny_pure (wpAny_pure ⟨_, rfl, wpAny_pure h⟩)) hz))
    | exact wpAny_bind (wpAny_bind (m := Builtin.Tuple.tupleExact _) (wpAny_newObj_type (wpAny_pure ⟨_, rfl, wpAny_pure h⟩) hz))
end
section
variable {X : Cx} {e c : Expr} {te tc : TE}
/-- x[::c], c = 1 or -1 -/
def rStep (K : PySem.W.Frag) (x : V) (o : Option Int) (H : Hp) (Q : VK) : Prop := ∃ a xs, x = .ref a ∧
  ((o = some (-1) ∧ SqL K H a xs ∧ ∀ p, H p = none → Q (.ref p) (upd H p (.lst xs.reverse))) ∨ (o = some (-1) ∧ SqT K H a xs ∧ ∀ p, H p = none → Q (.ref p) (upd H p (.tup xs.reverse))) ∨
   (o = some 1 ∧ SqL K H a xs ∧ ∀ p, H p = none → Q (.ref p) (upd H p (.lst xs))) ∨ (o = some 1 ∧ SqT K H a xs ∧ Q (.ref a) H))
def tStep (K : PySem.W.Frag) (te tc : TE) : TE := fun σ H Q => te σ H fun x H1 => tPart tc σ H1 fun o H2 => rStep K x o H2 Q
/-- in which order the operands are let go -/
def opsOf (b : Bool) (o i : Value) : List Value := if b = true then [o, i] else [i, o]
theorem pe_step {p3 pos : Pos} (b : Bool) (he : PE X e te) (hc : PE X c tc) (hg : ∀ o i, subscripted (.Slice none none (some c) p3) false o i = operate (opsOf b o i) (getItem o i)) : PE X (.Subscript e (.Slice none none (some c) p3) pos) (tStep X.K te tc) := by
  refine ⟨fun pins s σ H Q I h => ?_⟩
  refine Subscript_ (thn (he.run pins s σ H _ I h) fun v s1 ⟨x, H1, I1, r1, q1⟩ => ?_)
  have hst : PO X (some c) (tPart tc) := po_some hc
  refine wpAny_Slice (thn (po_none.run pins s1 σ H1 (fun o H2 => o = none ∧ H2 = H1) I1 ⟨rfl, rfl⟩) fun vl s2 ⟨l, H2, I2, pl, el, e2⟩ => ?_)
  subst el e2
  refine thn (po_none.run pins s2 σ H2 (fun o H3 => o = none ∧ H3 = H2) I2 ⟨rfl, rfl⟩) fun vu s3 ⟨u, H3, I3, pu, eu, e3⟩ => ?_
  subst eu e3
  cases pl
  cases pu
  refine thn (hst.run pins s3 σ H3 _ I3 q1) fun vs s4 ⟨o, H4, I4, ps, a, xs, ex, q⟩ => ?_
  subst ex
  cases r1
  have I5 : Inv X pins σ H4 { s4 with heap := s4.heap.push { cls := .type "slice", data := .fields #[.none, .none, vs] } } := I4.kept (t' := s4.toks) fun b ob q => Heap.get?_push_of_some _ q
  show wpAny (model X.prog X.w) X.A (subscriptTail e (.Slice none none (some c) p3) (.ref a) (.ref s4.heap.objs.size)) (EP X pins σ Q) X.xe { s4 with heap := s4.heap.push { cls := .type "slice", data := .fields #[.none, .none, vs] } }
  rcases q with ⟨eo, hx, q⟩ | ⟨eo, hx, q⟩ | ⟨eo, hx, q⟩ | ⟨eo, hx, q⟩
  · subst eo
    obtain ⟨its, r, ht, hz⟩ := I5.list hx
    have hlen := r.length
    refine tail_any (ops := opsOf b (.ref a) (.ref s4.heap.objs.size)) ht.isList.typeIs (PySem.slot_list_getitem.lookup) ?_ (hg _ _)
    refine wpAny_getItem_list_slice ht.isList (Heap.IsSliceOf.new _ .none .none vs) .none .none ps (by decide) ?_ (by rw [List.size_toArray]; omega)
    rw [PySem.W.krv_pick]
    refine ⟨.ref _, _, I5.laid (t' := s4.toks) (o := .lst xs.reverse) (fun b ob q => Heap.get?_push_of_some _ q) (Nat.le_refl _) ?_, rfl, q _ (I5.hok.fresh (Nat.le_refl _))⟩
    exact ⟨by rw [List.length_reverse]; exact hz, _, 0, r.reverse, Heap.get?_push_size _ rfl⟩
  · subst eo
    obtain ⟨its, r, ht, hz⟩ := I5.tuple hx
    have hlen := r.length
    refine tail_any (ops := opsOf b (.ref a) (.ref s4.heap.objs.size)) ht.typeIs (PyProof.Rows.slot_tuple_getitem.lookup) ?_ (hg _ _)
    refine tuple_back ht (Heap.IsSliceOf.new _ .none .none vs) ps ?_ (by rw [List.size_toArray]; omega)
    refine ⟨.ref _, _, I5.laid (t' := s4.toks) (o := .tup xs.reverse) (fun b ob q => Heap.get?_push_of_some _ q) (Nat.le_refl _) ?_, rfl, q _ (I5.hok.fresh (Nat.le_refl _))⟩
    exact ⟨by rw [List.length_reverse]; exact hz, _, r.reverse, ⟨_, Heap.get?_push_size _ rfl, rfl, _, rfl⟩⟩
  · subst eo
    obtain ⟨its, r, ht, hz⟩ := I5.list hx
    have hlen := r.length
    refine tail_any (ops := opsOf b (.ref a) (.ref s4.heap.objs.size)) ht.isList.typeIs (PySem.slot_list_getitem.lookup) ?_ (hg _ _)
    refine wpAny_getItem_list_slice ht.isList (Heap.IsSliceOf.new _ .none .none vs) .none .none ps (by decide) ?_ (by rw [List.size_toArray]; omega)
    rw [pick_fwd]
    refine ⟨.ref _, _, I5.laid (t' := s4.toks) (o := .lst xs) (fun b ob q => Heap.get?_push_of_some _ q) (Nat.le_refl _) ?_, rfl, q _ (I5.hok.fresh (Nat.le_refl _))⟩
    exact ⟨hz, _, 0, r, Heap.get?_push_size _ rfl⟩
  · subst eo
    obtain ⟨its, r, ht, hz⟩ := I5.tuple hx
    refine tail_any (ops := opsOf b (.ref a) (.ref s4.heap.objs.size)) ht.typeIs (PyProof.Rows.slot_tuple_getitem.lookup) ?_ (hg _ _)
    exact tuple_fwd ht (Heap.IsSliceOf.new _ .none .none vs) ps ⟨.ref a, H4, I5, rfl, q⟩
def stepD (x : D) (k : Int) : Option D := match x with
  | .lst xs => if k = -1 then some (.lst xs.reverse) else if k = 1 then some (.lst xs) else none
  | .tup xs => if k = -1 then some (.tup xs.reverse) else if k = 1 then some (.tup xs) else none
  | _ => none
def dStep (f g : FE) : FE := fun ρ => match f ρ with
  | some (x, ρ1) => (match g ρ1 with
    | some (.int k, ρ2) => (match stepD x k with
      | some d => some (d, ρ2)
      | none => none)
    | _ => none)
  | none => none
theorem e_step {f g : FE} {p3 pos : Pos} (b : Bool) (he : PE X e (tE f)) (hc : PE X c (tE g)) (hg : ∀ o i, subscripted (.Slice none none (some c) p3) false o i = operate (opsOf b o i) (getItem o i) := by intro _ _; rfl) : PE X (.Subscript e (.Slice none none (some c) p3) pos) (tE (dStep f g)) := PE.weak (pe_step b he hc hg) fun σ H Q ⟨A, ow, ρ, d, ρ', E, hf, q⟩ => by
  unfold dStep at hf
  split at hf
  · rename_i x ρ1 h1
    split at hf
    · rename_i k ρ2 h2
      split at hf
      · rename_i d' h3
        cases hf
        refine ⟨A, ow, ρ, x, ρ1, E, h1, fun v H1 E1 K1 r1 => ⟨A, ow, ρ1, _, ρ', E1, h2, fun w H2 E2 K2 r2 => ?_⟩⟩
        cases r2
        have rx := E1.move K2 r1
        refine ⟨k, rfl, ?_⟩
        have fin : ∀ z H3, Same H2 H3 → Rep (Gr (Fz A ow) H2) H3 z d → Q z H3 := fun z H3 s3 r3 => q z H3 (E2.same s3) ((K1.trans K2).trans (Kp.same s3)) (E2.ungrow r3)
        unfold stepD at h3
        split at h3
        · cases rx with
          | lst ga ha ra =>
            split at h3
            · rename_i e; subst e; cases h3
              exact ⟨_, _, rfl, .inl ⟨rfl, SqL.of ha, fun p hp => newL fin ra.reverse hp⟩⟩
            · split at h3
              · rename_i e; subst e; cases h3
                exact ⟨_, _, rfl, .inr (.inr (.inl ⟨rfl, SqL.of ha, fun p hp => newL fin ra hp⟩))⟩
              · cases h3
        · cases rx with
          | tup ha ra =>
            split at h3
            · rename_i e; subst e; cases h3
              exact ⟨_, _, rfl, .inr (.inl ⟨rfl, SqT.of ha, fun p hp => newT fin ra.reverse hp⟩)⟩
            · split at h3
              · rename_i e; subst e; cases h3
                exact ⟨_, _, rfl, .inr (.inr (.inr ⟨rfl, SqT.of ha, same1 fin (.tup ha ra)⟩))⟩
              · cases h3
        · cases h3
      · cases hf
    · cases hf
  · cases hf
end
end Dn

set_option Elab.async false
set_option linter.all false
set_option maxRecDepth 100000
/-! zip, enumerate, pairs assigned at once, own lists cut, own lists from calls, flags by `is`. -/
namespace Dn
open PySem PySem.Spec PyProof.Rows L2

def zipD (xs ys : List D) : List D := List.zipWith (fun x y => D.tup [x, y]) xs ys
theorem zipD_len (xs ys : List D) : (zipD xs ys).length = min xs.length ys.length := by simp [zipD]
theorem zipD_get {xs ys : List D} {i : Nat} {d : D} (h : (zipD xs ys)[i]? = some d) : ∃ x y, xs[i]? = some x ∧ ys[i]? = some y ∧ d = .tup [x, y] := by
  unfold zipD at h
  rw [List.getElem?_zipWith] at h
  split at h
  · rename_i x y h1 h2
    exact ⟨x, y, h1, h2, (Option.some.inj h).symm⟩
  · cases h
section
variable {K : PySem.W.Frag} {A : An} {ow ow2 : Ow} {H H2 : Hp}
abbrev Gz (A : An) (ow2 : Ow) (H H2 : Hp) : Addr → Prop := fun a => (Fz A ow2 a ∧ H a ≠ none) ∨ H2 a = none
theorem kf_list {a : Addr} {xs : List V} {ds : List D} (k : Kf A ow H ow2 H2) (g : Fz A ow a) (h : H a = some (.lst xs)) (r : RepL (Fz A ow) H xs ds) : H2 a = some (.lst xs) ∧ RepL (Gz A ow2 H H2) H2 xs ds :=
  ⟨(k a _ h (.inl g)).1, r.mono (fun a o g q => ⟨.inl ⟨⟨g.1, (k a o q (.inl g)).2⟩, by rw [q]; exact fun z => nomatch z⟩, (k a o q (.inl g)).1⟩) fun a xs q => (k a _ q (.inr rfl)).1⟩
theorem kf_tup {a : Addr} {xs : List V} {ds : List D} (k : Kf A ow H ow2 H2) (h : H a = some (.tup xs)) (r : RepL (Fz A ow) H xs ds) : H2 a = some (.tup xs) ∧ RepL (Gz A ow2 H H2) H2 xs ds :=
  ⟨(k a _ h (.inr rfl)).1, r.mono (fun a o g q => ⟨.inl ⟨⟨g.1, (k a o q (.inl g)).2⟩, by rw [q]; exact fun z => nomatch z⟩, (k a o q (.inl g)).1⟩) fun a xs q => (k a _ q (.inr rfl)).1⟩
theorem gz_up {H3 : Hp} (s : Same H2 H3) {v : V} {d : D} (r : Rep (Gz A ow2 H H2) H2 v d) : Rep (Gz A ow2 H H2) H3 v d := r.mono (fun a o g q => ⟨g, s _ _ q⟩) fun a xs q => s _ _ q
theorem itd_zipL {a b : Addr} {xs ys : List V} {dx dy : List D} (ga : Fz A ow a) (ha : H a = some (.lst xs)) (ra : RepL (Fz A ow) H xs dx) (gb : Fz A ow b) (hb : H b = some (.lst ys)) (rb : RepL (Fz A ow) H ys dy) : ItD A ow H (Itz K a b) (zipD dx dy) := by
  intro ow2 H2 k
  obtain ⟨h2, r2⟩ := kf_list k ga ha ra
  obtain ⟨h3, r3⟩ := kf_list k gb hb rb
  refine ⟨⟨xs, ys, SqL.of h2, SqL.of h3, ?_⟩, fun i d hd => ?_⟩
  · rw [zipD_len, r2.length, r3.length]; omega
  · obtain ⟨x, y, e1, e2, rfl⟩ := zipD_get hd
    obtain ⟨u, hu, ru⟩ := r2.get e1
    obtain ⟨v, hv, rv⟩ := r3.get e2
    refine ⟨⟨xs, ys, u, v, SqL.of h2, SqL.of h3, hu, hv⟩, ?_⟩
    rintro z H3 ⟨T, u', v', rfl, hT, rfl, f1, f2⟩
    have q1 := f1 xs (SqL.of h2); rw [hu] at q1; cases q1
    have q2 := f2 ys (SqL.of h3); rw [hv] at q2; cases q2
    exact ⟨Same.new hT, .tup upd_same (.cons (gz_up (Same.new hT) ru) (.cons (gz_up (Same.new hT) rv) .nil))⟩
theorem itd_zipT {a b : Addr} {xs ys : List V} {dx dy : List D} (ha : H a = some (.tup xs)) (ra : RepL (Fz A ow) H xs dx) (hb : H b = some (.tup ys)) (rb : RepL (Fz A ow) H ys dy) : ItD A ow H (RZ.ItzT K a b) (zipD dx dy) := by
  intro ow2 H2 k
  obtain ⟨h2, r2⟩ := kf_tup k ha ra
  obtain ⟨h3, r3⟩ := kf_tup k hb rb
  refine ⟨⟨xs, ys, SqT.of h2, SqT.of h3, ?_⟩, fun i d hd => ?_⟩
  · rw [zipD_len, r2.length, r3.length]; omega
  · obtain ⟨x, y, e1, e2, rfl⟩ := zipD_get hd
    obtain ⟨u, hu, ru⟩ := r2.get e1
    obtain ⟨v, hv, rv⟩ := r3.get e2
    refine ⟨⟨xs, ys, u, v, SqT.of h2, SqT.of h3, hu, hv⟩, ?_⟩
    rintro z H3 ⟨T, u', v', rfl, hT, rfl, f1, f2⟩
    have q1 := f1 xs (SqT.of h2); rw [hu] at q1; cases q1
    have q2 := f2 ys (SqT.of h3); rw [hv] at q2; cases q2
    exact ⟨Same.new hT, .tup upd_same (.cons (gz_up (Same.new hT) ru) (.cons (gz_up (Same.new hT) rv) .nil))⟩
def enumD (xs : List D) : List D := xs.mapIdx fun i x => .tup [.int (i : Nat), x]
theorem itd_enum {a : Addr} {xs : List V} {dx : List D} (ga : Fz A ow a) (ha : H a = some (.lst xs)) (ra : RepL (Fz A ow) H xs dx) : ItD A ow H (Ite K a) (enumD dx) := by
  intro ow2 H2 k
  obtain ⟨h2, r2⟩ := kf_list k ga ha ra
  refine ⟨⟨xs, SqL.of h2, ?_⟩, fun i d hd => ?_⟩
  · unfold enumD; rw [List.length_mapIdx, r2.length]; exact Nat.le_refl _
  · unfold enumD at hd
    rw [List.getElem?_mapIdx] at hd
    cases e : dx[i]? with
    | none => rw [e] at hd; cases hd
    | some x =>
      rw [e] at hd
      cases hd
      obtain ⟨u, hu, ru⟩ := r2.get e
      refine ⟨⟨xs, u, SqL.of h2, hu⟩, ?_⟩
      rintro z H3 ⟨T, u', rfl, hT, rfl, f1⟩
      have q1 := f1 xs (SqL.of h2); rw [hu] at q1; cases q1
      exact ⟨Same.new hT, .tup upd_same (.cons (.int _) (.cons (gz_up (Same.new hT) ru) .nil))⟩
end
section
variable {Y : Xw} {X : Cx} {e e2 : Expr} {es : List Expr} {f g : FE} {k : FA} {pos p tpos : Pos} {elts : List Expr} {kk : Nat}
def dZip (k : FA) : FI := fun ρ => match k ρ with
  | some ([.lst xs, .lst ys], ρ1) => some (zipD xs ys, ρ1)
  | some ([.tup xs, .tup ys], ρ1) => some (zipD xs ys, ρ1)
  | _ => none
theorem i_zip (hm : X.mg "zip" = none) (ha : PA X [e, e2] (tA k)) (hg : Gl X "zip" := by rfl) (hs : starEach [e, e2] X.env = (false, eval e X.env) :: starEach [e2] X.env := by rfl) (hpl : (backTo pos (starEach [e2] X.env)).any (·.1) = false := by rfl) :
    PI X (.Tuple elts kk tpos) (.Call (.Name "zip" p) [e, e2] [] pos) (tI (dZip k)) := PI.weak (RZ.pi_zipA hg hm ha hs hpl) fun σ H R ⟨A, ow, ρ, ds, ρ', E, hf, q⟩ => by
  unfold dZip at hf
  split at hf
  · rename_i xs ys ρ1 h1
    cases hf
    refine ⟨A, ow, ρ, _, ρ', E, h1, fun v H' E' K' r => ?_⟩
    cases r with
    | cons ra r => cases r with
      | cons rb r =>
        cases r; cases ra with
        | lst ga ha ra => cases rb with
          | lst gb hb rb => exact ⟨_, _, _, _, rfl, .inl ⟨SqL.of ha, SqL.of hb, q _ H' E' K' (itd_zipL ga ha ra gb hb rb)⟩⟩
  · rename_i xs ys ρ1 h1
    cases hf
    refine ⟨A, ow, ρ, _, ρ', E, h1, fun v H' E' K' r => ?_⟩
    cases r with
    | cons ra r => cases r with
      | cons rb r =>
        cases r; cases ra with
        | tup ha ra => cases rb with
          | tup hb rb => exact ⟨_, _, _, _, rfl, .inr ⟨SqT.of ha, SqT.of hb, q _ H' E' K' (itd_zipT ha ra hb rb)⟩⟩
  · cases hf
def dEnum (k : FA) : FI := fun ρ => match k ρ with
  | some ([.lst xs], ρ1) => some (enumD xs, ρ1)
  | _ => none
theorem i_enum (hm : X.mg "enumerate" = none) (ha : PA X [e] (tA k)) (hg : Gl X "enumerate" := by rfl) (hs : starEach [e] X.env = [(false, eval e X.env)] := by rfl) :
    PI X (.Tuple elts kk tpos) (.Call (.Name "enumerate" p) [e] [] pos) (tI (dEnum k)) := PI.weak (pi_enum hg hm ha hs) fun σ H R ⟨A, ow, ρ, ds, ρ', E, hf, q⟩ => by
  unfold dEnum at hf
  split at hf
  · rename_i xs ρ1 h1
    cases hf
    refine ⟨A, ow, ρ, _, ρ', E, h1, fun v H' E' K' r => ?_⟩
    cases r with
    | cons ra r =>
      cases r; cases ra with
      | lst ga ha ra => exact ⟨_, _, rfl, SqL.of ha, q _ H' E' K' (itd_enum ga ha ra)⟩
  · cases hf
/-- x, y = a, b -/
def dPar (i j : Nat) (k : FA) : FS := fun ρ => match k ρ with
  | some ([d1, d2], ρ1) => (match gSet i d1 ρ1 with
    | some ρ2 => (match gSet j d2 ρ2 with
      | some ρ3 => some (.nx, ρ3)
      | none => none)
    | none => none)
  | _ => none
theorem s_par (i j : Nat) {x y : Str} {a b : Expr} {px py pt : Pos} {kt k2 pt2} (hN : X.N.Nodup) (ha : PA X [a, b] (tA k)) (hc : X.calm = true := by rfl) (hi : X.N[i]? = some x := by rfl) (hj : X.N[j]? = some y := by rfl) (hij : i ≠ j := by decide)
    (hx : X.env.scope.names.lookup x = some .local := by rfl) (hy : X.env.scope.names.lookup y = some .local := by rfl)
    (hw : swappedStores [.Tuple [.Name x px, .Name y py] kt pt] (.Tuple [a, b] k2 pt2) X.env = pure (some [x, y]) := by rfl)
    (hs : swapsWithSole [.Tuple [.Name x px, .Name y py] kt pt] (.Tuple [a, b] k2 pt2) pos.line X.env = pure false := by rfl) :
    PS X (.Assign [.Tuple [.Name x px, .Name y py] kt pt] (.Tuple [a, b] k2 pt2) pos) (tS Y (dPar i j k)) := PS.weak (ps_par hc hN hi hj hij hx hy ha hw hs) fun Dd σ H ⟨A, ow, ρ, fl, ρ', E, hg, q⟩ => by
  unfold dPar at hg
  split at hg
  · rename_i d1 d2 ρ1 h1
    split at hg
    · rename_i ρ2 h2
      split at hg
      · rename_i ρ3 h3
        cases hg
        refine ⟨A, ow, ρ, _, ρ1, E, h1, fun vs H1 E1 K1 r => ?_⟩
        cases r with
        | cons ra r => cases r with
          | cons rb r =>
            cases r
            unfold gSet at h2 h3
            split at h2
            · rename_i z2
              split at h3
              · rename_i z3
                cases h2; cases h3
                exact ⟨_, _, rfl, q _ _ _ ((E1.set1 ra z2).set1 rb z3) K1⟩
              · cases h3
            · cases h2
      · cases hg
    · cases hg
  · cases hg
/-- x, y, z = a, b, c -/
def dPar3 (i j l : Nat) (k : FA) : FS := fun ρ => match k ρ with
  | some ([d1, d2, d3], ρ1) => (match gSet i d1 ρ1 with
    | some ρ2 => (match gSet j d2 ρ2 with
      | some ρ3 => (match gSet l d3 ρ3 with
        | some ρ4 => some (.nx, ρ4)
        | none => none)
      | none => none)
    | none => none)
  | _ => none
theorem s_par3 (i j l : Nat) {x y z : Str} {a b c : Expr} {px py pz pt : Pos} {kt k2 pt2} (hN : X.N.Nodup) (ha : PA X [a, b, c] (tA k)) (hc : X.calm = true := by rfl) (hi : X.N[i]? = some x := by rfl) (hj : X.N[j]? = some y := by rfl) (hl : X.N[l]? = some z := by rfl) (hij : i ≠ j := by decide) (hil : i ≠ l := by decide) (hjl : j ≠ l := by decide)
    (hx : X.env.scope.names.lookup x = some .local := by rfl) (hy : X.env.scope.names.lookup y = some .local := by rfl) (hz : X.env.scope.names.lookup z = some .local := by rfl)
    (hw : swappedStores [.Tuple [.Name x px, .Name y py, .Name z pz] kt pt] (.Tuple [a, b, c] k2 pt2) X.env = pure (some [x, y, z]) := by rfl)
    (hs : swapsWithSole [.Tuple [.Name x px, .Name y py, .Name z pz] kt pt] (.Tuple [a, b, c] k2 pt2) pos.line X.env = pure false := by rfl) :
    PS X (.Assign [.Tuple [.Name x px, .Name y py, .Name z pz] kt pt] (.Tuple [a, b, c] k2 pt2) pos) (tS Y (dPar3 i j l k)) := PS.weak (ps_par3 hc hN hi hj hl hij hil hjl hx hy hz ha hw hs) fun Dd σ H ⟨A, ow, ρ, fl, ρ', E, hg, q⟩ => by
  unfold dPar3 at hg
  split at hg
  · rename_i d1 d2 d3 ρ1 h1
    split at hg
    · rename_i ρ2 h2
      split at hg
      · rename_i ρ3 h3
        split at hg
        · rename_i ρ4 h4
          cases hg
          refine ⟨A, ow, ρ, _, ρ1, E, h1, fun vs H1 E1 K1 r => ?_⟩
          cases r with
          | cons ra r => cases r with
            | cons rb r => cases r with
              | cons rc r =>
                cases r
                unfold gSet at h2 h3 h4
                split at h2
                · rename_i z2
                  split at h3
                  · rename_i z3
                    split at h4
                    · rename_i z4
                      cases h2; cases h3; cases h4
                      exact ⟨_, _, _, rfl, q _ _ _ (((E1.set1 ra z2).set1 rb z3).set1 rc z4) K1⟩
                    · cases h4
                  · cases h3
                · cases h2
        · cases hg
      · cases hg
    · cases hg
  · cases hg
/-- flags told apart by `is` -/
def dIsB : D → D → Option D
  | .bl a, .bl b => some (.bl (decide (a = b)))
  | _, _ => none
theorem dd_isB : OpD rIsB dIsB := by
  intro G H x y dx dy d Q rx ry h q
  unfold dIsB at h
  split at h
  · cases h; cases rx; cases ry
    exact ⟨_, _, rfl, rfl, same1 q (.bl _)⟩
  · cases h
def dAbs : List D → Option D
  | [.int i] => some (.int (if i < 0 then -i else i))
  | _ => none
theorem dd_abs : CallD (fun xs H Q => ∃ i, xs = [.int i] ∧ Q (.int (if i < 0 then -i else i)) H) dAbs := by
  intro G H vs ds d Q r h q
  unfold dAbs at h
  split at h
  · cases h
    cases r with
    | cons ra r => cases r; cases ra; exact ⟨_, rfl, same1 q (.int _)⟩
  · cases h
/-- x[lo:hi], x an own list -/
def dSlO (i : Nat) (g h : FO) : FE := fun ρ => match oL ρ i with
  | some _ => (match g ρ with
    | some (lo, ρ2) => (match h ρ2 with
      | some (hi, ρ3) => (match oL ρ3 i with
        | some ds => some (.lst (cutD ds lo hi), ρ3)
        | none => none)
      | none => none)
    | none => none)
  | none => none
theorem e_sliceO (i : Nat) {x : Str} {npos p2 : Pos} {lo hi : Option Expr} {g h : FO} (hl : PO X lo (tO g)) (hu : PO X hi (tO h)) (hN : X.N[i]? = some x := by rfl) (hv : Vis X.env.scope x := by first | exact Or.inl rfl | exact Or.inr (Or.inl rfl) | exact Or.inr (Or.inr rfl)) (hd : (x == ("__debug__" : Str)) = false := by decide) (hcd : (x == ("__classdict__" : Str)) = false := by decide) :
    PE X (.Subscript (.Name x npos) (.Slice lo hi none p2) pos) (tE (dSlO i g h)) := PE.weak (pe_slice sl_list (pe_var (i := i) hN hv hd hcd) hl hu) fun σ H Q ⟨A, ow, ρ, d, ρ', E, hf, q⟩ => by
  unfold dSlO at hf
  split at hf
  · rename_i ds0 h0
    split at hf
    · rename_i l ρ2 h2
      split at hf
      · rename_i u ρ3 h3
        split at hf
        · rename_i ds h4
          cases hf
          refine own_var E h0 fun p xs g1 g2 g3 => ⟨A, ow, ρ, l, ρ2, E, h2, fun H2 E2 K2 => ⟨A, ow, ρ2, u, ρ', E2, h3, fun H3 E3 K3 => ?_⟩⟩
          obtain ⟨p', xs', k1, k2, k3, k4⟩ := E3.getL h4
          rw [g1] at k1; cases k1
          exact ⟨p, xs', rfl, SqL.of k3, fun a ha => q _ _ (E3.same (Same.new ha)) ((K2.trans K3).trans (Kp.same (Same.new ha))) (.lst (E3.fresh ha) upd_same (E3.moveL (Kp.same (Same.new ha)) (cut_rep k4)))⟩
        · cases hf
      · cases hf
    · cases hf
  · cases hf
/-- what is never reached -/
def dNever : FS := fun _ => none
theorem s_never {st : Stmt} : PS X st (tS Y dNever) := ⟨fun pins s σ H D I ⟨A, ow, ρ, fl, ρ', E, hg, q⟩ => by cases hg⟩
theorem ss_never {b : List Stmt} : PSs X b (tS Y dNever) := ⟨fun pins s σ H D I ⟨A, ow, ρ, fl, ρ', E, hg, q⟩ => by cases hg⟩
/-! ### own lists from calls -/
mutual
/-- no list, no dict, no object in it -/
def pureD : D → Bool
  | .tup xs => pureL xs
  | .lst _ => false
  | .dk _ => false
  | .ins _ _ => false
  | .frl _ _ => false
  | _ => true
def pureL : List D → Bool
  | [] => true
  | d :: ds => pureD d && pureL ds
end
mutual
theorem Rep.pure {G G' : Addr → Prop} {H : Hp} : ∀ {d : D} {v : V}, Rep G H v d → pureD d = true → Rep G' H v d
  | .non, _, r, _ => by cases r; exact .non
  | .bl b, _, r, _ => by cases r; exact .bl b
  | .int i, _, r, _ => by cases r; exact .int i
  | .str x, _, r, _ => by cases r; exact .str x
  | .tup xs, _, r, h => by cases r with | tup ha ra => exact .tup ha (RepL.pure ra (by unfold pureD at h; exact h))
  | .lst _, _, _, h => by cases h
  | .dk _, _, _, h => by cases h
  | .ins _ _, _, _, h => by cases h
  | .frl _ _, _, _, h => by cases h
theorem RepL.pure {G G' : Addr → Prop} {H : Hp} : ∀ {d : List D} {v : List V}, RepL G H v d → pureL d = true → RepL G' H v d
  | [], _, r, _ => by cases r; exact .nil
  | d :: ds, _, r, h => by
    unfold pureL at h
    rw [Bool.and_eq_true] at h
    cases r with | cons ra rb => exact .cons (Rep.pure ra h.1) (RepL.pure rb h.2)
end
/-- x = f(..): the answer is a new list of plain things -/
def dOwnCall (i : Nat) (m : List D → Option D) (k : FA) : FS := fun ρ => match k ρ with
  | some (ds, ρ1) => if pureL ds = true then (match m ds with
    | some (.lst st) => if pureL st = true then (match setOwn ρ1 i (.lst st) with
      | some ρ2 => some (.nx, ρ2)
      | none => none) else none
    | _ => none) else none
  | none => none
theorem s_ownCall (i : Nat) {x y : Str} {pos' cp : Pos} {m : List D → Option D} {kv : Nat} {ps : List Str} (hN : X.N.Nodup) (F : Df X.prog X.w X.K X.mg X.base y kv ps m) (hr : Room kv X.A) (ha : PA X (e :: es) (tA k)) (hg : Gl X y := by rfl) (hdb : (y == ("__debug__" : Str)) = false := by decide) (he : starEach (e :: es) X.env = (false, eval e X.env) :: starEach es X.env := by rfl) (hpl : (backTo cp (starEach es X.env)).any (·.1) = false := by rfl)
    (hi : X.N[i]? = some x := by rfl) (hx : Loc X.env.scope x := by first | exact Or.inl rfl | exact Or.inr rfl) (hs : swapsWith (.Call (.Name y p) (e :: es) [] cp) (some (.Name x pos')) pos.line X.env = pure false := by rfl) (hf : X.fn x = true ∨ X.env.scope.names.lookup x = some .local := by first | exact .inl rfl | exact .inr rfl | assumption) :
    PS X (.Assign [.Name x pos'] (.Call (.Name y p) (e :: es) [] cp) pos) (tS Y (dOwnCall i m k)) := by
  obtain ⟨f, fd, F, h1, h2, h3⟩ := F.ex
  refine PS.weak (ps_set (i := i) hN hi hx (pe_call (E := E0) F hr hg h1 h2 h3 .nil pass0 ha hdb he hpl) hs hf) fun Dd σ H ⟨A, ow, ρ, fl, ρ', E, hg, q⟩ => ?_
  unfold dOwnCall at hg
  split at hg
  · rename_i ds ρ1 h1
    split at hg
    · rename_i hp
      split at hg
      · rename_i st hm
        split at hg
        · rename_i hps
          split at hg
          · rename_i ρ2 ho
            cases hg
            refine ⟨A, ow, ρ, ds, ρ1, E, h1, fun vs H1 E1 K1 r1 => ?_⟩
            show spD m (vs ++ []) H1 _ E0
            rw [List.append_nil]
            refine ⟨fun _ => False, ds, _, r1.pure hp, hm, fun v H2 s2 r2 => ?_⟩
            cases r2 with
            | lst ga ha ra =>
              rename_i a xs
              have hn : H1 a = none := ga.elim False.elim id
              obtain ⟨E2, K2⟩ := E1.on s2 (o := .lst st) hn ha rfl ⟨xs, ha, ra.pure hps⟩ ho
              exact q _ _ _ E2 (K1.trans K2)
          · cases hg
        · cases hg
      · cases hg
    · cases hg
  · cases hg
end
end Dn

set_option Elab.async false
set_option linter.all false
set_option maxRecDepth 100000
/-! Errors: raised, let through, caught. -/
namespace Dn
open PySem PySem.Spec PyProof.Rows L2

/-! ### a class of errors without fields -/
structure ErrC (K : PySem.W.Frag) (mg : Str → Option Value) (c : Str) : Prop where
  ex : ∃ C, mg c = some (.ref C) ∧ PySem.W.keepIn K (.ref C) = true ∧ PySem.W.excIn K C [.type "ValueError", .type "Exception", .type "BaseException", .type "object"] "ValueError.__new__" = true ∧
    PySem.W.subIn K (.ref C) (.type "BaseException") = some true ∧ PySem.W.typeIn K (.ref C) = some (.type "type")
section
variable {X : Cx} {C : Addr} {bmB : List Value} {B newId initId : String} {x : Str} {p pos : Pos}
/-- C() -/
theorem pmk_own0 (F : ExcBaseFacts B newId initId bmB) (q : PySem.W.excIn X.K C bmB newId = true) (gC : X.mg x = some (.ref C))
    (kC : PySem.W.keepIn X.K (.ref C) = true) (r : Raises X (.ref C)) (hg : Gl X x) (hdb : (x == ("__debug__" : Str)) = false := by decide) :
    PMk X (.Call (.Name x p) [] [] pos) (fun _ H Q => Q (.ref C) none H) := by
  intro pins s σ H Q I h
  refine wpAny_Call_Name_kw (ld_glob I hg gC ?_ hdb)
  refine PySem.W.callWith_K0 I.kIn kC ?_
  show wpAny _ _ (call (.ref C) []) _ _ _
  obtain ⟨bm, N, nm, qn, bs, hdct, sn, sub, ab, col, dd, k0, k1, k2, k3, k5, mN, hC, hN, hni, T⟩ := exc_obj I.kIn q
  refine wpAny_call_exc_subT F T hC hN hni (fun h' e hm => ?_) (by show 0 ≤ sizeLine; omega)
  exact mk_of I hm r h (I.hok.gone hm.new)
end
section
variable {W : WX} {X : Cx} {x : Str} {p pos pos' : Pos}
/-- raise C() -/
def dRaise (c : Str) : FS := fun ρ => some (.ex c none, ρ)
theorem s_raise0 (T : ErrC X.K X.mg x) (hc : X.calm = true) (tk : Takes X W) (hg : Gl X x := by rfl) (hdb : (x == ("__debug__" : Str)) = false := by decide) :
    PS X (.Raise (some (.Call (.Name x p) [] [] pos)) none pos') (tS ⟨X.mg, W⟩ (dRaise x)) := by
  obtain ⟨C, gC, kC, xC, bC, tC⟩ := T.ex
  refine PS.weak (ps_raise hc tk (pmk_own0 PySem.F.excBase_ValueError xC gC kC (raises_own bC tC) hg hdb)) fun Dd σ H ⟨A, ow, ρ, fl, ρ', E, hg, q⟩ => ?_
  cases hg
  exact q C none σ H ow gC E (Kp.refl _ _) rfl
end
/-! ### defs that may raise -/
inductive Rs where
  | ok (d : D) | er (c : Str) (fs : Option (List (Str × D)))
abbrev ME := List D → Option Rs
def ExG (G : Addr → Prop) (H H' : Hp) (dx : Option Addr) : Option (List (Str × D)) → Prop
  | none => dx = none
  | some fs => ∃ d vs, dx = some d ∧ H' d = some (.xd vs) ∧ H d = none ∧ RepF (Gr G H) H' vs fs
def spE (mg : Str → Option Value) (m : ME) : Sp := fun vs H Q E => ∃ (G : Addr → Prop) (ds : List D), RepL G H vs ds ∧
  ((∃ d, m ds = some (.ok d) ∧ ∀ v H', Same H H' → Rep (Gr G H) H' v d → Q v H') ∨
   (∃ c fs, m ds = some (.er c fs) ∧ ∀ C dx H', mg c = some (.ref C) → Same H H' → ExG G H H' dx fs → E (.ref C) dx H'))
def runE (g : FS) (n m : Nat) : ME := fun ds => if ds.length = m then (match g (st0 n ds) with
  | some (.rt d, _) => some (.ok d)
  | some (.nx, _) => some (.ok .non)
  | some (.ex c fs, _) => some (.er c fs)
  | _ => none) else none
theorem runE_len {g : FS} {n m : Nat} {ds : List D} {r : Rs} (h : runE g n m ds = some r) : ds.length = m := by
  unfold runE at h
  split at h
  · assumption
  · cases h
section
variable {P : Program} {w : World} {K : PySem.W.Frag} {mg : Str → Option Value} {base : Heap}
theorem okE {x qual : Str} {st : Stmt} {f : Addr} {fd : FuncData} {N ps : List Str} {k n m : Nat} {g : FS} (F : Fun K x qual st f fd) (S : FnScope N ps (defScope st))
    (hb : ∀ (cdv : Value) (A : Around) (outer : List Env) (s : Shared) (H : Hp) (E : XK), Room k (A.deeper (envOfC qual (defScope st) s.heap.objs.size f cdv)) → PSs (cxOf (L2.CX P w) P w K mg base N qual (defScope st) f cdv A outer s H E) (defBody st) (tS ⟨mg, fun cls d _ H => E cls d H⟩ g))
    (hn : N.length = n := by rfl) (hm : ps.length = m := by rfl) : FnOk P w K mg base (L2.CX P w) (k + 1) f fd ps (spE mg (runE g n m)) := by
  subst hn hm
  refine F.okX S (fun vs H Q E h => ?_) fun cdv A outer s H vs Q E hr h => ⟨tS ⟨mg, fun cls d _ H => E cls d H⟩ g, hb cdv A outer s H E hr, ?_⟩
  · obtain ⟨G, ds, r, h | h⟩ := h
    · obtain ⟨d, hm, _⟩ := h
      rw [r.length]; exact runE_len hm
    · obtain ⟨c, fs, hm, _⟩ := h
      rw [r.length]; exact runE_len hm
  · obtain ⟨G, ds, r, h⟩ := h
    have hl : ds.length = ps.length := by
      rcases h with ⟨d, hm, _⟩ | ⟨c, fs, hm, _⟩ <;> exact runE_len hm
    cases hg : g (st0 N.length ds) with
    | none =>
      rcases h with ⟨d, hm, _⟩ | ⟨c, fs, hm, _⟩ <;> · unfold runE at hm; rw [if_pos hl, hg] at hm; cases hm
    | some r2 =>
      obtain ⟨fl, ρ'⟩ := r2
      refine ⟨⟨G, H, fun _ => False⟩, fun _ => none, _, fl, ρ', env0 r, hg, ?_⟩
      cases fl with
      | nx =>
        rcases h with ⟨d, hm, q⟩ | ⟨c, fs, hm, _⟩
        · unfold runE at hm; rw [if_pos hl, hg] at hm; cases hm
          exact fun σ' H' ow' E' K' => q .non H' (same_of E') .non
        · unfold runE at hm; rw [if_pos hl, hg] at hm; cases hm
      | bk => rcases h with ⟨d, hm, _⟩ | ⟨c, fs, hm, _⟩ <;> · unfold runE at hm; rw [if_pos hl, hg] at hm; cases hm
      | ct => rcases h with ⟨d, hm, _⟩ | ⟨c, fs, hm, _⟩ <;> · unfold runE at hm; rw [if_pos hl, hg] at hm; cases hm
      | rt d =>
        rcases h with ⟨d, hm, q⟩ | ⟨c, fs, hm, _⟩
        · unfold runE at hm; rw [if_pos hl, hg] at hm; cases hm
          exact fun v σ' H' ow' E' K' r' => q v H' (same_of E') (r'.mono (fun a o g z => ⟨g, z⟩) fun a xs z => z)
        · unfold runE at hm; rw [if_pos hl, hg] at hm; cases hm
      | ex c fs =>
        rcases h with ⟨d, hm, q⟩ | ⟨c, fs, hm, q⟩
        · unfold runE at hm; rw [if_pos hl, hg] at hm; cases hm
        · unfold runE at hm; rw [if_pos hl, hg] at hm; cases hm
          intro C dx σ' H' ow' mC E' K' ex
          refine q C dx H' mC (same_of E') ?_
          cases fs with
          | none => exact ex
          | some fs =>
            obtain ⟨d, vs, h1, h2, h3, h4⟩ := ex
            exact ⟨d, vs, h1, h2, h3, h4⟩
structure De (P : Program) (w : World) (K : PySem.W.Frag) (mg : Str → Option Value) (base : Heap) (x : Str) (k : Nat) (ps : List Str) (m : ME) : Prop where
  ex : ∃ f fd, FnOk P w K mg base (L2.CX P w) k f fd ps (spE mg m) ∧ mg x = some (.ref f) ∧ PySem.W.keepIn K (.ref f) = true ∧ Binds K fd ps []
theorem At.de {x : Str} {st : Stmt} {N ps : List Str} {k n m : Nat} {g : FS} (T : At K mg x st) (S : FnScope N ps (defScope st))
    (hbd : ∀ (kV doc pm : Value) (an : Option Addr) (cdv ct : Value) (us : List Value), us.length = ps.length → bindArgs (PySem.W.fnOf x x (defArgs st) (defBody st) (defScope st) .none kV doc pm an cdv ct) ⟨us, []⟩ = pure (ps.zip us))
    (hb : ∀ (f : Addr) (cdv : Value) (A : Around) (outer : List Env) (s : Shared) (H : Hp) (E : XK), Room k (A.deeper (envOfC x (defScope st) s.heap.objs.size f cdv)) → PSs (cxOf (L2.CX P w) P w K mg base N x (defScope st) f cdv A outer s H E) (defBody st) (tS ⟨mg, fun cls d _ H => E cls d H⟩ g))
    (hn : N.length = n := by rfl) (hm : ps.length = m := by rfl) : De P w K mg base x (k + 1) ps (runE g n m) := by
  obtain ⟨f, fd, F, h⟩ := T.ex
  exact ⟨f, fd, okE F S (hb f) hn hm, h, F.kp, F.binds hbd⟩
end
/-! ### their calls -/
section
variable {W : WX} {X : Cx} {e : Expr} {es : List Expr} {y : Str} {k : FA} {m : ME} {kv : Nat} {ps : List Str} {p pos cp : Pos}
/-- the reading of such a call, the answer handed on -/
theorem callE_of {A : An} {ow : Ow} {ρ ρ1 : DE} {σ : L2.St} {H : Hp} {ds : List D} (E : EnvR A ow H σ ρ) (h1 : k ρ = some (ds, ρ1)) {Q : VK} {fl : Fl} {Dd : Ends}
    (h : (∃ d, m ds = some (.ok d) ∧ ∀ v H', EnvR A ow H' σ ρ1 → Kp ow H ow H' → Rep (Fz A ow) H' v d → Q v H') ∨
      (∃ c fs, m ds = some (.er c fs) ∧ Post ⟨X.mg, W⟩ A ow H ρ1 Dd (.ex c fs))) : tCallS (spE X.mg m) (WE W) (tA k) σ H Q := by
  refine ⟨A, ow, ρ, ds, ρ1, E, h1, fun vs H1 E1 K1 r1 => ⟨Fz A ow, ds, r1, ?_⟩⟩
  rcases h with ⟨d, hm, q⟩ | ⟨c, fs, hm, q⟩
  · exact .inl ⟨d, hm, fun v H' s r => q v H' (E1.same s) (K1.trans (Kp.same s)) (E1.ungrow r)⟩
  · refine .inr ⟨c, fs, hm, fun C dx H' mC s ex => q C dx σ H' ow mC (E1.same s) (K1.trans (Kp.same s)) ?_⟩
    cases fs with
    | none => exact ex
    | some fs =>
      obtain ⟨d, vs, g1, g2, g3, g4⟩ := ex
      have fz := E1.fresh g3
      have : ∀ {vs : List (Str × V)} {fs : List (Str × D)}, RepF (Gr (Fz A ow) H1) H' vs fs → RepF (Rt A) H' vs fs := fun r => r.mono (fun a o g z => ⟨(E1.gr g).1, z⟩) fun a xs z => z
      refine ⟨d, vs, g1, g2, ?_, this g4⟩
      cases q : A.H d with
      | none => rfl
      | some o => rw [E1.kp d o q fz.2] at g3; cases g3
/-- f(..) as a statement -/
def dExE (m : ME) (k : FA) : FS := fun ρ => match k ρ with
  | some (ds, ρ1) => (match m ds with
    | some (.ok _) => some (.nx, ρ1)
    | some (.er c fs) => some (.ex c fs, ρ1)
    | none => none)
  | none => none
theorem s_exE (F : De X.prog X.w X.K X.mg X.base y kv ps m) (hr : Room kv X.A) (tk : Takes X W) (ha : PA X (e :: es) (tA k)) (hg : Gl X y := by rfl) (hdb : (y == ("__debug__" : Str)) = false := by decide) (he : starEach (e :: es) X.env = (false, eval e X.env) :: starEach es X.env := by rfl) (hpl : (backTo cp (starEach es X.env)).any (·.1) = false := by rfl)
    (hs : swapsWith (.Call (.Name y p) (e :: es) [] cp) none pos.line X.env = pure false := by rfl) :
    PS X (.Expr (.Call (.Name y p) (e :: es) [] cp) pos) (tS ⟨X.mg, W⟩ (dExE m k)) := by
  obtain ⟨f, fd, F, h1, h2, h3⟩ := F.ex
  refine PS.weak (ps_expr (pe_callS F hr hg h1 h2 h3 (fun σ => passAt tk σ) ha hdb he hpl) hs) fun Dd σ H ⟨A, ow, ρ, fl, ρ', E, hg, q⟩ => ?_
  unfold dExE at hg
  split at hg
  · rename_i ds ρ1 hk
    split at hg
    · rename_i d hm
      cases hg
      exact callE_of (W := W) (fl := .nx) (Dd := Dd) E hk (.inl ⟨d, hm, fun v H' E' K' r => q σ H' ow E' K'⟩)
    · rename_i c fs hm
      cases hg
      exact callE_of (W := W) (fl := .nx) (Dd := Dd) E hk (.inr ⟨c, fs, hm, q⟩)
    · cases hg
  · cases hg
/-- x = f(..) -/
def dSetE (i : Nat) (m : ME) (k : FA) : FS := fun ρ => match k ρ with
  | some (ds, ρ1) => (match m ds with
    | some (.ok d) => (match setDat ρ1 i d with
      | some ρ2 => some (.nx, ρ2)
      | none => none)
    | some (.er c fs) => some (.ex c fs, ρ1)
    | none => none)
  | none => none
theorem s_setE (i : Nat) {x : Str} {pos' : Pos} (hN : X.N.Nodup) (F : De X.prog X.w X.K X.mg X.base y kv ps m) (hr : Room kv X.A) (tk : Takes X W) (ha : PA X (e :: es) (tA k)) (hg : Gl X y := by rfl) (hdb : (y == ("__debug__" : Str)) = false := by decide) (he : starEach (e :: es) X.env = (false, eval e X.env) :: starEach es X.env := by rfl) (hpl : (backTo cp (starEach es X.env)).any (·.1) = false := by rfl)
    (hi : X.N[i]? = some x := by rfl) (hx : Loc X.env.scope x := by first | exact Or.inl rfl | exact Or.inr rfl) (hs : swapsWith (.Call (.Name y p) (e :: es) [] cp) (some (.Name x pos')) pos.line X.env = pure false := by rfl) (hf : X.fn x = true ∨ X.env.scope.names.lookup x = some .local := by first | exact .inl rfl | exact .inr rfl | assumption) :
    PS X (.Assign [.Name x pos'] (.Call (.Name y p) (e :: es) [] cp) pos) (tS ⟨X.mg, W⟩ (dSetE i m k)) := by
  obtain ⟨f, fd, F, h1, h2, h3⟩ := F.ex
  refine PS.weak (ps_set (i := i) hN hi hx (pe_callS F hr hg h1 h2 h3 (fun σ => passAt tk σ) ha hdb he hpl) hs hf) fun Dd σ H ⟨A, ow, ρ, fl, ρ', E, hg, q⟩ => ?_
  unfold dSetE at hg
  split at hg
  · rename_i ds ρ1 hk
    split at hg
    · rename_i d hm
      split at hg
      · rename_i ρ2 h2
        cases hg
        exact callE_of (W := W) (fl := .nx) (Dd := Dd) E hk (.inl ⟨d, hm, fun v H' E' K' r => q _ H' _ (E'.setDat r h2) (K'.trans kpOff)⟩)
      · cases hg
    · rename_i c fs hm
      cases hg
      exact callE_of (W := W) (fl := .nx) (Dd := Dd) E hk (.inr ⟨c, fs, hm, q⟩)
    · cases hg
  · cases hg
/-- return f(..) -/
def dRetE (m : ME) (k : FA) : FS := fun ρ => match k ρ with
  | some (ds, ρ1) => (match m ds with
    | some (.ok d) => some (.rt d, ρ1)
    | some (.er c fs) => some (.ex c fs, ρ1)
    | none => none)
  | none => none
theorem s_retE (F : De X.prog X.w X.K X.mg X.base y kv ps m) (hr : Room kv X.A) (tk : Takes X W) (ha : PA X (e :: es) (tA k)) (hg : Gl X y := by rfl) (hdb : (y == ("__debug__" : Str)) = false := by decide) (he : starEach (e :: es) X.env = (false, eval e X.env) :: starEach es X.env := by rfl) (hpl : (backTo cp (starEach es X.env)).any (·.1) = false := by rfl) :
    PS X (.Return (some (.Call (.Name y p) (e :: es) [] cp)) pos) (tS ⟨X.mg, W⟩ (dRetE m k)) := by
  obtain ⟨f, fd, F, h1, h2, h3⟩ := F.ex
  refine PS.weak (ps_ret (pe_callS F hr hg h1 h2 h3 (fun σ => passAt tk σ) ha hdb he hpl)) fun Dd σ H ⟨A, ow, ρ, fl, ρ', E, hg, q⟩ => ?_
  unfold dRetE at hg
  split at hg
  · rename_i ds ρ1 hk
    split at hg
    · rename_i d hm
      cases hg
      exact callE_of (W := W) (fl := .nx) (Dd := Dd) E hk (.inl ⟨d, hm, fun v H' E' K' r => q v σ H' ow E' K' (r.mono (fun a o g z => ⟨g.1, z⟩) fun a xs z => z)⟩)
    · rename_i c fs hm
      cases hg
      exact callE_of (W := W) (fl := .nx) (Dd := Dd) E hk (.inr ⟨c, fs, hm, q⟩)
    · cases hg
  · cases hg
end

/-! ### errors caught -/
theorem PSs.of_ex {X : Cx} {st : List Stmt} {α : Sort _} {t : α → TS} (h : ∀ x, PSs X st (t x)) : PSs X st (fun D σ H => ∃ x, t x D σ H) := ⟨fun pins s σ H D I ⟨x, q⟩ => (h x).run pins s σ H D I q⟩
theorem PSs.of_and {X : Cx} {st : List Stmt} {p : Prop} {t : TS} (h : p → PSs X st t) : PSs X st (fun D σ H => p ∧ t D σ H) := ⟨fun pins s σ H D I ⟨x, q⟩ => (h x).run pins s σ H D I q⟩
theorem EnvR.un {A : An} {ow : Ow} {H : Hp} {σ : L2.St} {ρ : DE} (E : EnvR A ow H σ ρ) {i : Nat} (h : ρ[i]? = some .un) (x : Option V) : EnvR A ow H (σ.set i x) ρ where
  len := by rw [List.length_set]; exact E.len
  kp := E.kp
  dat := fun j d hj => by
    obtain ⟨v, h1, h2⟩ := E.dat j d hj
    have ne : i ≠ j := fun e => by subst e; rw [h] at hj; cases hj
    exact ⟨v, by rw [List.getElem?_set_ne ne]; exact h1, h2⟩
  own := fun j o hj => by
    obtain ⟨p, h1, h2, h3, h4⟩ := E.own j o hj
    have ne : i ≠ j := fun e => by subst e; rw [h] at hj; cases hj
    exact ⟨p, h1, by rw [List.getElem?_set_ne ne]; exact h2, h3, h4⟩
  bor := fun j o hj => by
    obtain ⟨p, h1, h2, h3, h4⟩ := E.bor j o hj
    have ne : i ≠ j := fun e => by subst e; rw [h] at hj; cases hj
    exact ⟨p, h1, by rw [List.getElem?_set_ne ne]; exact h2, h3, h4⟩
  inj := E.inj
  fr := E.fr
  there := E.there
  only := E.only
/-- the slot of the caught error: emptied -/
def unAt (i : Nat) (ρ : DE) : Option DE := match ρ[i]? with
  | some .un => some ρ
  | some (.dat _) => some (ρ.set i .un)
  | _ => none
theorem EnvR.unAt {A : An} {ow : Ow} {H : Hp} {σ : L2.St} {ρ ρ' : DE} (E : EnvR A ow H σ ρ) {i : Nat} (h : unAt i ρ = some ρ') (x : Option V) : EnvR A ow H (σ.set i x) ρ' := by
  unfold Dn.unAt at h
  split at h
  · rename_i e; cases h; exact E.un e x
  · rename_i d e; cases h
    have E1 := E.off (i := i) (v := V.non) (s := .un) (.inl rfl) ⟨_, e, fun o z => nomatch z⟩
    rw [E.offSame (by rw [e]; rfl)] at E1
    have hl : i < ρ.length := (List.getElem?_eq_some_iff.mp e).1
    have E2 := E1.un (i := i) (List.getElem?_set_self hl) x
    rw [List.set_set] at E2
    exact E2
  · cases h
/-- the fields of the error that is caught, at dx -/
def ExP (H : Hp) (dx : Option Addr) : Option (List (Str × D)) → Prop
  | none => dx = none
  | some fs => ∃ d vs, dx = some d ∧ H d = some (.xd vs) ∧ RepF (fun _ => False) H vs fs
/-- the suite's reading: the error at a in slot i -/
def tSu (Y : Xw) (i : Nat) (a : Addr) (dx : Option Addr) (fs : Option (List (Str × D))) (g : FS) : TS := fun D σ H => σ[i]? = some (some (.ref a)) ∧ ExP H dx fs ∧ tS Y g D σ H
theorem ss_suP {Y : Xw} {X : Cx} {st : List Stmt} {i : Nat} {a : Addr} {dx : Option Addr} {fs : Option (List (Str × D))} {g : FS} (h : PSs X st (tS Y g)) : PSs X st (tSu Y i a dx fs g) := PSs.weak h fun D σ H q => q.2.2
mutual
def plainF : List (Str × D) → Bool
  | [] => true
  | (_, d) :: r => pureD d && plainF r
end
theorem RepF.pure {G G' : Addr → Prop} {H : Hp} : ∀ {fs : List (Str × D)} {vs : List (Str × V)}, RepF G H vs fs → plainF fs = true → RepF G' H vs fs
  | [], _, r, _ => by cases r; exact .nil
  | (_, d) :: ds, _, r, h => by
    unfold plainF at h
    rw [Bool.and_eq_true] at h
    cases r with | cons ra rb => exact .cons (Rep.pure ra h.1) (RepF.pure rb h.2)
def plainX : Option (List (Str × D)) → Bool
  | none => true
  | some fs => plainF fs
/-- behind the suite the slot is empty again -/
def after (i : Nat) : Option (Fl × DE) → Option (Fl × DE)
  | some (.nx, ρ) => (match unAt i ρ with
    | some ρ' => some (.nx, ρ')
    | none => none)
  | some (.rt d, ρ) => some (.rt d, ρ)
  | _ => none
/-- try: b except S as x: hd; S catches the classes of ca -/
def dTryAs (i : Nat) (ca : Str → Option Bool) (b : FS) (hd : Str → Option (List (Str × D)) → FS) : FS := fun ρ => match b ρ with
  | some (.ex c fs, ρ1) => (match ca c with
    | some true => if plainX fs = true then (match unAt i ρ1 with
      | some ρ2 => after i (hd c fs ρ2)
      | none => none) else none
    | some false => some (.ex c fs, ρ1)
    | none => none)
  | some (.nx, ρ1) => some (.nx, ρ1)
  | some (.bk, ρ1) => some (.bk, ρ1)
  | some (.ct, ρ1) => some (.ct, ρ1)
  | some (.rt d, ρ1) => some (.rt d, ρ1)
  | none => none
def dTryOnly (ca : Str → Option Bool) (b : FS) (hd : Str → Option (List (Str × D)) → FS) : FS := fun ρ => match b ρ with
  | some (.ex c fs, ρ1) => (match ca c with
    | some true => (match hd c fs ρ1 with
      | some (.ex _ _, _) => none
      | r => r)
    | some false => some (.ex c fs, ρ1)
    | none => none)
  | some (.nx, ρ1) => some (.nx, ρ1)
  | some (.bk, ρ1) => some (.bk, ρ1)
  | some (.ct, ρ1) => some (.ct, ρ1)
  | some (.rt d, ρ1) => some (.rt d, ρ1)
  | none => none
/-- what the clause's class catches -/
def Catch (K : PySem.W.Frag) (mg : Str → Option Value) (S : Value) (ca : Str → Option Bool) : Prop := ∀ c C b, mg c = some (.ref C) → ca c = some b → PySem.W.exmOne K (.ref C) S = some b
def caL (l : List (Str × Bool)) : Str → Option Bool := fun c => l.lookup c
theorem caL_of {l : List (Str × Bool)} {c : Str} {b : Bool} (h : caL l c = some b) : (c, b) ∈ l := by
  unfold caL at h
  induction l with
  | nil => cases h
  | cons p r ih =>
    obtain ⟨k, v⟩ := p
    rw [List.lookup_cons] at h
    cases q : c == k with
    | true => rw [q] at h; cases h; rw [beq_iff_eq] at q; subst q; exact List.mem_cons_self
    | false => rw [q] at h; exact List.mem_cons_of_mem _ (ih h)
theorem Catch.of {K : PySem.W.Frag} {mg : Str → Option Value} {S : Value} {l : List (Str × Bool)} (h : ∀ p ∈ l, ∀ C, mg p.1 = some (.ref C) → PySem.W.exmOne K (.ref C) S = some p.2) : Catch K mg S (caL l) := fun c C b hC hb => h (c, b) (caL_of hb) C hC
section
variable {W : WX} {X : Cx} {x n : Str} {S : Value} {body suite : List Stmt} {b₀ : Stmt} {np pos pos' : Pos} {b : FS} {hd : Str → Option (List (Str × D)) → FS} {ca : Str → Option Bool}
theorem s_tryAs (i : Nat) (hN : X.N.Nodup) (hc : Names X x S) (tk : Takes X W) (hca : Catch X.K X.mg S ca)
    (hb : ∀ (W : WX) (pn : List (Addr × Obj)) (xe : Value → Shared → Prop), Takes (X.tr pn xe) W → PassesOwn (model X.prog X.w) X.A X.env xe → PSs (X.tr pn xe) body (tS ⟨X.mg, W⟩ b))
    (hsu : ∀ (a : Addr) (oe : Obj) (dx : Option Addr) (pn : List (Addr × Obj)) (c : Str) (C : Addr) (fs : Option (List (Str × D))), X.mg c = some (.ref C) → ca c = some true → Zc (.ref C) dx oe → (∃ vs, oe.data = .fields vs) → (fs = none → dx = none) → PSs (X.suite a ((a, oe) :: pn)) (b₀ :: suite) (tSu (Y0 X.mg) i a dx fs (hd c fs)))
    (hs : X.stack = X.env :: X.outer := by rfl) (hf : X.env.frame = some X.env.locals := by rfl) (hi : X.N[i]? = some n := by rfl) (hln : X.env.kindOf n = some .local := by rfl) :
    PS X (.Try body [.ExceptHandler (some (.Name x np)) (some n) (b₀ :: suite) pos'] [] [] pos) (tS ⟨X.mg, W⟩ (dTryAs i ca b hd)) := by
  refine PS.weak (ps_try_as (i := i) (tb := fun W => tS ⟨X.mg, W⟩ b) (ts := fun a cls d => fun D σ H => ∃ c C fs, (cls = .ref C ∧ X.mg c = some (.ref C) ∧ ca c = some true ∧ (fs = none → d = none)) ∧ tSu (Y0 X.mg) i a d fs (hd c fs) D σ H) (Wout := W) hs hf hN hi hln hc tk hb fun a oe cls d pn hz hfl =>
    PSs.of_ex fun c => PSs.of_ex fun C => PSs.of_ex fun fs => PSs.of_and fun ⟨e1, e2, e3, e4⟩ => ?_) fun Dd σ H ⟨A, ow, ρ, fl, ρ', E, hg, q⟩ => ?_
  · subst e1
    exact hsu a oe d pn c C fs e2 e3 hz hfl e4
  · unfold dTryAs at hg
    split at hg
    · rename_i c fs ρ1 h1
      refine ⟨A, ow, ρ, .ex c fs, ρ1, E, h1, fun C dx σ1 H1 ow1 mC E1 K1 ex => ?_⟩
      split at hg
      · rename_i hcc
        split at hg
        · rename_i hpl
          split at hg
          · rename_i ρ2 h2
            refine ⟨true, hca c C true mC hcc, fun _ a ha => ?_, fun z => nomatch z⟩
            refine ⟨c, C, fs, ⟨rfl, mC, hcc, fun e => by subst e; exact ex⟩, ?_, ?_, ?_⟩
            · have hl : i < σ1.length := by
                rw [E1.len]
                unfold unAt at h2
                split at h2
                · rename_i e; exact (List.getElem?_eq_some_iff.mp e).1
                · rename_i e; exact (List.getElem?_eq_some_iff.mp e).1
                · cases h2
              exact List.getElem?_set_self hl
            · cases fs with
              | none => exact ex
              | some fs =>
                obtain ⟨d, vs, g1, g2, g3, g4⟩ := ex
                exact ⟨d, vs, g1, g2, g4.pure hpl⟩
            · cases hr : hd c fs ρ2 with
              | none => rw [hr] at hg; cases hg
              | some r =>
                obtain ⟨fl2, ρ3⟩ := r
                rw [hr] at hg
                refine ⟨A, ow1, ρ2, fl2, ρ3, E1.unAt h2 _, hr, ?_⟩
                cases fl2 with
                | nx =>
                  have hg : (match unAt i ρ3 with
                    | some ρ' => some (Fl.nx, ρ')
                    | none => none) = some (fl, ρ') := hg
                  split at hg
                  · rename_i ρ5 h5
                    cases hg
                    exact fun σ' H' ow' E' K' => q _ H' ow' (E'.unAt h5 none) (K1.trans K')
                  · cases hg
                | bk => cases hg
                | ct => cases hg
                | rt d =>
                  cases hg
                  exact fun v σ' H' ow' E' K' r' => q v σ' H' ow' E' (K1.trans K') r'
                | ex c2 fs2 => cases hg
          · cases hg
        · cases hg
      · rename_i hcc
        cases hg
        exact ⟨false, hca c C false mC hcc, fun z => absurd z (by decide), fun _ => q C dx σ1 H1 ow1 mC E1 K1 ex⟩
      · cases hg
    · rename_i ρ1 h1; cases hg; exact ⟨A, ow, ρ, .nx, ρ', E, h1, q⟩
    · rename_i ρ1 h1; cases hg; exact ⟨A, ow, ρ, .bk, ρ', E, h1, q⟩
    · rename_i ρ1 h1; cases hg; exact ⟨A, ow, ρ, .ct, ρ', E, h1, q⟩
    · rename_i d ρ1 h1; cases hg; exact ⟨A, ow, ρ, .rt d, ρ', E, h1, q⟩
    · cases hg
theorem s_tryOnly (hc : Names X x S) (tk : Takes X W) (hca : Catch X.K X.mg S ca)
    (hb : ∀ (W : WX) (pn : List (Addr × Obj)) (xe : Value → Shared → Prop), Takes (X.tr pn xe) W → PassesOwn (model X.prog X.w) X.A X.env xe → PSs (X.tr pn xe) body (tS ⟨X.mg, W⟩ b))
    (hsu : ∀ (a : Addr) (oe : Obj) (pn : List (Addr × Obj)) (c : Str) (fs : Option (List (Str × D))), ca c = some true → PSs (X.suite a ((a, oe) :: pn)) (b₀ :: suite) (tS (Y0 X.mg) (hd c fs)))
    (hs : X.stack = X.env :: X.outer := by rfl) (hf : X.env.frame = some X.env.locals := by rfl) :
    PS X (.Try body [.ExceptHandler (some (.Name x np)) none (b₀ :: suite) pos'] [] [] pos) (tS ⟨X.mg, W⟩ (dTryOnly ca b hd)) := by
  refine PS.weak (ps_try_only (tb := fun W => tS ⟨X.mg, W⟩ b) (ts := fun a cls d => fun D σ H => ∃ c C fs, (cls = .ref C ∧ X.mg c = some (.ref C) ∧ ca c = some true) ∧ tS (Y0 X.mg) (hd c fs) D σ H) (Wout := W) hs hf hc tk hb fun a oe cls d pn hz hfl =>
    PSs.of_ex fun c => PSs.of_ex fun C => PSs.of_ex fun fs => PSs.of_and fun ⟨e1, e2, e3⟩ => ?_) fun Dd σ H ⟨A, ow, ρ, fl, ρ', E, hg, q⟩ => ?_
  · exact hsu a oe pn c fs e3
  · unfold dTryOnly at hg
    split at hg
    · rename_i c fs ρ1 h1
      refine ⟨A, ow, ρ, .ex c fs, ρ1, E, h1, fun C dx σ1 H1 ow1 mC E1 K1 ex => ?_⟩
      split at hg
      · rename_i hcc
        refine ⟨true, hca c C true mC hcc, fun _ a ha => ⟨c, C, fs, ⟨rfl, mC, hcc⟩, ?_⟩, fun z => nomatch z⟩
        cases hr : hd c fs ρ1 with
        | none => rw [hr] at hg; cases hg
        | some r =>
          obtain ⟨fl2, ρ3⟩ := r
          rw [hr] at hg
          refine ⟨A, ow1, ρ1, fl2, ρ3, E1, hr, ?_⟩
          cases fl2 with
          | nx => cases hg; exact fun σ' H' ow' E' K' => q σ' H' ow' E' (K1.trans K')
          | bk => cases hg; exact fun σ' H' ow' E' K' => q σ' H' ow' E' (K1.trans K')
          | ct => cases hg; exact fun σ' H' ow' E' K' => q σ' H' ow' E' (K1.trans K')
          | rt d => cases hg; exact fun v σ' H' ow' E' K' r' => q v σ' H' ow' E' (K1.trans K') r'
          | ex c2 fs2 => cases hg
      · rename_i hcc
        cases hg
        exact ⟨false, hca c C false mC hcc, fun z => absurd z (by decide), fun _ => q C dx σ1 H1 ow1 mC E1 K1 ex⟩
      · cases hg
    · rename_i ρ1 h1; cases hg; exact ⟨A, ow, ρ, .nx, ρ', E, h1, q⟩
    · rename_i ρ1 h1; cases hg; exact ⟨A, ow, ρ, .bk, ρ', E, h1, q⟩
    · rename_i ρ1 h1; cases hg; exact ⟨A, ow, ρ, .ct, ρ', E, h1, q⟩
    · rename_i d ρ1 h1; cases hg; exact ⟨A, ow, ρ, .rt d, ρ', E, h1, q⟩
    · cases hg
end

/-! ### within the suite -/
def tH (i : Nat) (a : Addr) (dx : Option Addr) (fs : Option (List (Str × D))) (f : FE) : TE := fun σ H Q => σ[i]? = some (some (.ref a)) ∧ ExP H dx fs ∧ tE f σ H Q
def tHA (i : Nat) (a : Addr) (dx : Option Addr) (fs : Option (List (Str × D))) (k : FA) : TA := fun σ H Q => σ[i]? = some (some (.ref a)) ∧ ExP H dx fs ∧ tA k σ H Q
theorem ExP.keep {A : An} {ow : Ow} {H H' : Hp} {σ : L2.St} {ρ : DE} {dx : Option Addr} {fs : Option (List (Str × D))} (E : EnvR A ow H σ ρ) (k : Kp ow H ow H') (h : ExP H dx fs) : ExP H' dx fs := by
  cases fs with
  | none => exact h
  | some fs =>
    obtain ⟨d, vs, h1, h2, h3⟩ := h
    have nd : NOw ow d := fun i e => by
      obtain ⟨o, z | z⟩ := E.only i d e
      · obtain ⟨p, g1, _, g3, _⟩ := E.own i o z
        rw [e] at g1; cases g1
        cases o with
        | lst ds => obtain ⟨xs, g4, _⟩ := g3; rw [h2] at g4; cases g4
        | dk ds => obtain ⟨xs, g4, _⟩ := g3; rw [h2] at g4; cases g4
      · obtain ⟨p, g1, _, g3, _⟩ := E.bor i o z
        rw [e] at g1; cases g1
        cases o with
        | lst ds => obtain ⟨xs, g4, _⟩ := g3; rw [h2] at g4; cases g4
        | dk ds => obtain ⟨xs, g4, _⟩ := g3; rw [h2] at g4; cases g4
    exact ⟨d, vs, h1, (k.keep d _ h2 nd).1, h3.mono (fun a o g _ => g.elim) fun a xs q => (k.keep a _ q (E.nowTup q)).1⟩
/-- what isinstance(e, T) says of a caught c -/
structure IsE (K : PySem.W.Frag) (mg : Str → Option Value) (c T : Str) (b : Bool) : Prop where
  h : ∀ C, mg c = some (.ref C) → ∃ cv v, RelV v cv ∧ (∀ u, RelV v u → u = cv) ∧ (mg T = some cv ∨ (mg T = none ∧ bootBuiltins T = some cv)) ∧ PySem.W.kitOne K (.ref C) cv = some b
section
variable {X : Cx} {a : Addr} {oe : Obj} {pn : List (Addr × Obj)} {i : Nat} {dx : Option Addr} {fs : Option (List (Str × D))} {e : Expr} {es : List Expr} {f : FE} {k : FA} {pos p p1 p2 : Pos}
theorem h_plain (h : PE X e (tE f)) : PE X e (tH i a dx fs f) := PE.weak h fun σ H Q q => q.2.2
theorem hA_nil : PA X [] (tHA i a dx fs dNil) := PA.weak a_nil fun σ H Q q => q.2.2
theorem hA_cons (ha : PE X e (tH i a dx fs f)) (hr : PA X es (tHA i a dx fs k)) (hs : starEach (e :: es) X.env = (false, eval e X.env) :: starEach es X.env := by rfl) : PA X (e :: es) (tHA i a dx fs (dCons f k)) := by
  refine PA.weak (pa_cons ha hr hs) ?_
  rintro σ H Q ⟨hi, hx, A, ow, ρ, d, ρ', E, hf, q⟩
  unfold dCons at hf
  split at hf
  · rename_i d1 ρ1 h1
    split at hf
    · rename_i ds ρ2 h2
      cases hf
      exact ⟨hi, hx, A, ow, ρ, d1, ρ1, E, h1, fun v H1 E1 K1 r1 => ⟨hi, hx.keep E K1, A, ow, ρ1, ds, ρ', E1, h2, fun vs H2 E2 K2 r2 => q _ H2 E2 (K1.trans K2) (.cons (E1.move K2 r1) r2)⟩⟩
    · cases hf
  · cases hf
theorem h_lst (h : PA X es (tHA i a dx fs k)) : PE X (.List es pos) (tH i a dx fs (dLst k)) := PE.weak (pe_lst h) fun σ H Q ⟨hi, hx, A, ow, ρ, d, ρ', E, hf, q⟩ => by
  unfold dLst at hf
  split at hf
  · rename_i ds ρ1 h1
    split at hf
    · rename_i hl
      cases hf
      refine ⟨hi, hx, A, ow, ρ, ds, ρ', E, h1, fun vs H1 E1 K1 r1 => ⟨by rw [r1.length]; exact lim_le hl, fun p hp => ?_⟩⟩
      exact q _ _ (E1.same (Same.new hp)) (K1.trans (Kp.same (Same.new hp))) (.lst (E1.fresh hp) upd_same (E1.moveL (Kp.same (Same.new hp)) r1))
    · cases hf
  · cases hf
/-- isinstance(e, T), e the caught error, of a class without fields -/
theorem h_isi {c T n : Str} {b : Bool} {C : Addr} (hC : X.mg c = some (.ref C)) (hz : Zc (.ref C) none oe) (hf : ∃ vs, oe.data = .fields vs) (EC : ExcC X.K C) (T1 : IsE X.K X.mg c T b) (hm : X.mg "isinstance" = none)
    (hN : X.N[i]? = some n := by rfl) (hv : Vis X.env.scope n := by first | exact Or.inl rfl | exact Or.inr (Or.inl rfl) | exact Or.inr (Or.inr rfl)) (hd : (n == ("__debug__" : Str)) = false := by decide) (hcd : (n == ("__classdict__" : Str)) = false := by decide)
    (hg : Gl X "isinstance" := by rfl) (hgT : Gl X T := by rfl) (hn : T ≠ "__name__" := by decide) (hdT : (T == ("__debug__" : Str)) = false := by decide)
    (hbi : bootBuiltins ("isinstance" : Str) = some (.builtin "isinstance") := by decide +kernel)
    (hs : starEach [.Name n p1, .Name T p2] X.env = (false, eval (.Name n p1) X.env) :: starEach [.Name T p2] X.env := by rfl) (hs1 : starEach [.Name T p2] X.env = (false, eval (.Name T p2) X.env) :: starEach [] X.env := by rfl) (hpl : (backTo pos (starEach [.Name T p2] X.env)).any (·.1) = false := by rfl) :
    PE (X.suite a ((a, oe) :: pn)) (.Call (.Name "isinstance" p) [.Name n p1, .Name T p2] [] pos) (tH i a dx fs (dC (.bl b))) := by
  obtain ⟨cv, v, rv, ru, hcv, hk⟩ := T1.h C hC
  have pT : PE (X.suite a ((a, oe) :: pn)) (.Name T p2) (tC v) := by
    rcases hcv with h | ⟨h1, h2⟩
    · exact pe_glob (X := X.suite a ((a, oe) :: pn)) hgT h rv hdT
    · exact pe_bltn (X := X.suite a ((a, oe) :: pn)) hgT h1 h2 rv hn hdT
  refine PE.weak (pe_callB (X := X.suite a ((a, oe) :: pn)) (call_isE EC hz hf) hg hm hbi (pa_cons (pe_var (X := X.suite a ((a, oe) :: pn)) (i := i) hN hv hd hcd) (pa_cons pT pa_nil hs1) hs) (by decide) (by decide) hs hpl) fun σ H Q ⟨hi, hx, A, ow, ρ, d, ρ', E, hf, q⟩ => ?_
  cases hf
  exact ⟨.ref a, hi, v, cv, b, rfl, ru, hk, q _ H E (Kp.refl _ _) (.bl b)⟩
/-- x = e within the suite -/
theorem sH_set {Y : Xw} (j : Nat) {x : Str} {pos' : Pos} (hN : X.N.Nodup) (he : PE X e (tH i a dx fs f)) (hi : X.N[j]? = some x := by rfl) (hx : Loc X.env.scope x := by first | exact Or.inl rfl | exact Or.inr rfl) (hs : swapsWith e (some (.Name x pos')) pos.line X.env = pure false := by rfl) (hf : X.fn x = true ∨ X.env.scope.names.lookup x = some .local := by first | exact .inl rfl | exact .inr rfl | assumption) :
    PS X (.Assign [.Name x pos'] e pos) (tSu Y i a dx fs (dAsg j f)) := PS.weak (ps_set (i := j) hN hi hx he hs hf) fun D σ H ⟨hia, hxa, A, ow, ρ, fl, ρ', E, hg, q⟩ => by
  unfold dAsg at hg
  split at hg
  · rename_i d ρ1 h1
    split at hg
    · rename_i ρ2 h2
      cases hg
      exact ⟨hia, hxa, A, ow, ρ, d, ρ1, E, h1, fun v H' E' K' r => q _ H' _ (E'.setDat r h2) (K'.trans kpOff)⟩
    · cases hg
  · cases hg
theorem ssu_one {Y : Xw} {st : Stmt} {g : FS} (h : PS X st (tSu Y i a dx fs g)) : PSs X [st] (tSu Y i a dx fs g) := pss_one h
end
end Dn

set_option Elab.async false
set_option linter.all false
set_option maxRecDepth 100000
/-! The script that is handed in; what the head says of classes. -/
namespace Dn
open PySem PySem.Spec PyProof.Rows L2

/-! ### the script: a list that stands frozen -/
theorem Rep.frlSq {G : Addr → Prop} {H : Hp} {v : V} {K : PySem.W.Frag} {ns : List Int} (r : Rep G H v (.frl K ns)) : ∃ a, v = .ref a ∧ SqL K H a (ns.map V.int) := by
  cases r with
  | frl h =>
    rcases h with ⟨g, o, e⟩ | h
    · exact ⟨_, rfl, .inl (.inr ⟨o, e⟩)⟩
    · exact ⟨_, rfl, .inr h⟩
open Classical in
noncomputable def dListF (K : PySem.W.Frag) : List D → Option D
  | [.frl K' ns] => if K' = K then some (.lst (ns.map D.int)) else none
  | _ => none
theorem dd_listF {K : PySem.W.Frag} : CallD (fun xs H Q => ∃ p ys, xs = [.ref p] ∧ (SqL K H p ys ∨ SqT K H p ys) ∧ ∀ l, H l = none → Q (.ref l) (upd H l (.lst ys))) (dListF K) := by
  intro G H vs ds d Q r h q
  unfold dListF at h
  split at h
  · split at h
    · rename_i e
      subst e
      cases h
      cases r with
      | cons ra rb =>
        cases rb
        obtain ⟨a, rfl, hs⟩ := ra.frlSq
        exact ⟨a, _, rfl, .inl hs, fun p hp => newL q (RepL.ofInts _) hp⟩
    · cases h
  · cases h
open Classical in
noncomputable def dSlF (K : PySem.W.Frag) (f : FE) (g h : FO) : FE := fun ρ => match f ρ with
  | some (.frl K' ns, ρ1) => if K' = K then (match g ρ1 with
    | some (lo, ρ2) => (match h ρ2 with
      | some (hi, ρ3) => some (.lst (cutD (ns.map D.int) lo hi), ρ3)
      | none => none)
    | none => none) else none
  | _ => none
theorem e_sliceF {X : Cx} {e : Expr} {lo hi : Option Expr} {f : FE} {g h : FO} {pos p2 : Pos} (he : PE X e (tE f)) (hl : PO X lo (tO g)) (hu : PO X hi (tO h)) : PE X (.Subscript e (.Slice lo hi none p2) pos) (tE (dSlF X.K f g h)) :=
  PE.weak (pe_slice sl_list he hl hu) fun σ H Q ⟨A, ow, ρ, d, ρ', E, hf, q⟩ => by
  unfold dSlF at hf
  split at hf
  · rename_i K' ns ρ1 h1
    split at hf
    · rename_i eK
      subst eK
      split at hf
      · rename_i l ρ2 h2
        split at hf
        · rename_i u ρ3 h3
          cases hf
          refine ⟨A, ow, ρ, _, ρ1, E, h1, fun v H1 E1 K1 r1 => ⟨A, ow, ρ1, l, ρ2, E1, h2, fun H2 E2 K2 => ⟨A, ow, ρ2, u, ρ', E2, h3, fun H3 E3 K3 => ?_⟩⟩⟩
          obtain ⟨a, rfl, hs⟩ := (E2.move K3 (E1.move K2 r1)).frlSq
          exact ⟨a, _, rfl, hs, fun p hp => q _ _ (E3.same (Same.new hp)) (((K1.trans K2).trans K3).trans (Kp.same (Same.new hp))) (.lst (E3.fresh hp) upd_same (E3.moveL (Kp.same (Same.new hp)) (cut_rep (RepL.ofInts ns))))⟩
        · cases hf
      · cases hf
    · cases hf
  · cases hf

/-! ### the head -/
theorem FunD.toFun {K : PySem.W.Frag} {x : Str} {st : Stmt} {f : Addr} {fd : FuncData} (F : FunD K x x (defArgs st) (defBody st) (defScope st) [] [] f fd) : Fun K x x st f fd := by
  obtain ⟨oc, od, dV, kV, doc, pm, an, cdv, ct, osl, h1, h2, h3, h4, h5⟩ := F.ex
  rcases h4 with ⟨_, rfl⟩ | ⟨h, _⟩
  · exact ⟨⟨oc, od, kV, doc, pm, an, cdv, ct, osl, h1, h2, h3⟩, F.kp⟩
  · exact absurd rfl h
abbrev defD (x : Str) (st : Stmt) : He.DefD := ⟨(x, none), x, x, defArgs st, defBody st, defScope st, [], []⟩
def obsX (fa : List He.Fa) (fn : List He.DefD) (xs : PySem.W.Frag → Bool) (K : PySem.W.Frag) : He.AlD × Bool := (He.obsD fa fn K, xs K)
def obsXG (n : Nat) (fa : List He.Fa) (fn : List He.DefD) (xs : PySem.W.Frag → Bool) (g : Addr → Option Obj) : He.AlD × Bool := obsX fa fn xs (He.frG g (He.asD g n))
def hookX (n : Nat) (fa : List He.Fa) (fn : List He.DefD) (xs : PySem.W.Frag → Bool) : PySem.W.Hook where
  α := He.AlD × Bool
  obs := fun s => obsXG n fa fn xs s.heap.get?
  val := fun _ => (He.valD fn, true)
  says := fun _ h => ∃ K : PySem.W.Frag, K.In h ∧ He.SaysD fa fn K ∧ xs K = true
  of := fun _ _ e => ⟨_, He.frG_in, congrArg (fun z : He.AlD × Bool => z.1) e, congrArg (fun z : He.AlD × Bool => z.2) e⟩
  keeps := fun _ _ _ ⟨K, hK, c⟩ k => ⟨K, PySem.W.Frag.In.keeps hK k, c⟩
theorem obsXG_eq {n : Nat} {fa : List He.Fa} {fn : List He.DefD} {xs : PySem.W.Frag → Bool} {g : Addr → Option Obj} {s : Shared} (h : ∀ a, g a = s.heap.get? a) : obsXG n fa fn xs g = (hookX n fa fn xs).obs s := by
  have e : g = s.heap.get? := funext h
  rw [e] <;> rfl
/-- what isinstance asks of a class of errors -/
def xC (c : Str) (K : PySem.W.Frag) : Bool :=
  He.eqO (PySem.W.findIn K (.ref (He.ga K c)) "__getattribute__") (some (some (.builtin "BaseException.__getattribute__"))) &&
  (He.eqO (PySem.W.findIn K (.ref (He.ga K c)) "__getattr__") (some none) &&
  (decide (PySem.W.subIn K (.ref (He.ga K c)) (.type "BaseException") = some true) &&
  (PySem.W.hasDictIn K (He.ga K c) &&
  (He.eqO (PySem.W.findIn K (.ref (He.ga K c)) "__class__") (some (some (.builtin "object.__class__"))) &&
  (He.eqO (PySem.W.specialIn K (.builtin "object.__class__") "__get__") (some (some (.builtin "getset_descriptor.__get__"))) &&
  (decide (PySem.W.takesIn K (.builtin "object.__class__") = some true) &&
  decide (PySem.W.mroIn K (He.ga K c) (.type "object") = some true)))))))
def xI (c T : Str) (b : Bool) (K : PySem.W.Frag) : Bool := decide (PySem.W.kitOne K (.ref (He.ga K c)) (.ref (He.ga K T)) = some b)
def xT (c : Str) (T : String) (b : Bool) (K : PySem.W.Frag) : Bool := decide (PySem.W.kitOne K (.ref (He.ga K c)) (.type T) = some b)
section
variable {K : PySem.W.Frag} {h : Heap} {mg : Str → Option Value}
theorem xC_ok {c : Str} (e : xC c K = true) : ExcC K (He.ga K c) := by
  unfold xC at e
  obtain ⟨e1, e⟩ := He.ba e
  obtain ⟨e2, e⟩ := He.ba e
  obtain ⟨e3, e⟩ := He.ba e
  obtain ⟨e4, e⟩ := He.ba e
  obtain ⟨e5, e⟩ := He.ba e
  obtain ⟨e6, e⟩ := He.ba e
  obtain ⟨e7, e8⟩ := He.ba e
  exact ⟨He.eqO_ok e1, He.eqO_ok e2, of_decide_eq_true e3, e4, He.eqO_ok e5, He.eqO_ok e6, of_decide_eq_true e7, of_decide_eq_true e8⟩
theorem errC_of (X : K.In h) (G : h.Ns mainGlobals mg) {c : Str} (a : (He.Fa.glo c).ok K = true) (b : (He.Fa.exc c).ok K = true) : ErrC K mg c := by
  obtain ⟨h1, h2, h3, h4⟩ := He.exc_ok b
  exact ⟨_, He.glo_ok X G a, h2, h1, h3, h4⟩
theorem excC_of (X : K.In h) (G : h.Ns mainGlobals mg) {c : Str} (a : (He.Fa.glo c).ok K = true) (e : xC c K = true) : ∀ C, mg c = some (.ref C) → ExcC K C := fun C hC => by
  rw [He.glo_ok X G a] at hC
  cases hC
  exact xC_ok e
theorem isE_own (X : K.In h) (G : h.Ns mainGlobals mg) {c T : Str} {b : Bool} (a : (He.Fa.glo c).ok K = true) (t : (He.Fa.glo T).ok K = true) (e : xI c T b K = true) : IsE K mg c T b := ⟨fun C hC => by
  rw [He.glo_ok X G a] at hC
  cases hC
  exact ⟨.ref (He.ga K T), .ref (He.ga K T), rfl, fun u r => r, .inl (He.glo_ok X G t), of_decide_eq_true e⟩⟩
theorem isE_ty (X : K.In h) (G : h.Ns mainGlobals mg) {c T : Str} {Ts : String} {b : Bool} (a : (He.Fa.glo c).ok K = true) (t : (He.Fa.free T).ok K = true) (hv : bootBuiltins T = some (.type Ts)) (e : xT c Ts b K = true) : IsE K mg c T b := ⟨fun C hC => by
  rw [He.glo_ok X G a] at hC
  cases hC
  exact ⟨.type Ts, .ty Ts, rfl, fun u r => r, .inr ⟨He.free_ok X G t, hv⟩, of_decide_eq_true e⟩⟩
theorem catch1 (X : K.In h) (G : h.Ns mainGlobals mg) {S : Str} {l : List (Str × Bool)} (s : (He.Fa.glo S).ok K = true) (a : ∀ p ∈ l, (He.Fa.glo p.1).ok K = true ∧ (He.Fa.exm p.1 S p.2).ok K = true) :
    ∃ Sa, mg S = some (.ref Sa) ∧ Catch K mg (.ref Sa) (caL l) := ⟨_, He.glo_ok X G s, Catch.of fun p hp C hC => by
  obtain ⟨h1, h2⟩ := a p hp
  rw [He.glo_ok X G h1] at hC
  cases hC
  exact He.exm_ok h2⟩
theorem at_of (X : K.In h) (G : h.Ns mainGlobals mg) {fa : List He.Fa} {fn : List He.DefD} (c : He.SaysD fa fn K) (i j : Nat) {x : Str} {st : Stmt} (h1 : fn[i]? = some (defD x st)) (h2 : fa[j]? = some (.glo x)) : At K mg x st := by
  obtain ⟨fd, F⟩ := c.def_ i h1
  exact ⟨_, fd, FunD.toFun F, He.glo_ok X G (c.fact j h2)⟩
end
/-- how the law's own argument binds, in every heap -/
theorem Fun.bindsTo {K : PySem.W.Frag} {x qual : Str} {st : Stmt} {f : Addr} {fd : FuncData} {ps : List Str} (F : Fun K x qual st f fd)
    (h : ∀ (kV doc pm : Value) (an : Option Addr) (cdv ct : Value) (us : List Value), us.length = ps.length → bindArgs (PySem.W.fnOf x qual (defArgs st) (defBody st) (defScope st) .none kV doc pm an cdv ct) ⟨us, []⟩ = pure (ps.zip us)) (s : Shared) (us : List Value) (hl : us.length = ps.length) : BindsTo s fd ⟨us, []⟩ (ps.zip us) := by
  obtain ⟨oc, od, kV, doc, pm, an, cdv, ct, osl, rfl, lk, hcd⟩ := F.ex
  exact .of_eq (h kV doc pm an cdv ct us hl)
/-- what the law's call asks: the pure word -/
theorem law_sp {K : PySem.W.Frag} {m : List D → Option D} {H : Hp} {a : Addr} {ns : List Int} (hO : Only H) (hS : SqL K H a (ns.map V.int)) (hm : m [.frl K ns] = some (.bl true)) : spD m [.ref a] H (fun v _ => v = .bl true) (fun _ _ _ => False) := by
  refine ⟨fun _ => True, [.frl K ns], .bl true, .cons (.frl ?_) .nil, hm, fun v H' _ r => ?_⟩
  · rcases hS with (h | ⟨o, h⟩) | h
    · rcases hO a with z | ⟨o, xs, z⟩ <;> rw [z] at h <;> cases h
    · exact .inl ⟨trivial, o, h⟩
    · exact .inr h
  · cases r
    rfl
end Dn

set_option Elab.async false
set_option linter.all false
set_option maxRecDepth 100000
/-! Own lists made by calls and operators: list(x), xs + ys, xs * n, xs[a:b]. -/
namespace Dn
open PySem PySem.Spec PyProof.Rows L2

abbrev FL := DE → Option (List D × DE)
/-- a reading whose answer is a list that nobody else holds -/
def tF (f : FL) : TE := fun σ H Q => ∃ A ow ρ st ρ', EnvR A ow H σ ρ ∧ f ρ = some (st, ρ') ∧ ∀ p xs H1, EnvR A ow H1 σ ρ' → Kp ow H ow H1 → H1 p = none → RepL (Fz A ow) H1 xs st → Q (.ref p) (upd H1 p (.lst xs))
def OpF (r : R2) (op : D → D → Option (List D)) : Prop := ∀ (G : Addr → Prop) (H : Hp) (x y : V) (dx dy : D) (st : List D) (Q : VK), Rep G H x dx → Rep G H y dy → op dx dy = some st → (∀ p xs, H p = none → RepL G H xs st → Q (.ref p) (upd H p (.lst xs))) → r x y H Q
def CallF (r : List V → Hp → VK → Prop) (op : List D → Option (List D)) : Prop := ∀ (G : Addr → Prop) (H : Hp) (vs : List V) (ds st : List D) (Q : VK), RepL G H vs ds → op ds = some st → (∀ p xs, H p = none → RepL G H xs st → Q (.ref p) (upd H p (.lst xs))) → r vs H Q
def fOp (op : D → D → Option (List D)) (f g : FE) : FL := fun ρ => match f ρ with
  | some (x, ρ1) => (match g ρ1 with
    | some (y, ρ2) => (match op x y with
      | some st => some (st, ρ2)
      | none => none)
    | none => none)
  | none => none
def fCall (op : List D → Option (List D)) (k : FA) : FL := fun ρ => match k ρ with
  | some (ds, ρ1) => (match op ds with
    | some st => some (st, ρ1)
    | none => none)
  | none => none
section
variable {Y : Xw} {X : Cx} {e a b : Expr} {es : List Expr} {f g : FE} {k : FA} {pos p : Pos} {x : Str}
theorem f_op {o : Operator} {r : R2} {op : D → D → Option (List D)} (ho : OpR X (binaryOp o) r) (h : OpF r op) (ha : PE X a (tE f)) (hb : PE X b (tE g)) : PE X (.BinOp a o b pos) (tF (fOp op f g)) := PE.weak (pe_op ho ha hb) fun σ H Q ⟨A, ow, ρ, st, ρ', E, hf, q⟩ => by
  unfold fOp at hf
  split at hf
  · rename_i d1 ρ1 h1
    split at hf
    · rename_i d2 ρ2 h2
      split at hf
      · rename_i d3 h3
        cases hf
        refine ⟨A, ow, ρ, d1, ρ1, E, h1, fun v H1 E1 K1 r1 => ⟨A, ow, ρ1, d2, ρ', E1, h2, fun w H2 E2 K2 r2 => ?_⟩⟩
        exact h _ H2 v w d1 d2 st Q (E1.move K2 r1) r2 h3 fun p xs hp rx => q p xs H2 E2 (K1.trans K2) hp rx
      · cases hf
    · cases hf
  · cases hf
theorem f_callTy {T : String} {r : List V → Hp → VK → Prop} {op : List D → Option (List D)} (hc : CallR X (.type T) r) (h : CallF r op) (hm : X.mg x = none) (hv : bootBuiltins x = some (.type T)) (ha : PA X (e :: es) (tA k)) (hg : Gl X x := by rfl) (hn : x ≠ "__name__" := by decide) (hdb : (x == ("__debug__" : Str)) = false := by decide)
    (he : starEach (e :: es) X.env = (false, eval e X.env) :: starEach es X.env := by rfl) (hpl : (backTo pos (starEach es X.env)).any (·.1) = false := by rfl) : PE X (.Call (.Name x p) (e :: es) [] pos) (tF (fCall op k)) :=
  PE.weak (pe_callTy hc hg hm hv ha hn hdb he hpl) fun σ H Q ⟨A, ow, ρ, st, ρ', E, hf, q⟩ => by
  unfold fCall at hf
  split at hf
  · rename_i d1 ρ1 h1
    split at hf
    · rename_i d3 h3
      cases hf
      refine ⟨A, ow, ρ, d1, ρ', E, h1, fun v H1 E1 K1 r1 => ?_⟩
      exact h _ H1 v d1 st Q r1 h3 fun p xs hp rx => q p xs H1 E1 K1 hp rx
    · cases hf
  · cases hf
/-- x = e: a list of one's own -/
def dOwnF (i : Nat) (f : FL) : FS := fun ρ => match f ρ with
  | some (ds, ρ1) => (match setOwn ρ1 i (.lst ds) with
    | some ρ2 => some (.nx, ρ2)
    | none => none)
  | none => none
theorem s_ownF (i : Nat) {fl : FL} {pos' : Pos} (hN : X.N.Nodup) (he : PE X e (tF fl)) (hi : X.N[i]? = some x := by rfl) (hx : Loc X.env.scope x := by first | exact Or.inl rfl | exact Or.inr rfl) (hs : swapsWith e (some (.Name x pos')) pos.line X.env = pure false := by rfl) (hf : X.fn x = true ∨ X.env.scope.names.lookup x = some .local := by first | exact .inl rfl | exact .inr rfl | assumption) :
    PS X (.Assign [.Name x pos'] e pos) (tS Y (dOwnF i fl)) := PS.weak (ps_set (i := i) hN hi hx he hs hf) fun Dd σ H ⟨A, ow, ρ, fl, ρ', E, hg, q⟩ => by
  unfold dOwnF at hg
  split at hg
  · rename_i ds ρ1 h1
    split at hg
    · rename_i ρ2 h2
      cases hg
      refine ⟨A, ow, ρ, ds, ρ1, E, h1, fun p xs H1 E1 K1 hp r1 => ?_⟩
      obtain ⟨E2, K2⟩ := E1.on (Same.new hp) (o := .lst ds) hp upd_same rfl ⟨xs, upd_same, rep_ne r1 hp _⟩ h2
      exact q _ _ _ E2 (K1.trans K2)
    · cases hg
  · cases hg
end
def lList : List D → Option (List D)
  | [.lst xs] => some xs
  | [.tup xs] => some xs
  | _ => none
theorem ll_list {K : PySem.W.Frag} : CallF (fun xs H Q => ∃ p ys, xs = [.ref p] ∧ (SqL K H p ys ∨ SqT K H p ys) ∧ ∀ l, H l = none → Q (.ref l) (upd H l (.lst ys))) lList := by
  intro G H vs ds st Q r h q
  unfold lList at h
  split at h
  · cases h
    cases r with
    | cons ra rb => cases rb; cases ra with
      | lst ga ha rl => exact ⟨_, _, rfl, .inl (SqL.of ha), fun p hp => q p _ hp rl⟩
  · cases h
    cases r with
    | cons ra rb => cases rb; cases ra with
      | tup ha rl => exact ⟨_, _, rfl, .inr (SqT.of ha), fun p hp => q p _ hp rl⟩
  · cases h
def lAdd : D → D → Option (List D)
  | .lst xs, .lst ys => if xs.length + ys.length ≤ lim then some (xs ++ ys) else none
  | _, _ => none
theorem ll_add {K : PySem.W.Frag} : OpF (rAddD K) lAdd := by
  intro G H x y dx dy st Q rx ry h q
  unfold lAdd at h
  split at h
  · split at h
    · rename_i hl
      cases h
      cases rx with
      | lst ga ha ra =>
        cases ry with
        | lst gb hb rb => exact .inr (.inr ⟨_, _, _, _, rfl, rfl, ha, hb, by rw [ra.length, rb.length]; exact lim_le hl, fun p hp => q p _ hp (ra.append rb)⟩)
    · cases h
  · cases h
def lMul : D → D → Option (List D)
  | .lst xs, .int k => if -(2 ^ 63) ≤ k ∧ k < 2 ^ 63 ∧ xs.length * k.toNat ≤ lim then some (List.replicate k.toNat xs).flatten else none
  | _, _ => none
theorem ll_mul : OpF rMulD lMul := by
  intro G H x y dx dy st Q rx ry h q
  unfold lMul at h
  split at h
  · split at h
    · rename_i hb
      cases h
      cases ry
      cases rx with
      | lst ga ha ra => exact .inr ⟨_, _, _, rfl, rfl, ha, hb.1, hb.2.1, by rw [ra.length]; exact lim_le hb.2.2, fun p hp => q p _ hp (ra.rep _)⟩
    · cases h
  · cases h
end Dn

set_option Elab.async false
set_option linter.all false
set_option maxRecDepth 100000
/-! Own lists handed to defs that only read them; own lists in what is returned. -/
namespace Dn
open PySem PySem.Spec PyProof.Rows L2

/-- whatever a def may read: its data, what is new, what it was handed to change -/
def Ga (A : An) (a : Addr) : Prop := (A.F a ∨ A.H a = none) ∨ A.B a
/-- argument rows in which own lists may stand as they are -/
def tAo (k : FA) : TA := fun σ H Q => ∃ A ow ρ ds ρ', EnvR A ow H σ ρ ∧ k ρ = some (ds, ρ') ∧ ∀ v H', EnvR A ow H' σ ρ' → Kp ow H ow H' → RepL (Ga A) H' v ds → Q v H'
theorem Rep.ga {A : An} {ow : Ow} {H : Hp} {v : V} {d : D} (r : Rep (Fz A ow) H v d) : Rep (Ga A) H v d := r.mono (fun a o g q => ⟨.inl g.1, q⟩) fun a xs q => q
theorem RepL.ga {A : An} {ow : Ow} {H : Hp} {v : List V} {d : List D} (r : RepL (Fz A ow) H v d) : RepL (Ga A) H v d := r.mono (fun a o g q => ⟨.inl g.1, q⟩) fun a xs q => q
theorem EnvR.getGa {A : An} {ow : Ow} {H : Hp} {σ : L2.St} {ρ : DE} (E : EnvR A ow H σ ρ) {i : Nat} {ds : List D} (h : oL ρ i = some ds) : ∃ p, ow i = some p ∧ σ[i]? = some (some (.ref p)) ∧ Rep (Ga A) H (.ref p) (.lst ds) := by
  unfold oL at h
  split at h
  · rename_i e
    cases h
    obtain ⟨p, h1, h2, ⟨xs, h3, h4⟩, h5⟩ := E.own i _ e
    exact ⟨p, h1, h2, .lst (.inl (.inr h5)) h3 h4.ga⟩
  · rename_i e
    cases h
    obtain ⟨p, h1, h2, ⟨xs, h3, h4⟩, h5⟩ := E.bor i _ e
    exact ⟨p, h1, h2, .lst (.inr h5) h3 h4.ga⟩
  · cases h
/-- (x, ..) as an argument row, x an own list: as it stands behind all arguments -/
def dConsO (i : Nat) (k : FA) : FA := fun ρ => match oL ρ i with
  | some _ => (match k ρ with
    | some (ds, ρ1) => (match oL ρ1 i with
      | some st => some (.lst st :: ds, ρ1)
      | none => none)
    | none => none)
  | none => none
section
variable {Y : Xw} {X : Cx} {e : Expr} {es : List Expr} {f : FE} {k : FA} {pos p : Pos} {x : Str}
theorem ao_nil : PA X [] (tAo dNil) := PA.weak pa_nil fun σ H Q ⟨A, ow, ρ, ds, ρ', E, hf, q⟩ => by
  cases hf
  exact q [] H E (Kp.refl _ _) .nil
theorem ao_dat (ha : PE X e (tE f)) (hr : PA X es (tAo k)) (hs : starEach (e :: es) X.env = (false, eval e X.env) :: starEach es X.env := by rfl) : PA X (e :: es) (tAo (dCons f k)) := PA.weak (pa_cons ha hr hs) fun σ H Q ⟨A, ow, ρ, ds, ρ', E, hf, q⟩ => by
  unfold dCons at hf
  split at hf
  · rename_i d1 ρ1 h1
    split at hf
    · rename_i ds ρ2 h2
      cases hf
      exact ⟨A, ow, ρ, d1, ρ1, E, h1, fun v H1 E1 K1 r1 => ⟨A, ow, ρ1, ds, ρ', E1, h2, fun vs H2 E2 K2 r2 => q _ H2 E2 (K1.trans K2) (.cons (E1.move K2 r1).ga r2)⟩⟩
    · cases hf
  · cases hf
theorem ao_own (i : Nat) {npos : Pos} (hr : PA X es (tAo k)) (hN : X.N[i]? = some x := by rfl) (hv : Vis X.env.scope x := by first | exact Or.inl rfl | exact Or.inr (Or.inl rfl) | exact Or.inr (Or.inr rfl)) (hd : (x == ("__debug__" : Str)) = false := by decide) (hcd : (x == ("__classdict__" : Str)) = false := by decide)
    (hs : starEach (.Name x npos :: es) X.env = (false, eval (.Name x npos) X.env) :: starEach es X.env := by rfl) : PA X (.Name x npos :: es) (tAo (dConsO i k)) := PA.weak (pa_cons (pe_var (i := i) hN hv hd hcd) hr hs) fun σ H Q ⟨A, ow, ρ, ds, ρ', E, hf, q⟩ => by
  unfold dConsO at hf
  split at hf
  · rename_i ds0 h0
    split at hf
    · rename_i ds1 ρ1 h1
      split at hf
      · rename_i st h2
        cases hf
        obtain ⟨p, g1, g2, g3⟩ := E.getGa h0
        refine ⟨.ref p, g2, A, ow, ρ, ds1, ρ', E, h1, fun vs H2 E2 K2 r2 => ?_⟩
        obtain ⟨p', k1, k2, k3⟩ := E2.getGa h2
        rw [g1] at k1; cases k1
        exact q _ H2 E2 K2 (.cons k3 r2)
      · cases hf
    · cases hf
  · cases hf
/-- a call whose answer is a plain thing -/
def dCallP (m : List D → Option D) (k : FA) : FE := fun ρ => match k ρ with
  | some (ds, ρ1) => (match m ds with
    | some d => if pureD d = true then some (d, ρ1) else none
    | none => none)
  | none => none
theorem e_dfP {y : Str} {m : List D → Option D} {kv : Nat} {ps : List Str} (F : Df X.prog X.w X.K X.mg X.base y kv ps m) (hr : Room kv X.A) (ha : PA X (e :: es) (tAo k)) (hg : Gl X y := by rfl) (hdb : (y == ("__debug__" : Str)) = false := by decide) (he : starEach (e :: es) X.env = (false, eval e X.env) :: starEach es X.env := by rfl) (hpl : (backTo pos (starEach es X.env)).any (·.1) = false := by rfl) :
    PE X (.Call (.Name y p) (e :: es) [] pos) (tE (dCallP m k)) := by
  obtain ⟨f, fd, F, h1, h2, h3⟩ := F.ex
  refine PE.weak (pe_call (E := E0) F hr hg h1 h2 h3 .nil pass0 ha hdb he hpl) fun σ H Q ⟨A, ow, ρ, d, ρ', E, hf, q⟩ => ?_
  unfold dCallP at hf
  split at hf
  · rename_i ds ρ1 hk
    split at hf
    · rename_i d' hm
      split at hf
      · rename_i hp
        cases hf
        refine ⟨A, ow, ρ, ds, ρ', E, hk, fun vs H1 E1 K1 r1 => ?_⟩
        show spD m (vs ++ []) H1 Q E0
        rw [List.append_nil]
        exact ⟨Ga A, ds, d, r1, hm, fun z H3 s3 r3 => q z H3 (E1.same s3) (K1.trans (Kp.same s3)) (r3.pure hp)⟩
      · cases hf
    · cases hf
  · cases hf
theorem e_callBP {id : String} {y : Str} {r : List V → Hp → VK → Prop} {op : List D → Option D} (hc : CallR X (.builtin id) r) (h : CallD r op) (hm : X.mg y = none) (hv : bootBuiltins y = some (.builtin id)) (ha : PA X (e :: es) (tAo k)) (hg : Gl X y := by rfl) (hn : y ≠ "__name__" := by decide) (hdb : (y == ("__debug__" : Str)) = false := by decide)
    (he : starEach (e :: es) X.env = (false, eval e X.env) :: starEach es X.env := by rfl) (hpl : (backTo pos (starEach es X.env)).any (·.1) = false := by rfl) : PE X (.Call (.Name y p) (e :: es) [] pos) (tE (dCallP op k)) :=
  PE.weak (pe_callB hc hg hm hv ha hn hdb he hpl) fun σ H Q ⟨A, ow, ρ, d, ρ', E, hf, q⟩ => by
  unfold dCallP at hf
  split at hf
  · rename_i ds ρ1 hk
    split at hf
    · rename_i d' hm
      split at hf
      · rename_i hp
        cases hf
        refine ⟨A, ow, ρ, ds, ρ', E, hk, fun vs H1 E1 K1 r1 => ?_⟩
        exact h (Ga A) H1 vs ds d Q r1 hm fun z H3 s3 r3 => q z H3 (E1.same s3) (K1.trans (Kp.same s3)) (r3.pure hp)
      · cases hf
    · cases hf
  · cases hf
/-! what is returned: own lists among it -/
/-- argument rows for a return: own lists (none that was handed in) -/
def tAr (k : FA) : TA := fun σ H Q => ∃ A ow ρ ds ρ', EnvR A ow H σ ρ ∧ k ρ = some (ds, ρ') ∧ ∀ v H', EnvR A ow H' σ ρ' → Kp ow H ow H' → RepL (Rt A) H' v ds → Q v H'
def dConsR (i : Nat) (k : FA) : FA := fun ρ => match ρ[i]? with
  | some (.own (.lst _)) => (match k ρ with
    | some (ds, ρ1) => (match ρ1[i]? with
      | some (.own (.lst st)) => some (.lst st :: ds, ρ1)
      | _ => none)
    | none => none)
  | _ => none
theorem ar_nil : PA X [] (tAr dNil) := PA.weak pa_nil fun σ H Q ⟨A, ow, ρ, ds, ρ', E, hf, q⟩ => by
  cases hf
  exact q [] H E (Kp.refl _ _) .nil
theorem ar_dat (ha : PE X e (tE f)) (hr : PA X es (tAr k)) (hs : starEach (e :: es) X.env = (false, eval e X.env) :: starEach es X.env := by rfl) : PA X (e :: es) (tAr (dCons f k)) := PA.weak (pa_cons ha hr hs) fun σ H Q ⟨A, ow, ρ, ds, ρ', E, hf, q⟩ => by
  unfold dCons at hf
  split at hf
  · rename_i d1 ρ1 h1
    split at hf
    · rename_i ds ρ2 h2
      cases hf
      exact ⟨A, ow, ρ, d1, ρ1, E, h1, fun v H1 E1 K1 r1 => ⟨A, ow, ρ1, ds, ρ', E1, h2, fun vs H2 E2 K2 r2 => q _ H2 E2 (K1.trans K2) (.cons ((E1.move K2 r1).mono (fun a o g z => ⟨g.1, z⟩) fun a xs z => z) r2)⟩⟩
    · cases hf
  · cases hf
theorem ar_own (i : Nat) {npos : Pos} (hr : PA X es (tAr k)) (hN : X.N[i]? = some x := by rfl) (hv : Vis X.env.scope x := by first | exact Or.inl rfl | exact Or.inr (Or.inl rfl) | exact Or.inr (Or.inr rfl)) (hd : (x == ("__debug__" : Str)) = false := by decide) (hcd : (x == ("__classdict__" : Str)) = false := by decide)
    (hs : starEach (.Name x npos :: es) X.env = (false, eval (.Name x npos) X.env) :: starEach es X.env := by rfl) : PA X (.Name x npos :: es) (tAr (dConsR i k)) := PA.weak (pa_cons (pe_var (i := i) hN hv hd hcd) hr hs) fun σ H Q ⟨A, ow, ρ, ds, ρ', E, hf, q⟩ => by
  unfold dConsR at hf
  split at hf
  · rename_i ds0 h0
    split at hf
    · rename_i ds1 ρ1 h1
      split at hf
      · rename_i st h2
        cases hf
        obtain ⟨p, g1, g2, _, _⟩ := E.own i _ h0
        refine ⟨.ref p, g2, A, ow, ρ, ds1, ρ', E, h1, fun vs H2 E2 K2 r2 => ?_⟩
        obtain ⟨p', k1, k2, ⟨xs, k3, k4⟩, k5⟩ := E2.own i _ h2
        rw [g1] at k1; cases k1
        exact q _ H2 E2 K2 (.cons (.lst (.inr k5) k3 (k4.mono (fun a o g z => ⟨g.1, z⟩) fun a xs z => z)) r2)
      · cases hf
    · cases hf
  · cases hf
/-- return (x, ..), return [x, ..] -/
def dRetT (k : FA) : FS := fun ρ => match k ρ with
  | some (ds, ρ1) => if ds.length ≤ lim then some (.rt (.tup ds), ρ1) else none
  | none => none
def dRetL (k : FA) : FS := fun ρ => match k ρ with
  | some (ds, ρ1) => if ds.length ≤ lim then some (.rt (.lst ds), ρ1) else none
  | none => none
theorem rt_new {A : An} {ow : Ow} {H : Hp} {σ : L2.St} {ρ : DE} (E : EnvR A ow H σ ρ) {p : Addr} (hp : H p = none) : A.H p = none := by
  have f := E.fresh hp
  cases z : A.H p with
  | none => rfl
  | some o => rw [E.kp p o z f.2] at hp; cases hp
theorem s_retT {x1} {tpos : Pos} (h : PA X es (tAr k)) : PS X (.Return (some (.Tuple es x1 tpos)) pos) (tS Y (dRetT k)) := PS.weak (ps_ret (pe_tup h)) fun Dd σ H ⟨A, ow, ρ, fl, ρ', E, hg, q⟩ => by
  unfold dRetT at hg
  split at hg
  · rename_i ds ρ1 h1
    split at hg
    · rename_i hl
      cases hg
      refine ⟨A, ow, ρ, ds, ρ', E, h1, fun vs H1 E1 K1 r1 => ⟨by rw [r1.length]; exact lim_le hl, fun p hp => ?_⟩⟩
      exact q _ σ _ ow (E1.same (Same.new hp)) (K1.trans (Kp.same (Same.new hp))) (.tup upd_same (r1.mono (fun a o g z => ⟨g, by rw [upd_ne (ne_of_none z hp)]; exact z⟩) fun a xs z => by rw [upd_ne (ne_of_none z hp)]; exact z))
    · cases hg
  · cases hg
theorem s_retL {lpos : Pos} (h : PA X es (tAr k)) : PS X (.Return (some (.List es lpos)) pos) (tS Y (dRetL k)) := PS.weak (ps_ret (pe_lst h)) fun Dd σ H ⟨A, ow, ρ, fl, ρ', E, hg, q⟩ => by
  unfold dRetL at hg
  split at hg
  · rename_i ds ρ1 h1
    split at hg
    · rename_i hl
      cases hg
      refine ⟨A, ow, ρ, ds, ρ', E, h1, fun vs H1 E1 K1 r1 => ⟨by rw [r1.length]; exact lim_le hl, fun p hp => ?_⟩⟩
      exact q _ σ _ ow (E1.same (Same.new hp)) (K1.trans (Kp.same (Same.new hp))) (.lst (.inr (rt_new E1 hp)) upd_same (r1.mono (fun a o g z => ⟨g, by rw [upd_ne (ne_of_none z hp)]; exact z⟩) fun a xs z => by rw [upd_ne (ne_of_none z hp)]; exact z))
    · cases hg
  · cases hg
end
end Dn

set_option Elab.async false
set_option linter.all false
set_option maxRecDepth 100000
/-! isinstance(x, (A, B)) of two built-in types. -/
namespace Dn
open PySem PySem.Spec PyProof.Rows L2
def isTy2 (T U : String) (d : D) : Option D := match tyD d with
  | some t => (match kitB t T, kitB t U with
    | some a, some b => some (.bl (a || b))
    | _, _ => none)
  | none => none
theorem e_isi2 {X : Cx} {e : Expr} {f : FE} {T U : Str} {Ts Us : String} {kk} {p p1 p2 tp pos : Pos} (he : PE X e (tE f)) (hm : X.mg "isinstance" = none) (hmT : X.mg T = none) (hmU : X.mg U = none) (hv : bootBuiltins T = some (.type Ts)) (hw : bootBuiltins U = some (.type Us)) (hg : Gl X "isinstance" := by rfl) (hgT : Gl X T := by rfl) (hgU : Gl X U := by rfl)
    (hb : bootBuiltins ("isinstance" : Str) = some (.builtin "isinstance") := by decide +kernel) (hn : T ≠ "__name__" := by decide) (hn2 : U ≠ "__name__" := by decide) (hd : (T == ("__debug__" : Str)) = false := by decide) (hd2 : (U == ("__debug__" : Str)) = false := by decide)
    (hs : starEach [e, .Tuple [.Name T p1, .Name U p2] kk tp] X.env = (false, eval e X.env) :: starEach [.Tuple [.Name T p1, .Name U p2] kk tp] X.env := by rfl) (hs1 : starEach [.Tuple [.Name T p1, .Name U p2] kk tp] X.env = (false, eval (.Tuple [.Name T p1, .Name U p2] kk tp) X.env) :: starEach [] X.env := by rfl)
    (hs2 : starEach [.Name T p1, .Name U p2] X.env = (false, eval (.Name T p1) X.env) :: starEach [.Name U p2] X.env := by rfl) (hs3 : starEach [.Name U p2] X.env = (false, eval (.Name U p2) X.env) :: starEach [] X.env := by rfl)
    (hpl : (backTo pos (starEach [.Tuple [.Name T p1, .Name U p2] kk tp] X.env)).any (·.1) = false := by rfl) :
    PE X (.Call (.Name "isinstance" p) [e, .Tuple [.Name T p1, .Name U p2] kk tp] [] pos) (tE (dUn (isTy2 Ts Us) f)) :=
  PE.weak (pe_callB call_isiT hg hm hb (pa_cons he (pa_cons (pe_tup (pa_cons (pe_bltn (v := .ty Ts) hgT hmT hv rfl hn hd) (pa_cons (pe_bltn (v := .ty Us) hgU hmU hw rfl hn2 hd2) pa_nil hs3) hs2)) pa_nil hs1) hs) (by decide) (by decide) hs hpl) fun σ H Q ⟨A, ow, ρ, d, ρ', E, hf, q⟩ => by
  unfold dUn at hf
  split at hf
  · rename_i x ρ1 h1
    split at hf
    · rename_i d3 h3
      cases hf
      refine ⟨A, ow, ρ, x, ρ', E, h1, fun v H1 E1 K1 r1 => ⟨by show 2 ≤ sizeLine; decide, fun tpl htp => ?_⟩⟩
      unfold isTy2 at h3
      split at h3
      · rename_i t ht
        split at h3
        · rename_i a b ha hb2
          cases h3
          have E2 := E1.same (Same.new (o := .tup [.ty Ts, .ty Us]) htp)
          have r2 := E1.move (Kp.same (Same.new (o := .tup [.ty Ts, .ty Us]) htp)) r1
          refine ⟨v, tpl, [.ty Ts, .ty Us], .type t, [.type Ts, .type Us], a || b, rfl, upd_same, .cons (.ty Ts) (.cons (.ty Us) .nil), tyD_of r2 ht, ?_, q _ _ E2 (K1.trans (Kp.same (Same.new htp))) (.bl _)⟩
          refine kitAny_cons (kit_ty ha) (fun ea => kitAny_cons (kit_ty hb2) (fun eb => ?_) fun eb => ?_) fun ea => ?_
          · subst ea eb; rfl
          · subst eb; exact Bool.or_true _
          · subst ea; rfl
        · cases h3
      · cases h3
    · cases hf
  · cases hf
end Dn

set_option Elab.async false
set_option linter.all false
set_option maxRecDepth 100000
/-! gcd and lcm of the module of mathematics; names of its functions. -/
namespace Dn
open PySem PySem.Spec PyProof.Rows L2
def xB (x : Str) (id : String) (K : PySem.W.Frag) : Bool := He.eqO (PySem.W.nsIn K mainGlobals x) (some (some (.builtin id)))
theorem bif_ok {K : PySem.W.Frag} {h : Heap} {mg : Str → Option Value} (X : K.In h) (G : h.Ns mainGlobals mg) {x : Str} {id : String} (e : xB x id K = true) : mg x = some (.builtin id) := PySem.W.mg_of X G (He.eqO_ok e)
def dGcd : List D → Option D
  | [.int a, .int b] => some (.int (Int.gcd a b : Nat))
  | _ => none
theorem dd_gcd : CallD rGcd dGcd := by
  intro G H vs ds d Q r h q
  unfold dGcd at h
  split at h
  · cases h
    cases r with
    | cons ra r => cases r with
      | cons rb r => cases r; cases ra; cases rb; exact ⟨_, _, rfl, same1 q (.int _)⟩
  · cases h
def rLcm : List V → Hp → VK → Prop := fun vs H Q => ∃ a b : Int, vs = [.int a, .int b] ∧ (a.natAbs.log2 < 13480 ∧ b.natAbs.log2 < 13480) ∧ Q (.int ((Nat.lcm a.natAbs b.natAbs : Nat) : Int)) H
theorem log_mul {m n : Nat} : (m * n).log2 ≤ m.log2 + n.log2 + 1 := by
  by_cases h1 : m = 0
  · subst h1; simp
  by_cases h2 : n = 0
  · subst h2; simp
  have a := Nat.lt_log2_self (n := m)
  have b := Nat.lt_log2_self (n := n)
  have : m * n < 2 ^ (m.log2 + n.log2 + 2) := by
    have := Nat.mul_lt_mul'' a b
    rw [← Nat.pow_add] at this
    rwa [show m.log2 + 1 + (n.log2 + 1) = m.log2 + n.log2 + 2 by omega] at this
  have := (Nat.log2_lt (Nat.mul_ne_zero h1 h2)).mpr this
  omega
theorem log_le {m n : Nat} (h : m ≤ n) : m.log2 ≤ n.log2 := by
  by_cases h1 : m = 0
  · subst h1; simp
  · have := Nat.lt_log2_self (n := n)
    have := (Nat.log2_lt h1).mpr (Nat.lt_of_le_of_lt h this)
    omega
theorem lcm_le (m n : Nat) : m.lcm n ≤ m * n := by
  by_cases h : 0 < m * n
  · exact Nat.le_of_dvd h (Nat.lcm_dvd_mul m n)
  · have z : m * n = 0 := by omega
    rcases Nat.mul_eq_zero.mp z with rfl | rfl <;> simp
theorem cr_lcm {X : Cx} : CallR X (.builtin "math.lcm") rLcm := by
  intro pins s σ H vs us Q I r h
  obtain ⟨a, b, rfl, ⟨h1, h2⟩, q⟩ := h
  obtain ⟨t, u, rfl⟩ := Vals.int2 r
  have one : Nat.lcm 1 a.natAbs = a.natAbs := by simp [Nat.lcm]
  have m1 : (max 1 a.natAbs).log2 < 13480 := by
    by_cases c : a.natAbs ≤ 1
    · rw [Nat.max_eq_left c]; decide
    · rw [Nat.max_eq_right (by omega)]; exact h1
  have m2 : (max a.natAbs b.natAbs).log2 < 13480 := by
    by_cases c : b.natAbs ≤ a.natAbs
    · rw [Nat.max_eq_left c]; exact h1
    · rw [Nat.max_eq_right (by omega)]; exact h2
  have hs : ((((Nat.lcm 1 a.natAbs).lcm b.natAbs : Nat) : Int)).natAbs.log2 < bitsLine := by
    rw [one, Int.natAbs_natCast]
    have := log_le (lcm_le a.natAbs b.natAbs)
    have := @log_mul a.natAbs b.natAbs
    have : (26962 : Nat) < bitsLine := by decide +kernel
    omega
  have g := PySem.W.mg_run_lcm a t b u (by omega) (by omega) hs
  rw [one] at g
  exact call_function_meets PySem.W.MGF.kind_lcm PySem.W.MGF.plain_lcm PySem.W.MGF.entry_lcm (PySem.W.MGF.args_lcm _ _) g.meets ⟨.int _, H, I.tok _, ⟨_, rfl⟩, q⟩
def dLcm : List D → Option D
  | [.int a, .int b] => if a.natAbs.log2 < 13480 ∧ b.natAbs.log2 < 13480 then some (.int (Int.lcm a b : Nat)) else none
  | _ => none
theorem dd_lcm : CallD rLcm dLcm := by
  intro G H vs ds d Q r h q
  unfold dLcm at h
  split at h
  · split at h
    · rename_i c
      cases h
      cases r with
      | cons ra r => cases r with
        | cons rb r => cases r; cases ra; cases rb; exact ⟨_, _, rfl, c, same1 q (.int _)⟩
    · cases h
  · cases h
/-! ### x in t, t a tuple of ints too -/
theorem inV_ints (k : Int) (is : List Int) : inV (.int k) (is.map V.int) = is.any fun z => z == k := by
  unfold inV
  rw [List.any_map]
  rfl
theorem flat_ints (is : List Int) : (is.map V.int).all flatV = true := by
  rw [List.all_map, List.all_eq_true]
  intro _ _
  rfl
def dIn2 (x y : D) : Option D := match x, y with
  | .int k, .tup xs => (match intsOf xs with
    | some is => some (.bl (is.any fun z => z == k))
    | none => none)
  | x, y => dIn x y
def dNotIn2 (x y : D) : Option D := match x, y with
  | .int k, .tup xs => (match intsOf xs with
    | some is => some (.bl (!is.any fun z => z == k))
    | none => none)
  | x, y => dNotIn x y
theorem or_in2 {X : Cx} (hu : X.A.units + 65 < cLine) : OpR X (compareOp .In) (fun x y H Q => rInD X.K x y H Q ∨ rIn X.K false x y H Q) := (op_inD hu).or op_in_seq
theorem or_notIn2 {X : Cx} (hu : X.A.units + 65 < cLine) : OpR X (compareOp .NotIn) (fun x y H Q => rNotInD X.K x y H Q ∨ rIn X.K true x y H Q) := (op_notInD hu).or op_notIn_seq
theorem dd_in2 {K : PySem.W.Frag} : OpD (fun x y H Q => rInD K x y H Q ∨ rIn K false x y H Q) dIn2 := by
  intro G H x y dx dy d Q rx ry h q
  unfold dIn2 at h
  split at h
  · split at h
    · rename_i is hi
      cases h
      have := intsOf_eq hi
      subst this
      cases rx
      cases ry with
      | tup ha rl =>
        cases rl.ints
        exact .inr ⟨_, _, rfl, .inr (SqT.of ha), rfl, flat_ints is, by rw [inV_ints]; exact same1 q (.bl _)⟩
    · cases h
  · exact .inl (dd_in G H x y _ _ d Q rx ry h q)
theorem dd_notIn2 {K : PySem.W.Frag} : OpD (fun x y H Q => rNotInD K x y H Q ∨ rIn K true x y H Q) dNotIn2 := by
  intro G H x y dx dy d Q rx ry h q
  unfold dNotIn2 at h
  split at h
  · split at h
    · rename_i is hi
      cases h
      have := intsOf_eq hi
      subst this
      cases rx
      cases ry with
      | tup ha rl =>
        cases rl.ints
        exact .inr ⟨_, _, rfl, .inr (SqT.of ha), rfl, flat_ints is, by rw [inV_ints]; exact same1 q (.bl _)⟩
    · cases h
  · exact .inl (dd_notIn G H x y _ _ d Q rx ry h q)
section
variable {X : Cx} {x : Str} {p pos : Pos} {e : Expr} {es : List Expr} {fa : FA}
theorem e_callBf {id : String} {r : List V → Hp → VK → Prop} {op : List D → Option D} (hc : CallR X (.builtin id) r) (h : CallD r op) (hm : X.mg x = some (.builtin id)) (ha : PA X (e :: es) (tA fa)) (hg : Gl X x := by rfl) (hdb : (x == ("__debug__" : Str)) = false := by decide)
    (he : starEach (e :: es) X.env = (false, eval e X.env) :: starEach es X.env := by rfl) (hpl : (backTo pos (starEach es X.env)).any (·.1) = false := by rfl) : PE X (.Call (.Name x p) (e :: es) [] pos) (tE (dCall op fa)) :=
  PE.weak (pe_callBfun hc hg hm ha hdb he hpl) (tCB_of h)
end
end Dn

set_option Elab.async false
set_option linter.all false
set_option maxRecDepth 100000
set_option maxHeartbeats 2000000
/-! list(zip(xs, ys)) of two lists. -/
namespace Lz
open PySem PySem.W PySem.Calls PyProof.Rows PyProof.V PySem.Spec
theorem zip_no_len : typeLookup (.type "zip") "__len__" = pure none := by rw [typeLookup_type, builtinLookup_eq_fast]; kernel_rfl
theorem zip_no_hint : typeLookup (.type "zip") "__length_hint__" = pure none := by rw [typeLookup_type, builtinLookup_eq_fast]; kernel_rfl
/-- where a zip stands ahead of item i, while at S a list is filled -/
def ZSt (z TI TO i1 i2 l1 l2 S : Addr) (xs ys : Array Value) (i : Nat) (h : Heap) : Prop :=
  IsPair h TI (.ref i1) (.ref i2) ∧ h.IsListIter i1 l1 i ∧ h.IsListIter i2 l2 i ∧ h.IsList l1 xs ∧ h.IsList l2 ys ∧
    ((IsZip h z TI TO .none ∧ ∃ a b, IsPair h TO a b) ∨ ∃ T f oT, IsZipHeld h z TI TO T f ∧ h.get? T = some oT ∧ T ≠ z ∧ T ≠ i1 ∧ T ≠ i2 ∧ T ≠ S)
/-- S is none of the zip's -/
structure Off (z TI TO i1 i2 l1 l2 S : Addr) : Prop where
  z : z ≠ S
  TI : TI ≠ S
  TO : TO ≠ S
  i1 : i1 ≠ S
  i2 : i2 ≠ S
  l1 : l1 ≠ S
  l2 : l2 ≠ S
section
variable {prog : Program} {w : World} {A : Around} {E : Value → Shared → Prop} {s : Shared} {z TI TO i1 i2 l1 l2 S : Addr} {xs ys : Array Value}
theorem ZSt.keep {i : Nat} {h h' : Heap} (O : Off z TI TO i1 i2 l1 l2 S) (st : ZSt z TI TO i1 i2 l1 l2 S xs ys i h) (hk : ∀ b o, b ≠ S → h.get? b = some o → h'.get? b = some o) : ZSt z TI TO i1 i2 l1 l2 S xs ys i h' := by
  obtain ⟨hTI, h1, h2, hl1, hl2, hz⟩ := st
  refine ⟨hk _ _ O.TI hTI, h1.at fun o e => hk _ o O.i1 e, h2.at fun o e => hk _ o O.i2 e, hl1.at fun o e => hk _ o O.l1 e, hl2.at fun o e => hk _ o O.l2 e, ?_⟩
  rcases hz with ⟨hz, a, b, hTO⟩ | ⟨T, f, oT, hz, hT, r1, r2, r3, r4⟩
  · exact .inl ⟨hk _ _ O.z hz, a, b, hk _ _ O.TO hTO⟩
  · exact .inr ⟨T, f, oT, hk _ _ O.z hz, hk _ _ r4 hT, r1, r2, r3, r4⟩
theorem lz_item {i : Nat} {x y : Value} {Q : Option Value → Shared → Prop} (D : ZipApart z TI TO i1 i2 l1 l2) (hS : S < s.heap.objs.size) (st : ZSt z TI TO i1 i2 l1 l2 S xs ys i s.heap) (ex : xs[i]? = some x) (ey : ys[i]? = some y)
    (hQ : ∀ h', ZSt z TI TO i1 i2 l1 l2 S xs ys (i + 1) h' → IsPair h' s.heap.objs.size x y → h'.objs.size = s.heap.objs.size + 1 →
      (∀ c o, c ≠ z → c ≠ TO → c ≠ i1 → c ≠ i2 → s.heap.get? c = some o → h'.get? c = some o) → Q (some (.ref s.heap.objs.size)) { s with heap := h' }) :
    wpAny (model prog w) A (pyNext (.ref z)) Q E s := by
  obtain ⟨hTI, h1, h2, hl1, hl2, hz⟩ := st
  have lt : ∀ {c o}, s.heap.get? c = some o → s.heap.objs.size ≠ c := fun e => Nat.ne_of_gt (Heap.lt_size e)
  have n1 : s.heap.objs.size ≠ i1 := let ⟨_, e, _⟩ := h1; lt e
  have n2 : s.heap.objs.size ≠ i2 := let ⟨_, e, _⟩ := h2; lt e
  rcases hz with ⟨hz, a, b, hTO⟩ | ⟨T, f, oT, hz, hT, r1, r2, r3, r4⟩
  · refine wpAny_pyNext_zip_item D hz hTI hTO h1 h2 hl1 hl2 ex ey fun h' a1 a2 a3 a4 a5 a6 hk => ?_
    exact hQ h' ⟨hk _ _ D.TIz D.TITO D.TIi1 D.TIi2 hTI, a3, a4, hl1.at fun o e => hk _ o D.l1z D.l1TO D.l1i1 D.l1i2 e, hl2.at fun o e => hk _ o D.l2z D.l2TO D.l2i1 D.l2i2 e,
      .inr ⟨s.heap.objs.size, false, _, a1, a5, lt hz, n1, n2, Nat.ne_of_gt hS⟩⟩ a5 a6 hk
  · refine wpAny_pyNext_zip_item_held D hz hT hTI h1 h2 hl1 hl2 ex ey fun h' a1 a3 a4 a5 a6 hk => ?_
    exact hQ h' ⟨hk _ _ D.TIz D.TIi1 D.TIi2 hTI, a3, a4, hl1.at fun o e => hk _ o D.l1z D.l1i1 D.l1i2 e, hl2.at fun o e => hk _ o D.l2z D.l2i1 D.l2i2 e,
      .inr ⟨T, true, oT, a1, hk _ _ r1 r2 r3 hT, r1, r2, r3, r4⟩⟩ a5 a6 fun c o c1 c2 c3 c4 e => hk c o c1 c3 c4 e
theorem lz_done {Q : Option Value → Shared → Prop} {i : Nat} (hh : A.handled = none) (D : ZipApart z TI TO i1 i2 l1 l2) (st : ZSt z TI TO i1 i2 l1 l2 S xs ys i s.heap) (hend : xs[i]? = none ∨ ys[i]? = none)
    (hQ : ∀ h', (∀ c o, c ≠ z → c ≠ TO → c ≠ i1 → c ≠ i2 → s.heap.get? c = some o → h'.get? c = some o) → Q none { s with heap := h' }) : wpAny (model prog w) A (pyNext (.ref z)) Q E s := by
  obtain ⟨hTI, h1, h2, hl1, hl2, hz⟩ := st
  rcases hz with ⟨hz, a, b, hTO⟩ | ⟨T, f, oT, hz, hT, r1, r2, r3, r4⟩
  · exact wpAny_pyNext_zip_end hh D hz hTI hTO h1 h2 hl1 hl2 hend hQ
  · exact wpAny_pyNext_zip_end_held hh D hz hT hTI h1 h2 hl1 hl2 hend fun h' hk => hQ h' fun c o c1 c2 c3 c4 e => hk c o c1 c3 c4 e
structure LzG (xs ys : Array Value) (lo : Addr) (h : Heap) (as : List Addr) : Prop where
  rise : as.Pairwise (· < ·)
  above : ∀ a ∈ as, lo < a
  pairs : ∀ (j : Nat) (a : Addr), as[j]? = some a → ∃ x y, xs[j]? = some x ∧ ys[j]? = some y ∧ IsPair h a x y
theorem LzG.there {lo : Addr} {h : Heap} {as : List Addr} (g : LzG xs ys lo h as) {a : Addr} (ha : a ∈ as) : a < h.objs.size := by
  obtain ⟨j, hj⟩ := List.mem_iff_getElem?.mp ha
  obtain ⟨_, _, _, _, e⟩ := g.pairs j a hj
  exact Heap.lt_size e
end
section
variable {prog : Program} {w : World} {A : Around} {s : Shared} {R : Result → Shared → Prop} {z TI TO i1 i2 l1 l2 S : Addr} {xs ys : Array Value}
theorem lz_loop (hh : A.handled = none) (D : ZipApart z TI TO i1 i2 l1 l2) (O : Off z TI TO i1 i2 l1 l2 S) (hzS : z < S) (hTOS : TO < S) (hi1S : i1 < S) (hi2S : i2 < S) (hl : xs.size = ys.size) (hn : xs.size ≤ sizeLine) (res : Value) {h₁ : Heap}
    (hR : ∀ h' tk acc c as, (∀ b o, b ≠ S → b ≠ z → b ≠ TO → b ≠ i1 → b ≠ i2 → h₁.get? b = some o → h'.get? b = some o) → h'.get? S = some { cls := .type "list", dict := none, data := .seq acc c, slots := #[] } → as.length = xs.size → LzG xs ys S h' as →
      acc.toList = as.map Value.ref → R (.ok (.ret res)) { s with heap := h', toks := tk }) :
    ∀ (k i : Nat) (h : Heap) (tk c : Nat) (acc : Array Value) (as : List Addr), xs.size - i = k → i ≤ xs.size → ZSt z TI TO i1 i2 l1 l2 S xs ys i h → (∀ b o, b ≠ S → b ≠ z → b ≠ TO → b ≠ i1 → b ≠ i2 → h₁.get? b = some o → h.get? b = some o) →
      h.get? S = some { cls := .type "list", dict := none, data := .seq acc c, slots := #[] } → acc.toList = as.map Value.ref → as.length = i → LzG xs ys S h as →
      codeAny (model prog w) A (.builtin "list.extend.loop" ⟨[.ref S, .ref z, res], []⟩) R { s with heap := h, toks := tk } := by
  intro k
  induction k with
  | zero =>
    intro i h tk c acc as hk hi hst hkeep hS hacc hal hG
    have hin : i = xs.size := by omega
    refine codeAny_builtin PySem.F.entry_extend_loop ?_
    rw [Around.under_plainId PySem.F.plain_extend_loop _]
    show wpAny _ A.in1 (pyNext (.ref z) >>= _) _ _ _
    refine wpAny_bind (lz_done (s := { s with heap := h, toks := tk }) (A := A.in1) hh D hst (.inl (Array.getElem?_eq_none (by omega))) fun h' he => ?_)
    refine wpAny_pure (hR h' tk acc c as (fun b o h1 h2 h3 h4 h5 e => he b o h2 h3 h4 h5 (hkeep b o h1 h2 h3 h4 h5 e)) (he S _ (Nat.ne_of_gt hzS) (Nat.ne_of_gt hTOS) (Nat.ne_of_gt hi1S) (Nat.ne_of_gt hi2S) hS) (by omega) ⟨hG.rise, hG.above, fun j a hj => ?_⟩ hacc)
    obtain ⟨x, y, e1, e2, e3⟩ := hG.pairs j a hj
    have ha := hG.above a (List.mem_of_getElem? hj)
    exact ⟨x, y, e1, e2, he a _ (Nat.ne_of_gt (Nat.lt_trans hzS ha)) (Nat.ne_of_gt (Nat.lt_trans hTOS ha)) (Nat.ne_of_gt (Nat.lt_trans hi1S ha)) (Nat.ne_of_gt (Nat.lt_trans hi2S ha)) e3⟩
  | succ k ih =>
    intro i h tk c acc as hk hi hst hkeep hS hacc hal hG
    have hlt : i < xs.size := by omega
    have ex := Array.getElem?_eq_getElem hlt
    have ey := Array.getElem?_eq_getElem (show i < ys.size by omega)
    generalize xs[i] = x at ex
    generalize ys[i]'(by omega) = y at ey
    have hsz : acc.size = i := by rw [← Array.length_toList, hacc, List.length_map, hal]
    refine codeAny_builtin PySem.F.entry_extend_loop ?_
    rw [Around.under_plainId PySem.F.plain_extend_loop _]
    show wpAny _ A.in1 (pyNext (.ref z) >>= _) _ _ _
    refine wpAny_bind (lz_item (s := { s with heap := h, toks := tk }) (S := S) D (Heap.lt_size hS) hst ex ey fun h' hst' ht hz hkp => ?_)
    dsimp only at ht hz hkp ⊢
    have hS' := hkp S _ (Nat.ne_of_gt hzS) (Nat.ne_of_gt hTOS) (Nat.ne_of_gt hi1S) (Nat.ne_of_gt hi2S) hS
    have up : ∀ b o, b ≠ S → h'.get? b = some o → (h'.update S (Obj.mapSeq (·.push (Value.ref h.objs.size)))).get? b = some o := fun b o hb e => (Heap.get?_update_other _ _ (Ne.symm hb)).trans e
    have hSl : S < h.objs.size := Heap.lt_size hS
    show wpAny _ A.in1 (updateSeq S (·.push (Value.ref h.objs.size)) >>= _) _ _ _
    refine wpAny_bind ?_
    refine wpAny_updateSeq hS' rfl (wpAny_pure ⟨plainId_quiet PySem.F.plain_extend_loop _, ih (i + 1) _ tk _ (acc.push (Value.ref h.objs.size)) (as ++ [h.objs.size]) (by omega) hlt (hst'.keep O up)
      (fun b o h1 h2 h3 h4 h5 e => up b o h1 (hkp b o h2 h3 h4 h5 (hkeep b o h1 h2 h3 h4 h5 e))) (Heap.get?_update_self _ hS' rfl) (by rw [Array.toList_push, hacc, List.map_append]; rfl) (by rw [List.length_append, hal]; rfl) ⟨?_, ?_, ?_⟩⟩) (by rw [hsz]; omega) (by show (acc.push (Value.ref h.objs.size)).size ≤ sizeLine + 1; rw [Array.size_push, hsz]; omega)
    · refine List.pairwise_append.mpr ⟨hG.rise, List.pairwise_singleton _ _, fun a ha b hb => ?_⟩
      rw [List.mem_singleton.mp hb]
      exact hG.there ha
    · intro a ha
      rcases List.mem_append.mp ha with ha | ha
      · exact hG.above a ha
      · rw [List.mem_singleton.mp ha]; exact hSl
    · intro j b hj
      rcases Nat.lt_trichotomy j as.length with h1 | h1 | h1
      · rw [List.getElem?_append_left h1] at hj
        obtain ⟨x', y', e1, e2, e3⟩ := hG.pairs j b hj
        have hb := hG.above b (List.mem_of_getElem? hj)
        exact ⟨x', y', e1, e2, up b _ (Nat.ne_of_gt hb) (hkp b _ (Nat.ne_of_gt (Nat.lt_trans hzS hb)) (Nat.ne_of_gt (Nat.lt_trans hTOS hb)) (Nat.ne_of_gt (Nat.lt_trans hi1S hb)) (Nat.ne_of_gt (Nat.lt_trans hi2S hb)) e3)⟩
      · subst h1
        have hb : h.objs.size = b := by simpa using hj
        subst hb
        exact ⟨x, y, by rw [hal]; exact ex, by rw [hal]; exact ey, up _ _ (Nat.ne_of_gt hSl) ht⟩
      · have hnone : (as ++ [h.objs.size])[j]? = none := List.getElem?_eq_none (by rw [List.length_append, List.length_singleton]; omega)
        rw [hnone] at hj; cases hj
end
section
variable {prog : Program} {w : World} {A : Around} {E : Value → Shared → Prop} {s : Shared} {z TI TO i1 i2 l1 l2 S : Addr} {xs ys : Array Value}
def ZOk (z TI TO i1 i2 l1 l2 : Addr) (xs ys : Array Value) (h : Heap) : Prop := IsZip h z TI TO .none ∧ IsPair h TI (.ref i1) (.ref i2) ∧ (∃ a b, IsPair h TO a b) ∧ h.IsListIter i1 l1 0 ∧ h.IsListIter i2 l2 0 ∧ h.IsList l1 xs ∧ h.IsList l2 ys
theorem ZOk.lt {h : Heap} (o : ZOk z TI TO i1 i2 l1 l2 xs ys h) : z < h.objs.size ∧ TI < h.objs.size ∧ TO < h.objs.size ∧ i1 < h.objs.size ∧ i2 < h.objs.size ∧ l1 < h.objs.size ∧ l2 < h.objs.size := by
  obtain ⟨a, b, ⟨_, _, c⟩, ⟨_, d, _⟩, ⟨_, e, _⟩, ⟨_, f, _⟩, ⟨_, g, _⟩⟩ := o
  exact ⟨Heap.lt_size a, Heap.lt_size b, Heap.lt_size c, Heap.lt_size d, Heap.lt_size e, Heap.lt_size f, Heap.lt_size g⟩
theorem ZOk.keep {h h' : Heap} (o : ZOk z TI TO i1 i2 l1 l2 xs ys h) (hk : ∀ b o, b < h.objs.size → h.get? b = some o → h'.get? b = some o) : ZOk z TI TO i1 i2 l1 l2 xs ys h' := by
  have hk' : ∀ b o, h.get? b = some o → h'.get? b = some o := fun b o e => hk b o (Heap.lt_size e) e
  obtain ⟨a, b, ⟨_, _, c⟩, d, e, f, g⟩ := o
  exact ⟨hk' _ _ a, hk' _ _ b, ⟨_, _, hk' _ _ c⟩, d.at fun o => hk' _ o, e.at fun o => hk' _ o, f.at fun o => hk' _ o, g.at fun o => hk' _ o⟩
theorem lz_extend {R : Result → Shared → Prop} (hh : A.handled = none) (D : ZipApart z TI TO i1 i2 l1 l2) (hv : ZOk z TI TO i1 i2 l1 l2 xs ys s.heap) (O : Off z TI TO i1 i2 l1 l2 S) (hzS : z < S) (hTOS : TO < S) (hi1S : i1 < S) (hi2S : i2 < S) (hl : xs.size = ys.size) (res : Value) (c₀ : Nat)
    (hS : s.heap.get? S = some { cls := .type "list", data := .seq #[] c₀ })
    (hR : ∀ h' tk acc c as, (∀ b o, b ≠ S → b ≠ z → b ≠ TO → b ≠ i1 → b ≠ i2 → s.heap.get? b = some o → h'.get? b = some o) → h'.get? S = some { cls := .type "list", dict := none, data := .seq acc c, slots := #[] } → as.length = xs.size → LzG xs ys S h' as →
      acc.toList = as.map Value.ref → R (.ok (.ret res)) { s with heap := h', toks := tk }) (hn : xs.size ≤ sizeLine) :
    wpAny (model prog w) A.in1 (Builtin.List.listExtendWith (.ref S) (.ref z) res)
      (fun fin s' => match fin with | .done f => R (.ok f) s' | .again c' => c'.quiet = true ∧ codeAny (model prog w) A c' R s') (fun e s' => R (.error e) s') s := by
  have hT : s.TypeIs (.ref z) "zip" := ⟨_, hv.1, rfl⟩
  unfold Builtin.List.listExtendWith
  refine wpAny_bind (wpAny_typeOf (T := "zip") hT ?_)
  have h1 : Builtin.List.listSameRef (.ref S) (.ref z) = false := by simp [Builtin.List.listSameRef, O.z.symm]
  have h2 : (Value.type "zip" == Value.type "list") = false := by decide
  have h3 : (Value.type "zip" == Value.type "tuple") = false := by decide
  simp only [h1, h2, h3, Bool.or_false, Bool.false_eq_true, if_false]
  refine wpAny_bind (wpAny_pyIter_zip hv.1 ?_)
  refine wpAny_bind (wpAny_holding ?_)
  unfold Builtin.List.listLengthHint
  refine wpAny_bind (wpAny_specialOf hT zip_no_len ?_)
  show wpAny _ A.in1 (specialOf (Value.ref z) (Str.ofString "__length_hint__") >>= _) _ _ _
  refine wpAny_bind (wpAny_specialOf hT zip_no_hint ?_)
  refine wpAny_pure ?_
  show wpAny _ A.in1 (rule "list.extend.makes-room" >>= fun _ => Builtin.List.listTouch (.ref S) >>= fun _ => again (.builtin "list.extend.loop" ⟨[.ref S, .ref z, res], []⟩)) _ _ _
  refine wpAny_bind (wpAny_rule ?_)
  refine wpAny_bind ?_
  show wpAny _ A.in1 (updateSeq S (·.push .none) >>= fun _ => updateSeq S (·.pop)) _ _ _
  refine wpAny_bind (wpAny_updateSeq hS rfl ?_)
  have hS₂ := Heap.get?_update_self (Obj.mapSeq (·.push Value.none)) hS rfl
  refine wpAny_updateSeq (hz := by seq_fits) hS₂ rfl ?_
  have hS₃ := Heap.get?_update_self (Obj.mapSeq (·.pop)) hS₂ rfl
  have oth : ∀ b o, b ≠ S → s.heap.get? b = some o → ((s.heap.update S (Obj.mapSeq (·.push Value.none))).update S (Obj.mapSeq (·.pop))).get? b = some o :=
    fun b o hb e => (Heap.get?_update_other _ _ (Ne.symm hb)).trans ((Heap.get?_update_other _ _ (Ne.symm hb)).trans e)
  have st0 : ZSt z TI TO i1 i2 l1 l2 S xs ys 0 s.heap := ⟨hv.2.1, hv.2.2.2.1, hv.2.2.2.2.1, hv.2.2.2.2.2.1, hv.2.2.2.2.2.2, .inl ⟨hv.1, hv.2.2.1⟩⟩
  refine wpAny_pure ⟨plainId_quiet PySem.F.plain_extend_loop _, lz_loop (s := s) (h₁ := s.heap) hh D O hzS hTOS hi1S hi2S hl hn res hR xs.size 0 _ _ _ #[] [] (Nat.sub_zero _) (Nat.zero_le _) (st0.keep O oth) (fun b o h1 _ _ _ _ e => oth b o h1 e) hS₃ rfl rfl
    ⟨List.Pairwise.nil, (fun _ ha => nomatch ha), (fun j a hj => by simp at hj)⟩⟩
theorem lz_init {R : Result → Shared → Prop} (hh : A.handled = none) (D : ZipApart z TI TO i1 i2 l1 l2) (hv : ZOk z TI TO i1 i2 l1 l2 xs ys s.heap) (O : Off z TI TO i1 i2 l1 l2 S) (hzS : z < S) (hTOS : TO < S) (hi1S : i1 < S) (hi2S : i2 < S) (hl : xs.size = ys.size)
    (hS : s.heap.get? S = some { cls := .type "list", data := .seq #[] })
    (hR : ∀ h' tk acc c as, (∀ b o, b ≠ S → b ≠ z → b ≠ TO → b ≠ i1 → b ≠ i2 → s.heap.get? b = some o → h'.get? b = some o) → h'.get? S = some { cls := .type "list", dict := none, data := .seq acc c, slots := #[] } → as.length = xs.size → LzG xs ys S h' as →
      acc.toList = as.map Value.ref → R (.ok (.ret .none)) { s with heap := h', toks := tk }) (hn : xs.size ≤ sizeLine) :
    wpAny (model prog w) A.in1 (Builtin.«list.__init__» ⟨[.ref S, .ref z], []⟩)
      (fun fin s' => match fin with | .done f => R (.ok f) s' | .again c' => c'.quiet = true ∧ codeAny (model prog w) A c' R s') (fun e s' => R (.error e) s') s := by
  show wpAny _ _ (do let old ← Builtin.List.listItems (.ref S); Builtin.List.listUpdate (.ref S) (fun _ => #[]); letGo old.toList.reverse; Builtin.List.listExtendWith (.ref S) (.ref z) .none) _ _ s
  refine wpAny_bind ?_
  unfold Builtin.List.listItems
  refine wpAny_bind (wpAny_seqItems hS rfl (wpAny_pure ?_))
  show wpAny _ _ (updateSeq S (fun _ => #[]) >>= fun _ => letGo (#[] : Array Value).toList.reverse >>= fun _ => Builtin.List.listExtendWith (.ref S) (.ref z) .none) _ _ s
  refine wpAny_bind (wpAny_updateSeq hS rfl ?_)
  have hS₂ := Heap.get?_update_self (Obj.mapSeq (fun _ => (#[] : Array Value))) hS rfl
  have oth : ∀ b o, b ≠ S → s.heap.get? b = some o → (s.heap.update S (Obj.mapSeq (fun _ => (#[] : Array Value)))).get? b = some o :=
    fun b o hb e => (Heap.get?_update_other _ _ (Ne.symm hb)).trans e
  refine wpAny_bind (wpAny_letGo ?_)
  obtain ⟨a, b, ⟨_, _, c⟩, d, e, f, g⟩ := hv
  have hv' : ZOk z TI TO i1 i2 l1 l2 xs ys (s.heap.update S (Obj.mapSeq (fun _ => (#[] : Array Value)))) := ⟨oth _ _ O.z a, oth _ _ O.TI b, ⟨_, _, oth _ _ O.TO c⟩, d.at fun o => oth _ o O.i1, e.at fun o => oth _ o O.i2, f.at fun o => oth _ o O.l1, g.at fun o => oth _ o O.l2⟩
  refine lz_extend hh D hv' O hzS hTOS hi1S hi2S hl .none _ hS₂ (fun h' tk acc c as hk hS' hll hG hacc => ?_) hn
  exact hR h' tk acc c as (fun b o hb h2 h3 h4 h5 e => hk b o hb h2 h3 h4 h5 (oth b o hb e)) hS' hll hG hacc
theorem lz_call {Q : Value → Shared → Prop} (hh : A.handled = none) (D : ZipApart z TI TO i1 i2 l1 l2) (hv : ZOk z TI TO i1 i2 l1 l2 xs ys s.heap) (hl : xs.size = ys.size) (hn : xs.size ≤ sizeLine)
    (hQ : ∀ h' tk acc c as, (∀ b o, b ≠ z → b ≠ TO → b ≠ i1 → b ≠ i2 → s.heap.get? b = some o → h'.get? b = some o) → h'.get? s.heap.objs.size = some { cls := .type "list", dict := none, data := .seq acc c, slots := #[] } → as.length = xs.size → LzG xs ys s.heap.objs.size h' as →
      acc.toList = as.map Value.ref → Q (.ref s.heap.objs.size) { s with heap := h', toks := tk }) :
    wpAny (model prog w) A (call (.type "list") [.ref z]) Q E s := by
  refine callType_codes (Q₁ := fun obj s₁ => obj = .ref s.heap.objs.size ∧ s₁ = { s with heap := s.heap.push { cls := .type "list", data := .seq #[] } }) PySem.F.called_list (PySem.F.typeCall_list_1 _) PySem.F.entry_list_init
    (code_list_new _ ⟨rfl, rfl⟩) fun obj s₁ h₁ => ?_
  obtain ⟨rfl, rfl⟩ := h₁
  have hS : (s.heap.push { cls := .type "list", data := .seq #[] }).get? s.heap.objs.size = some { cls := .type "list", data := .seq #[] } := Heap.get?_push_size _ rfl
  obtain ⟨p1, p2, p3, p4, p5, p6, p7⟩ := hv.lt
  refine ⟨⟨_, hS, rfl⟩, PySem.F.args_list_init_2 _ _, lz_init (A := A.in1) hh D (hv.keep fun b o _ e => Heap.get?_push_of_some _ e) ⟨Nat.ne_of_lt p1, Nat.ne_of_lt p2, Nat.ne_of_lt p3, Nat.ne_of_lt p4, Nat.ne_of_lt p5, Nat.ne_of_lt p6, Nat.ne_of_lt p7⟩ p1 p3 p4 p5 hl hS (fun h' tk acc c as hk hS' hll hG hacc => ?_) hn⟩
  exact ⟨rfl, hQ h' tk acc c as (fun b o h2 h3 h4 h5 e => hk b o (Nat.ne_of_lt (Heap.lt_size e)) h2 h3 h4 h5 (Heap.get?_push_of_some _ e)) hS' hll hG hacc⟩
end
open L2
/-- the tuples tracked at their addresses -/
def putP : Hp → List Addr → List (V × V) → Hp
  | H, a :: as, p :: kvs => putP (upd H a (.tup [p.1, p.2])) as kvs
  | H, _, _ => H
theorem putP_off {b : Addr} : ∀ (as : List Addr) (kvs : List (V × V)) (H : Hp), b ∉ as → putP H as kvs b = H b
  | [], _, _, _ => rfl
  | _ :: _, [], _, _ => rfl
  | a :: as, p :: kvs, H, h => by
    show putP (upd H a (.tup [p.1, p.2])) as kvs b = H b
    rw [putP_off as kvs _ (fun z => h (List.mem_cons_of_mem _ z)), upd_ne (fun z => h (by rw [z]; exact List.mem_cons_self))]
theorem putP_at : ∀ (as : List Addr) (kvs : List (V × V)) (H : Hp), as.length = kvs.length → as.Nodup → Paired (fun (t : Addr) (p : V × V) => putP H as kvs t = some (.tup [p.1, p.2])) as kvs
  | [], [], _, _, _ => .nil
  | [], _ :: _, _, h, _ => by cases h
  | _ :: _, [], _, h, _ => by cases h
  | a :: as, p :: kvs, H, h, hn => by
    have hn' := List.nodup_cons.mp hn
    have ih := putP_at as kvs (upd H a (.tup [p.1, p.2])) (Nat.succ.inj h) hn'.2
    refine .cons ?_ ih
    show putP (upd H a (.tup [p.1, p.2])) as kvs a = some (.tup [p.1, p.2])
    rw [putP_off as kvs _ hn'.1, upd_same]
def rListZip (K : PySem.W.Frag) : List V → Hp → VK → Prop := fun vs H Q => ∃ (a b : Addr) (xs ys : List V), vs = [.ref a, .ref b] ∧ SqL K H a xs ∧ SqL K H b ys ∧ xs.length = ys.length ∧
  ∀ (H' : Hp) (p : Addr) (ts : List Addr), (∀ b o, H b = some o → H' b = some o) → H p = none → H' p = some (.lst (ts.map V.ref)) → Paired (fun (t : Addr) (q : V × V) => H' t = some (.tup [q.1, q.2])) ts (xs.zip ys) → Q (.ref p) H'
section
variable {X : Cx} {e e2 : Expr} {ta : TA} {p p2 pos cpos : Pos}
theorem laid {pins : List (Addr × Obj)} {σ : L2.St} {H : Hp} {s : Shared} {h' : Heap} {tk : Nat} {xs ys : List V} {us vs : List Value} {acc : Array Value} {c : Nat} {S : Addr} {as : List Addr} (I : Inv X pins σ H s) (hz : xs.length ≤ sizeLine) (hl : xs.length = ys.length) (rx : Vals xs us) (ry : Vals ys vs)
    (hSs : s.heap.objs.size ≤ S) (hk : ∀ b o, s.heap.get? b = some o → h'.get? b = some o) (hS : h'.get? S = some { cls := .type "list", dict := none, data := .seq acc c, slots := #[] }) (hal : as.length = us.length) (hG : LzG us.toArray vs.toArray S h' as) (hacc : acc.toList = as.map Value.ref) :
    ∃ H' : Hp, (∀ b o, H b = some o → H' b = some o) ∧ H S = none ∧ H' S = some (.lst (as.map V.ref)) ∧ Paired (fun (t : Addr) (q : V × V) => H' t = some (.tup [q.1, q.2])) as (xs.zip ys) ∧ Inv X pins σ H' { s with heap := h', toks := tk } := by
  have lx : xs.length = us.length := rx.length
  have ly : ys.length = vs.length := ry.length
  have lz : (xs.zip ys).length = as.length := by rw [List.length_zip]; omega
  have hSn : S ∉ as := fun z => Nat.lt_irrefl _ (hG.above _ z)
  have nd : as.Nodup := List.Pairwise.imp (fun {a b} (h : a < b) => Nat.ne_of_lt h) hG.rise
  have new : ∀ t ∈ as, H t = none := fun t ht => I.hok.fresh (Nat.le_trans hSs (Nat.le_of_lt (hG.above t ht)))
  have newS : H S = none := I.hok.fresh hSs
  have atP := putP_at as (xs.zip ys) (upd H S (.lst (as.map V.ref))) lz.symm nd
  have off : ∀ b, b ∉ as → b ≠ S → putP (upd H S (.lst (as.map V.ref))) as (xs.zip ys) b = H b := fun b h1 h2 => by rw [putP_off as _ _ h1, upd_ne h2]
  have low : ∀ b o, s.heap.get? b = some o → b ∉ as ∧ b ≠ S := fun b o e => ⟨fun z => absurd (Nat.lt_of_lt_of_le (Heap.lt_size e) hSs) (Nat.not_lt.mpr (Nat.le_of_lt (hG.above b z))), Nat.ne_of_lt (Nat.lt_of_lt_of_le (Heap.lt_size e) hSs)⟩
  have kp : ∀ b u, H b = some u → (putP (upd H S (.lst (as.map V.ref))) as (xs.zip ys)) b = some u := fun b u e => by
    rw [off b (fun z => by rw [new b z] at e; cases e) (fun z => by rw [z, newS] at e; cases e)]
    exact e
  have eS : putP (upd H S (.lst (as.map V.ref))) as (xs.zip ys) S = some (.lst (as.map V.ref)) := by rw [putP_off as _ _ hSn, upd_same]
  refine ⟨putP (upd H S (.lst (as.map V.ref))) as (xs.zip ys), kp, newS, eS, atP, ?_⟩
  refine I.call' (ch := []) rfl ⟨fun b o q _ _ _ => hk b o q, fun b o q _ _ _ => ⟨o.slots, hk b o q⟩, fun b o q n _ => ?_, fun b o q _ => ⟨o, hk b o q⟩, fun b xs q => kp b _ q, fun b o u q => kp b _ q, fun b ps q => ⟨#[], by rw [kp b _ q]; simp⟩⟩ (fun b u q => ?_) I.bare fun b z => by simp at z
  · obtain ⟨z1, z2⟩ := low b o q
    rw [off b z1 z2]
    exact n
  · by_cases hb : b ∈ as
    · obtain ⟨j, pk, e1, e2, e3⟩ := LiI.paired_ix atP hb
      rw [e3] at q
      cases q
      obtain ⟨x, y, f1, f2, f3⟩ := hG.pairs j b e1
      rw [List.getElem?_zip_eq_some] at e2
      obtain ⟨u1, g1, r1⟩ := LiI.paired_get rx e2.1
      obtain ⟨u2, g2, r2⟩ := LiI.paired_get ry e2.2
      have f1 : us[j]? = some x := by simpa using f1
      have f2 : vs[j]? = some y := by simpa using f2
      rw [f1] at g1
      rw [f2] at g2
      cases g1
      cases g2
      exact ⟨by show 2 ≤ sizeLine; decide, [x, y], .cons r1 (.cons r2 .nil), ⟨_, f3, rfl, _, rfl⟩⟩
    · by_cases hb2 : b = S
      · rw [hb2] at q ⊢
        rw [eS] at q
        cases q
        refine ⟨by rw [List.length_map]; omega, acc.toList, c, by rw [hacc]; exact LiI.vals_refs as, ?_⟩
        rw [Array.toArray_toList]
        exact hS
      · rw [off b hb hb2] at q
        exact (I.hok b u q).stay (fun d v _ y => hk d v y) (fun d y => kp d _ y) fun d xs y => kp d _ y
/-- list(zip(e, e2)) -/
theorem pe_listZip (hc : X.calm = true) (ha : PA X [e, e2] ta) (hg : Gl X "list") (hm : X.mg "list" = none) (hg2 : Gl X "zip") (hm2 : X.mg "zip" = none)
    (hs : starEach [.Call (.Name "zip" p2) [e, e2] [] cpos] X.env = (false, eval (.Call (.Name "zip" p2) [e, e2] [] cpos) X.env) :: starEach [] X.env := by rfl)
    (hs2 : starEach [e, e2] X.env = (false, eval e X.env) :: starEach [e2] X.env := by rfl) (hpl2 : (backTo cpos (starEach [e2] X.env)).any (·.1) = false := by rfl) :
    PE X (.Call (.Name "list" p) [.Call (.Name "zip" p2) [e, e2] [] cpos] [] pos) (tCB (rListZip X.K) ta) := by
  refine ⟨fun pins s σ H Q I hq => ?_⟩
  refine wpAny_Call_Name_kw (ld_blt I hg hm (show bootBuiltins "list" = some (.type "list") by decide +kernel) ?_)
  refine PyProof.Rows.callWith_type1 ?_ hs rfl
  rw [hs]
  show wpAny _ _ (spliced ((false, eval (.Call (.Name "zip" p2) [e, e2] [] cpos) X.env) :: backTo pos (starEach [] X.env))) _ _ s
  refine Calls.spliced_cons ?_
  refine Call_ (ld_blt I hg2 hm2 PyProof.Rows.boot_zip (PyProof.Rows.callWith_type1 (thn (ha.run cpos pins s σ H _ I hq) fun us s1 ⟨vs, H1, I1, r1, q1⟩ => ?_) hs2 hpl2))
  obtain ⟨a, b, xs, ys, ex, hqx, hqy, hl, q⟩ := q1
  subst ex
  cases r1 with
  | cons r rr =>
    cases rr with
    | cons r' rr =>
      cases rr
      cases r
      cases r'
      obtain ⟨its, rv, p1, hz⟩ := I1.list hqx
      obtain ⟨its2, rv2, p2', _⟩ := I1.list hqy
      have l1 := rv.length
      have l2 := rv2.length
      refine call_zip_2 p1.isList p2'.isList fun h' hz' hTI hTO h1 h2 hsz hk => ?_
      refine Calls.spliced_nil ?_
      have I2 : Inv X pins σ H1 { s1 with heap := h' } := I1.kept (t' := s1.toks) hk
      refine lz_call (s := { s1 with heap := h' }) (I1.ok.hd hc) (PySem.W.ktu_apart s1.heap.objs.size a b p1.lt p2'.lt) ⟨hz', hTI, ⟨_, _, hTO⟩, h1, h2, p1.isList.at fun o => hk _ o, p2'.isList.at fun o => hk _ o⟩ (by simp only [List.size_toArray]; omega) (by simp only [List.size_toArray]; omega) fun h'' tk acc c as hk2 hS hal hG hacc => ?_
      have hk3 : ∀ b o, s1.heap.get? b = some o → h''.get? b = some o := fun b o e' => by
        have := Heap.lt_size e'
        refine hk2 b o ?_ ?_ ?_ ?_ (hk b o e')
        · exact Nat.ne_of_lt (Nat.lt_of_lt_of_le this (Nat.le_add_right _ _))
        · exact Nat.ne_of_lt (Nat.lt_of_lt_of_le this (Nat.le_add_right _ _))
        · exact Nat.ne_of_lt this
        · exact Nat.ne_of_lt (Nat.lt_of_lt_of_le this (Nat.le_add_right _ _))
      obtain ⟨H', k1, k2, k3, k4, J⟩ := laid (tk := tk) I1 hz hl rv rv2 (by show s1.heap.objs.size ≤ h'.objs.size; rw [hsz]; exact Nat.le_add_right _ _) hk3 hS (by rw [hal]; simp) hG hacc
      exact ⟨.ref _, H', J, rfl, q H' _ as k1 k2 k3 k4⟩
end
end Lz
namespace Dn
open PySem PySem.Spec PyProof.Rows L2 Lz
def dZipL : List D → Option D
  | [.lst xs, .lst ys] => if xs.length = ys.length then some (.lst (zipD xs ys)) else none
  | _ => none
theorem repL_pairs {G : Addr → Prop} {H : Hp} : ∀ {ts : List Addr} {xs ys : List V} {dx dy : List D}, Paired (fun (t : Addr) (q : V × V) => H t = some (.tup [q.1, q.2])) ts (xs.zip ys) → RepL G H xs dx → RepL G H ys dy → RepL G H (ts.map V.ref) (zipD dx dy)
  | ts, [], _, [], _, h, .nil, _ => by cases h; exact .nil
  | ts, _ :: _, [], _ :: _, [], h, _, .nil => by cases h; exact .nil
  | t :: ts, x :: xs, y :: ys, dx :: dxs, dy :: dys, .cons h hs, .cons rx rxs, .cons ry rys => .cons (.tup h (.cons rx (.cons ry .nil))) (repL_pairs hs rxs rys)
theorem dd_listZip {K : PySem.W.Frag} : CallD (rListZip K) dZipL := by
  intro G H vs ds d Q r h q
  unfold dZipL at h
  split at h
  · split at h
    · rename_i hl
      cases h
      cases r with
      | cons ra r => cases r with
        | cons rb r =>
          cases r
          cases ra with
          | lst ga ha rla => cases rb with
            | lst gb hb rlb =>
              refine ⟨_, _, _, _, rfl, SqL.of ha, SqL.of hb, by rw [rla.length, rlb.length]; exact hl, fun H' p ts k1 k2 k3 k4 => ?_⟩
              have s : Same H H' := fun a o e => k1 a o e
              exact q _ H' s (.lst (.inr k2) k3 (repL_pairs k4 (rla.grow s) (rlb.grow s)))
    · cases h
  · cases h
section
variable {X : Cx} {e e2 : Expr} {k : FA} {p p2 pos cpos : Pos}
theorem e_listZip (hm : X.mg "list" = none) (hm2 : X.mg "zip" = none) (ha : PA X [e, e2] (tA k)) (hc : X.calm = true := by rfl) (hg : Gl X "list" := by rfl) (hg2 : Gl X "zip" := by rfl)
    (hs : starEach [.Call (.Name "zip" p2) [e, e2] [] cpos] X.env = (false, eval (.Call (.Name "zip" p2) [e, e2] [] cpos) X.env) :: starEach [] X.env := by rfl)
    (hs2 : starEach [e, e2] X.env = (false, eval e X.env) :: starEach [e2] X.env := by rfl) (hpl2 : (backTo cpos (starEach [e2] X.env)).any (·.1) = false := by rfl) :
    PE X (.Call (.Name "list" p) [.Call (.Name "zip" p2) [e, e2] [] cpos] [] pos) (tE (dCall dZipL k)) := PE.weak (pe_listZip hc ha hg hm hg2 hm2 hs hs2 hpl2) (tCB_of dd_listZip)
end
/-! ### x = [..] on one line, x a local -/
section
variable {Y : Xw} {X : Cx} {y : Str} {py pos spos : Pos} {elt tg iter tg1 iter1 : Expr} {ifs ifs1 : List Expr} {scope : Scope} {it it1 : FI} {g g1 : FG} {t t1 : FT} {f : FE} {ss ss1 : List Nat}
theorem asg_of {i : Nat} {σ : L2.St} {H : Hp} {D : Ends} {fe : FE} (h : tS Y (dAsg i fe) D σ H) : tE fe σ H (fun v H1 => gName i v σ H1 D.nx) := by
  obtain ⟨A, ow, ρ, fl, ρ', E, hg, q⟩ := h
  unfold dAsg at hg
  split at hg
  · rename_i d ρ1 h1
    split at hg
    · rename_i ρ2 h2
      cases hg
      exact ⟨A, ow, ρ, d, ρ1, E, h1, fun v H' E' K' r => q _ H' _ (E'.setDat r h2) (K'.trans kpOff)⟩
    · cases hg
  · cases hg
theorem s_setLc (i : Nat) (own : List (Str × Nat)) (hc : X.calm = true) (hN : X.N.Nodup) (hi : PI X tg iter (tI it)) (ok : BlkOk X.N X.env.scope scope own)
    (hg : ∀ (s : Shared) (H : Hp) (C : Addr) (cl : List (Str × Addr)) (fp : List Addr), PG (X.blk s H scope (compEnvC scope cl C X.env) fp) tg (tG g ss)) (ht : ∀ (s : Shared) (H : Hp) (C : Addr) (cl : List (Str × Addr)) (fp : List Addr), PTs (X.blk s H scope (compEnvC scope cl C X.env) fp) ifs (tT t))
    (he : ∀ (s : Shared) (H : Hp) (C : Addr) (cl : List (Str × Addr)) (fp : List Addr), PE (X.blk s H scope (compEnvC scope cl C X.env) fp) elt (tE f)) (hss : ∀ i ∈ ss, i ∈ own.map (·.2) := by decide)
    (hy : X.N[i]? = some y := by rfl) (hyl : X.env.scope.names.lookup y = some .local := by rfl) (hsw : swapsWith (.ListComp elt [⟨tg, iter, ifs, 0⟩] scope pos) (some (.Name y py)) spos.line X.env = pure true := by exact sw_true rfl rfl rfl rfl) (hs : ∀ x, foldedSetIterable iter X.env x = pure x := by intro _; rfl) :
    PS X (.Assign [.Name y py] (.ListComp elt [⟨tg, iter, ifs, 0⟩] scope pos) spos) (tS Y (dAsg i (dLc it g t f (own.map (·.2))))) :=
  PS.weak (ps_setLc hc hN hy hyl hsw hi ok hg ht he hs) fun D σ H h => lc_of (K := X.K) hss σ H _ (asg_of h)
theorem s_setLc2 (i : Nat) (own : List (Str × Nat)) (vs1 : List Nat) (hc : X.calm = true) (hN : X.N.Nodup) (hi : PI X tg iter (tI it)) (ok : BlkOk X.N X.env.scope scope own)
    (hg : ∀ (s : Shared) (H : Hp) (C : Addr) (cl : List (Str × Addr)) (fp : List Addr), PG (X.blk s H scope (compEnvC scope cl C X.env) fp) tg (tG g ss)) (ht : ∀ (s : Shared) (H : Hp) (C : Addr) (cl : List (Str × Addr)) (fp : List Addr), PTs (X.blk s H scope (compEnvC scope cl C X.env) fp) ifs (tT t))
    (hi1 : ∀ (s : Shared) (H : Hp) (C : Addr) (cl : List (Str × Addr)) (fp : List Addr), PI (X.blk s H scope (compEnvC scope cl C X.env) fp) tg1 iter1 (tI it1))
    (hg1 : ∀ (s : Shared) (H : Hp) (C : Addr) (cl : List (Str × Addr)) (fp : List Addr), PG (X.blk s H scope (compEnvC scope cl C X.env) fp) tg1 (tG g1 ss1)) (ht1 : ∀ (s : Shared) (H : Hp) (C : Addr) (cl : List (Str × Addr)) (fp : List Addr), PTs (X.blk s H scope (compEnvC scope cl C X.env) fp) ifs1 (tT t1))
    (he : ∀ (s : Shared) (H : Hp) (C : Addr) (cl : List (Str × Addr)) (fp : List Addr), PE (X.blk s H scope (compEnvC scope cl C X.env) fp) elt (tE f)) (hss : ∀ i ∈ ss, i ∈ own.map (·.2) := by decide) (hs1 : ∀ i ∈ ss1, i ∈ vs1 := by decide) (hv : ∀ i ∈ vs1, i ∈ own.map (·.2) := by decide)
    (hy : X.N[i]? = some y := by rfl) (hyl : X.env.scope.names.lookup y = some .local := by rfl) (hsw : swapsWith (.ListComp elt [⟨tg, iter, ifs, 0⟩, ⟨tg1, iter1, ifs1, 0⟩] scope pos) (some (.Name y py)) spos.line X.env = pure true := by exact sw_true rfl rfl rfl rfl)
    (hs : ∀ x, foldedSetIterable iter X.env x = pure x := by intro _; rfl) (hs1' : ∀ env x, foldedSetIterable iter1 env x = pure x := by intro _ _; rfl) :
    PS X (.Assign [.Name y py] (.ListComp elt [⟨tg, iter, ifs, 0⟩, ⟨tg1, iter1, ifs1, 0⟩] scope pos) spos) (tS Y (dAsg i (dLc2 it g t it1 g1 t1 f (own.map (·.2)) vs1))) :=
  PS.weak (ps_setLc2 hc hN hy hyl hsw hi ok hv hg ht hi1 hg1 ht1 he hs hs1') fun D σ H h => lc2_of hss hs1 hv σ H _ (asg_of h)
end
end Dn

set_option Elab.async false
set_option linter.all false
set_option maxRecDepth 100000
set_option maxHeartbeats 4000000
namespace K18
open PySem PySem.Spec PyProof.Rows L2 Dn
def topS (i : Nat) : Stmt := PySem.Challenge.pw_threeexits_k18_frames_judged.main.body.getD i (.Pass ⟨0, 0, 0, 0⟩)
structure Bi (mg : Str → Option Value) : Prop where
  len : mg "len" = none
  all : mg "all" = none
  any : mg "any" = none
  sum : mg "sum" = none
  tuple : mg "tuple" = none
  list : mg "list" = none
  int : mg "int" = none
  bool : mg "bool" = none
  str : mg "str" = none
  max : mg "max" = none
  min : mg "min" = none
  sorted : mg "sorted" = none
  set : mg "set" = none
  zip : mg "zip" = none
  enumerate : mg "enumerate" = none
  range : mg "range" = none
  isinstance : mg "isinstance" = none
  repr : mg "repr" = none
  abs : mg "abs" = none
structure Co (mg : Str → Option Value) : Prop where
  dummy : True
  c_FEWEST_SIDES : ∃ t, mg "FEWEST_SIDES" = some (.int 3 t)
  c_MOST_SIDES : ∃ t, mg "MOST_SIDES" = some (.int 8 t)

structure Errs (K : PySem.W.Frag) (mg : Str → Option Value) : Prop where
  dummy : True
  e_NoSides : ErrC K mg "NoSides"
  x_NoSides : ∀ C, mg "NoSides" = some (.ref C) → ExcC K C
  s0_StrokeError : ∃ S, mg "StrokeError" = some (.ref S) ∧ Catch K mg (.ref S) (caL [("NoSides", true)])
  b_gcd : mg "gcd" = some (.builtin "math.gcd")
  b_lcm : mg "lcm" = some (.builtin "math.lcm")
  i_NoSides_NoFrame : IsE K mg "NoSides" "NoFrame" false
  i_NoSides_NoSides : IsE K mg "NoSides" "NoSides" true
  i_NoSides_NoWeights : IsE K mg "NoSides" "NoWeights" false
  i_NoSides_ValueError : IsE K mg "NoSides" "ValueError" true
noncomputable section
variable {P : Program} {w : World} {K : PySem.W.Frag} {mg : Str → Option Value} {base : Heap}
abbrev st_is_integer : Stmt := topS 7
def g_is_integer : FS := dRet (dAndV (dUn (isTy "int") (dVar 0)) (dNotV (dUn (isTy "bool") (dVar 0))))
theorem sc_is_integer : FnScope ["thing"] ["thing"] (defScope st_is_integer) := ⟨rfl, rfl, rfl, by decide +kernel, rfl, by decide +kernel, by decide +kernel⟩
theorem d_is_integer (B : Bi mg) (C : Co mg) (Er : Errs K mg) (T : At K mg "is_integer" st_is_integer) : Df P w K mg base "is_integer" 1 ["thing"] (run g_is_integer 1 1) := by
  refine T.df sc_is_integer (fun _ _ _ _ _ _ us hl => match us, hl with | [_], _ => rfl) fun f cdv A outer s H E hr => ?_
  have hu65 := hr.units65
  exact ss_one (s_ret (e_and (e_isi (e_var 0) B.isinstance B.int boot_int) (e_one (e_not (e_isi (e_var 0) B.isinstance B.bool boot_bool)))))
abbrev m_is_integer : List D → Option D := run g_is_integer 1 1
abbrev st_is_row : Stmt := topS 8
def g_is_row : FS := dRet (dAndV (dUn (isTy "tuple") (dVar 0)) (dCall (dFold fun bs => .bl (bs.all id)) (dCons (dLc (dItems (dVar 0)) (gSet 1) (dYes) (dCall m_is_integer (dCons (dVar 1) (dNil))) [1]) (dNil))))
theorem sc_is_row : FnScope ["thing", "item"] ["thing"] (defScope st_is_row) := ⟨rfl, rfl, rfl, by decide +kernel, rfl, by decide +kernel, by decide +kernel⟩
theorem d_is_row (B : Bi mg) (C : Co mg) (Er : Errs K mg) (F_is_integer : Df P w K mg base "is_integer" 1 ["thing"] m_is_integer) (T : At K mg "is_row" st_is_row) : Df P w K mg base "is_row" 2 ["thing"] (run g_is_row 2 1) := by
  refine T.df sc_is_row (fun _ _ _ _ _ _ us hl => match us, hl with | [_], _ => rfl) fun f cdv A outer s H E hr => ?_
  have hu65 := hr.units65
  exact ss_one (s_ret (e_and (e_isi (e_var 0) B.isinstance B.tuple boot_tuple) (e_one (e_callB (cr_all rfl) dd_all B.all boot_all (a_cons (e_lc [("item", 1)] rfl sc_is_row.nd (i_sq (e_var 0)) (blkOk_by (N := ["thing", "item"]) (sc := defScope st_is_row) (by decide +kernel)) (fun _ _ _ _ _ => g_name 1 sc_is_row.nd) (fun _ _ _ _ _ => ts_nil) (fun _ _ _ _ _ => e_df F_is_integer (hr.mono (by decide)) (a_cons (e_var 1) (a_nil)))) (a_nil))))))
abbrev m_is_row : List D → Option D := run g_is_row 2 1
abbrev st_are_sides : Stmt := topS 12
def g_are_sides : FS := dRet (dAndV (dCall m_is_integer (dCons (dVar 0) (dNil))) (dChain dLe dLe (dC (.int 3)) (dVar 0) (dC (.int 8))))
theorem sc_are_sides : FnScope ["thing"] ["thing"] (defScope st_are_sides) := ⟨rfl, rfl, rfl, by decide +kernel, rfl, by decide +kernel, by decide +kernel⟩
theorem d_are_sides (B : Bi mg) (C : Co mg) (Er : Errs K mg) (F_is_integer : Df P w K mg base "is_integer" 1 ["thing"] m_is_integer) (T : At K mg "are_sides" st_are_sides) : Df P w K mg base "are_sides" 2 ["thing"] (run g_are_sides 1 1) := by
  refine T.df sc_are_sides (fun _ _ _ _ _ _ us hl => match us, hl with | [_], _ => rfl) fun f cdv A outer s H E hr => ?_
  have hu65 := hr.units65
  exact ss_one (s_ret (e_and (e_df F_is_integer (hr.mono (by decide)) (a_cons (e_var 0) (a_nil))) (e_one (e_chain op_le dd_cmp op_le dd_cmp (e_globI C.c_FEWEST_SIDES) (e_var 0) (e_globI C.c_MOST_SIDES)))))
abbrev m_are_sides : List D → Option D := run g_are_sides 1 1
abbrev st_is_fraction : Stmt := topS 14
def g_is_fraction : FS := dRet (dAndV (dCall m_is_row (dCons (dVar 0) (dNil))) (dAndV (dOp dEq (dCall dLen (dCons (dVar 0) (dNil))) (dC (.int 2))) (dAndV (dOp dGe (dOp dIx (dVar 0) (dC (.int 1))) (dC (.int 1))) (dOp dEq (dCall dGcd (dCons (dOp dIx (dVar 0) (dC (.int 0))) (dCons (dOp dIx (dVar 0) (dC (.int 1))) (dNil)))) (dC (.int 1))))))
theorem sc_is_fraction : FnScope ["thing"] ["thing"] (defScope st_is_fraction) := ⟨rfl, rfl, rfl, by decide +kernel, rfl, by decide +kernel, by decide +kernel⟩
theorem d_is_fraction (B : Bi mg) (C : Co mg) (Er : Errs K mg) (F_is_row : Df P w K mg base "is_row" 2 ["thing"] m_is_row) (T : At K mg "is_fraction" st_is_fraction) : Df P w K mg base "is_fraction" 3 ["thing"] (run g_is_fraction 1 1) := by
  refine T.df sc_is_fraction (fun _ _ _ _ _ _ us hl => match us, hl with | [_], _ => rfl) fun f cdv A outer s H E hr => ?_
  have hu65 := hr.units65
  exact ss_one (s_ret (e_and (e_df F_is_row (hr.mono (by decide)) (a_cons (e_var 0) (a_nil))) (e_and (e_cmp (op_eqD hr.units) dd_eq (e_callB call_len_seq dd_len B.len PySem.boot_len (a_cons (e_var 0) (a_nil))) (e_int) (nomark _)) (e_and (e_cmp op_ge dd_cmp (e_ix (e_var 0) (e_int)) (e_int) (nomark _)) (e_one (e_cmp (op_eqD hr.units) dd_eq (e_callBf cr_gcd dd_gcd Er.b_gcd (a_cons (e_ix (e_var 0) (e_int)) (a_cons (e_ix (e_var 0) (e_int)) (a_nil)))) (e_int) (nomark _)))))))
abbrev m_is_fraction : List D → Option D := run g_is_fraction 1 1
abbrev st_is_point : Stmt := topS 15
def g_is_point : FS := dRet (dAndV (dUn (isTy "tuple") (dVar 0)) (dAndV (dOp dEq (dCall dLen (dCons (dVar 0) (dNil))) (dC (.int 2))) (dAndV (dCall m_is_fraction (dCons (dOp dIx (dVar 0) (dC (.int 0))) (dNil))) (dCall m_is_fraction (dCons (dOp dIx (dVar 0) (dC (.int 1))) (dNil))))))
theorem sc_is_point : FnScope ["thing"] ["thing"] (defScope st_is_point) := ⟨rfl, rfl, rfl, by decide +kernel, rfl, by decide +kernel, by decide +kernel⟩
theorem d_is_point (B : Bi mg) (C : Co mg) (Er : Errs K mg) (F_is_fraction : Df P w K mg base "is_fraction" 3 ["thing"] m_is_fraction) (T : At K mg "is_point" st_is_point) : Df P w K mg base "is_point" 4 ["thing"] (run g_is_point 1 1) := by
  refine T.df sc_is_point (fun _ _ _ _ _ _ us hl => match us, hl with | [_], _ => rfl) fun f cdv A outer s H E hr => ?_
  have hu65 := hr.units65
  exact ss_one (s_ret (e_and (e_isi (e_var 0) B.isinstance B.tuple boot_tuple) (e_and (e_cmp (op_eqD hr.units) dd_eq (e_callB call_len_seq dd_len B.len PySem.boot_len (a_cons (e_var 0) (a_nil))) (e_int) (nomark _)) (e_and (e_df F_is_fraction (hr.mono (by decide)) (a_cons (e_ix (e_var 0) (e_int)) (a_nil))) (e_one (e_df F_is_fraction (hr.mono (by decide)) (a_cons (e_ix (e_var 0) (e_int)) (a_nil))))))))
abbrev m_is_point : List D → Option D := run g_is_point 1 1
abbrev st_are_points : Stmt := topS 16
def g_are_points : FS := dRet (dAndV (dUn (isTy "tuple") (dVar 0)) (dAndV (dOp dEq (dCall dLen (dCons (dVar 0) (dNil))) (dVar 1)) (dCall (dFold fun bs => .bl (bs.all id)) (dCons (dLc (dItems (dVar 0)) (gSet 2) (dYes) (dCall m_is_point (dCons (dVar 2) (dNil))) [2]) (dNil)))))
theorem sc_are_points : FnScope ["thing", "many", "item"] ["thing", "many"] (defScope st_are_points) := ⟨rfl, rfl, rfl, by decide +kernel, rfl, by decide +kernel, by decide +kernel⟩
theorem d_are_points (B : Bi mg) (C : Co mg) (Er : Errs K mg) (F_is_point : Df P w K mg base "is_point" 4 ["thing"] m_is_point) (T : At K mg "are_points" st_are_points) : Df P w K mg base "are_points" 5 ["thing", "many"] (run g_are_points 3 2) := by
  refine T.df sc_are_points (fun _ _ _ _ _ _ us hl => match us, hl with | [_, _], _ => rfl) fun f cdv A outer s H E hr => ?_
  have hu65 := hr.units65
  exact ss_one (s_ret (e_and (e_isi (e_var 0) B.isinstance B.tuple boot_tuple) (e_and (e_cmp (op_eqD hr.units) dd_eq (e_callB call_len_seq dd_len B.len PySem.boot_len (a_cons (e_var 0) (a_nil))) (e_var 1) (nomark _)) (e_one (e_callB (cr_all rfl) dd_all B.all boot_all (a_cons (e_lc [("item", 2)] rfl sc_are_points.nd (i_sq (e_var 0)) (blkOk_by (N := ["thing", "many", "item"]) (sc := defScope st_are_points) (by decide +kernel)) (fun _ _ _ _ _ => g_name 2 sc_are_points.nd) (fun _ _ _ _ _ => ts_nil) (fun _ _ _ _ _ => e_df F_is_point (hr.mono (by decide)) (a_cons (e_var 2) (a_nil)))) (a_nil)))))))
abbrev m_are_points : List D → Option D := run g_are_points 3 2
abbrev st_over_one_bottom : Stmt := topS 17
def g_over_one_bottom : FS := dSeq (dAsg 1 (dC (.int 1))) (dSeq (dFor (dItems (dVar 0)) (gSet 2) (dAsg 1 (dCall dLcm (dCons (dVar 1) (dCons (dOp dIx (dVar 2) (dC (.int 1))) (dNil)))))) (dRet (dTup (dCons (dVar 1) (dCons (dLc (dItems (dVar 0)) (gTupD (gsCons (gSet 3) (gsCons (gSet 4) (gsNil))) 2) (dYes) (dOp dMul (dVar 3) (dOp dDiv (dVar 1) (dVar 4))) [3, 4]) (dNil))))))
theorem sc_over_one_bottom : FnScope ["fractions", "bottom", "fraction", "top", "own"] ["fractions"] (defScope st_over_one_bottom) := ⟨rfl, rfl, rfl, by decide +kernel, rfl, by decide +kernel, by decide +kernel⟩
theorem d_over_one_bottom (B : Bi mg) (C : Co mg) (Er : Errs K mg) (T : At K mg "over_one_bottom" st_over_one_bottom) : Df P w K mg base "over_one_bottom" 1 ["fractions"] (run g_over_one_bottom 5 1) := by
  refine T.df sc_over_one_bottom (fun _ _ _ _ _ _ us hl => match us, hl with | [_], _ => rfl) fun f cdv A outer s H E hr => ?_
  have hu65 := hr.units65
  exact ss_cons (s_set 1 sc_over_one_bottom.nd (e_int)) (ss_cons (s_for rfl (i_sq (e_var 0)) (g_name 2 sc_over_one_bottom.nd) (ss_one (s_set 1 sc_over_one_bottom.nd (e_callBf cr_lcm dd_lcm Er.b_lcm (a_cons (e_var 1) (a_cons (e_ix (e_var 2) (e_int)) (a_nil))))))) (ss_one (s_ret (e_tup (a_cons (e_var 1) (a_cons (e_lc [("top", 3), ("own", 4)] rfl sc_over_one_bottom.nd (i_sq (e_var 0)) (blkOk_by (N := ["fractions", "bottom", "fraction", "top", "own"]) (sc := defScope st_over_one_bottom) (by decide +kernel)) (fun _ _ _ _ _ => g_tup rfl (gs_cons (g_name 3 sc_over_one_bottom.nd) (gs_cons (g_name 4 sc_over_one_bottom.nd) (gs_nil)))) (fun _ _ _ _ _ => ts_nil) (fun _ _ _ _ _ => e_op or_mul dd_mul (e_var 3) (e_op op_fdivW dd_div (e_var 1) (e_var 4)))) (a_nil)))))))
abbrev m_over_one_bottom : List D → Option D := run g_over_one_bottom 5 1
abbrev st_stretched : Stmt := topS 18
def g_stretched : FS := dSeq (dAsgG (dCall m_over_one_bottom (dCons (dLc (dItems (dVar 0)) (gSet 5) (dYes) (dOp dIx (dVar 5) (dC (.int 0))) [5]) (dNil))) (gTupD (gsCons (gSet 1) (gsCons (gSet 2) (gsNil))) 2)) (dSeq (dAsgG (dCall m_over_one_bottom (dCons (dLc (dItems (dVar 0)) (gSet 5) (dYes) (dOp dIx (dVar 5) (dC (.int 1))) [5]) (dNil))) (gTupD (gsCons (gSet 3) (gsCons (gSet 4) (gsNil))) 2)) (dRet (dTup (dCons (dOp dMul (dVar 1) (dVar 3)) (dCons (dCall dZipL (dCons (dVar 2) (dCons (dVar 4) (dNil)))) (dNil))))))
theorem sc_stretched : FnScope ["points", "wider", "rights", "higher", "ups", "point"] ["points"] (defScope st_stretched) := ⟨rfl, rfl, rfl, by decide +kernel, rfl, by decide +kernel, by decide +kernel⟩
theorem d_stretched (B : Bi mg) (C : Co mg) (Er : Errs K mg) (F_over_one_bottom : Df P w K mg base "over_one_bottom" 1 ["fractions"] m_over_one_bottom) (T : At K mg "stretched" st_stretched) : Df P w K mg base "stretched" 2 ["points"] (run g_stretched 6 1) := by
  refine T.df sc_stretched (fun _ _ _ _ _ _ us hl => match us, hl with | [_], _ => rfl) fun f cdv A outer s H E hr => ?_
  have hu65 := hr.units65
  exact ss_cons (s_asg (e_df F_over_one_bottom (hr.mono (by decide)) (a_cons (e_lc [("point", 5)] rfl sc_stretched.nd (i_sq (e_var 0)) (blkOk_by (N := ["points", "wider", "rights", "higher", "ups", "point"]) (sc := defScope st_stretched) (by decide +kernel)) (fun _ _ _ _ _ => g_name 5 sc_stretched.nd) (fun _ _ _ _ _ => ts_nil) (fun _ _ _ _ _ => e_ix (e_var 5) (e_int))) (a_nil))) (g_tup rfl (gs_cons (g_name 1 sc_stretched.nd) (gs_cons (g_name 2 sc_stretched.nd) (gs_nil))))) (ss_cons (s_asg (e_df F_over_one_bottom (hr.mono (by decide)) (a_cons (e_lc [("point", 5)] rfl sc_stretched.nd (i_sq (e_var 0)) (blkOk_by (N := ["points", "wider", "rights", "higher", "ups", "point"]) (sc := defScope st_stretched) (by decide +kernel)) (fun _ _ _ _ _ => g_name 5 sc_stretched.nd) (fun _ _ _ _ _ => ts_nil) (fun _ _ _ _ _ => e_ix (e_var 5) (e_int))) (a_nil))) (g_tup rfl (gs_cons (g_name 3 sc_stretched.nd) (gs_cons (g_name 4 sc_stretched.nd) (gs_nil))))) (ss_one (s_ret (e_tup (a_cons (e_op or_mul dd_mul (e_var 1) (e_var 3)) (a_cons (e_listZip B.list B.zip (a_cons (e_var 2) (a_cons (e_var 4) (a_nil)))) (a_nil)))))))
abbrev m_stretched : List D → Option D := run g_stretched 6 1
abbrev st_turn : Stmt := topS 19
def g_turn : FS := dRet (dOp dSub (dOp dMul (dOp dSub (dOp dIx (dVar 1) (dC (.int 0))) (dOp dIx (dVar 0) (dC (.int 0)))) (dOp dSub (dOp dIx (dVar 2) (dC (.int 1))) (dOp dIx (dVar 1) (dC (.int 1))))) (dOp dMul (dOp dSub (dOp dIx (dVar 1) (dC (.int 1))) (dOp dIx (dVar 0) (dC (.int 1)))) (dOp dSub (dOp dIx (dVar 2) (dC (.int 0))) (dOp dIx (dVar 1) (dC (.int 0))))))
theorem sc_turn : FnScope ["one", "here", "other"] ["one", "here", "other"] (defScope st_turn) := ⟨rfl, rfl, rfl, by decide +kernel, rfl, by decide +kernel, by decide +kernel⟩
theorem d_turn (B : Bi mg) (C : Co mg) (Er : Errs K mg) (T : At K mg "turn" st_turn) : Df P w K mg base "turn" 1 ["one", "here", "other"] (run g_turn 3 3) := by
  refine T.df sc_turn (fun _ _ _ _ _ _ us hl => match us, hl with | [_, _, _], _ => rfl) fun f cdv A outer s H E hr => ?_
  have hu65 := hr.units65
  exact ss_one (s_ret (e_op op_sub dd_sub (e_op or_mul dd_mul (e_op op_sub dd_sub (e_ix (e_var 1) (e_int)) (e_ix (e_var 0) (e_int))) (e_op op_sub dd_sub (e_ix (e_var 2) (e_int)) (e_ix (e_var 1) (e_int)))) (e_op or_mul dd_mul (e_op op_sub dd_sub (e_ix (e_var 1) (e_int)) (e_ix (e_var 0) (e_int))) (e_op op_sub dd_sub (e_ix (e_var 2) (e_int)) (e_ix (e_var 1) (e_int))))))
abbrev m_turn : List D → Option D := run g_turn 3 3
abbrev st_is_side : Stmt := topS 22
def g_is_side : FS := dSeq (dAsgG (dTup (dCons (dOp dIx (dVar 0) (dOp dSub (dVar 1) (dC (.int 1)))) (dCons (dOp dIx (dVar 0) (dVar 1)) (dNil)))) (gTupD (gsCons (gSet 2) (gsCons (gSet 3) (gsNil))) 2)) (dSeq (dAsg 4 (dLc (dEnum (dCons (dVar 0) (dNil))) (gTupD (gsCons (gSet 5) (gsCons (gSet 6) (gsNil))) 2) (dB (dOp dNotIn2 (dVar 5) (dTup (dCons (dVar 1) (dCons (dOp dMod (dOp dSub (dVar 1) (dC (.int 1))) (dCall dLen (dCons (dVar 0) (dNil)))) (dNil)))))) (dVar 6) [5, 6])) (dRet (dCall (dFold fun bs => .bl (bs.all id)) (dCons (dLc (dItems (dVar 4)) (gSet 7) (dYes) (dOp dGt (dCall m_turn (dCons (dVar 2) (dCons (dVar 3) (dCons (dVar 7) (dNil))))) (dC (.int 0))) [7]) (dNil)))))
theorem sc_is_side : FnScope ["corners", "at", "one", "here", "others", "number", "corner", "other"] ["corners", "at"] (defScope st_is_side) := ⟨rfl, rfl, rfl, by decide +kernel, rfl, by decide +kernel, by decide +kernel⟩
theorem d_is_side (B : Bi mg) (C : Co mg) (Er : Errs K mg) (F_turn : Df P w K mg base "turn" 1 ["one", "here", "other"] m_turn) (T : At K mg "is_side" st_is_side) : Df P w K mg base "is_side" 2 ["corners", "at"] (run g_is_side 8 2) := by
  refine T.df sc_is_side (fun _ _ _ _ _ _ us hl => match us, hl with | [_, _], _ => rfl) fun f cdv A outer s H E hr => ?_
  have hu65 := hr.units65
  exact ss_cons (s_asg (e_tup (a_cons (e_ix (e_var 0) (e_op op_sub dd_sub (e_var 1) (e_int))) (a_cons (e_ix (e_var 0) (e_var 1)) (a_nil)))) (g_tup rfl (gs_cons (g_name 2 sc_is_side.nd) (gs_cons (g_name 3 sc_is_side.nd) (gs_nil))))) (ss_cons (s_setLc 4 [("number", 5), ("corner", 6)] rfl sc_is_side.nd (i_enum B.enumerate (a_cons (e_var 0) (a_nil))) (blkOk_by (N := ["corners", "at", "one", "here", "others", "number", "corner", "other"]) (sc := defScope st_is_side) (by decide +kernel)) (fun _ _ _ _ _ => g_tup rfl (gs_cons (g_name 5 sc_is_side.nd) (gs_cons (g_name 6 sc_is_side.nd) (gs_nil)))) (fun _ _ _ _ _ => ts_one (t_cmp (or_notIn2 hu65) dd_notIn2 (e_var 5) (e_tup (a_cons (e_var 1) (a_cons (e_op op_mod dd_mod (e_op op_sub dd_sub (e_var 1) (e_int)) (e_callB call_len_seq dd_len B.len PySem.boot_len (a_cons (e_var 0) (a_nil)))) (a_nil)))) (by with_unfolding_all rfl))) (fun _ _ _ _ _ => e_var 6)) (ss_one (s_ret (e_callB (cr_all rfl) dd_all B.all boot_all (a_cons (e_lc [("other", 7)] rfl sc_is_side.nd (i_sq (e_var 4)) (blkOk_by (N := ["corners", "at", "one", "here", "others", "number", "corner", "other"]) (sc := defScope st_is_side) (by decide +kernel)) (fun _ _ _ _ _ => g_name 7 sc_is_side.nd) (fun _ _ _ _ _ => ts_nil) (fun _ _ _ _ _ => e_cmp op_gt dd_cmp (e_df F_turn (hr.mono (by decide)) (a_cons (e_var 2) (a_cons (e_var 3) (a_cons (e_var 7) (a_nil))))) (e_int) (nomark _))) (a_nil))))))
abbrev m_is_side : List D → Option D := run g_is_side 8 2
abbrev st_is_frame : Stmt := topS 21
def g_is_frame : FS := dSeq (dIf (dNotT (dB (dCall m_are_points (dCons (dVar 1) (dCons (dVar 0) (dNil)))))) (dRet (dC (.bl false))) (dNext)) (dSeq (dAsgG (dCall m_stretched (dCons (dVar 1) (dNil))) (gTupD (gsCons (gSet 2) (gsCons (gSet 3) (gsNil))) 2)) (dRet (dCall (dFold fun bs => .bl (bs.all id)) (dCons (dLc (dRng1 (dCons (dVar 0) (dNil))) (gSet 4) (dYes) (dCall m_is_side (dCons (dVar 3) (dCons (dVar 4) (dNil)))) [4]) (dNil)))))
theorem sc_is_frame : FnScope ["sides", "thing", "_", "corners", "at"] ["sides", "thing"] (defScope st_is_frame) := ⟨rfl, rfl, rfl, by decide +kernel, rfl, by decide +kernel, by decide +kernel⟩
theorem d_is_frame (B : Bi mg) (C : Co mg) (Er : Errs K mg) (F_are_points : Df P w K mg base "are_points" 5 ["thing", "many"] m_are_points) (F_stretched : Df P w K mg base "stretched" 2 ["points"] m_stretched) (F_is_side : Df P w K mg base "is_side" 2 ["corners", "at"] m_is_side) (T : At K mg "is_frame" st_is_frame) : Df P w K mg base "is_frame" 6 ["sides", "thing"] (run g_is_frame 5 2) := by
  refine T.df sc_is_frame (fun _ _ _ _ _ _ us hl => match us, hl with | [_, _], _ => rfl) fun f cdv A outer s H E hr => ?_
  have hu65 := hr.units65
  exact ss_cons (s_if (t_not (t_val (e_df F_are_points (hr.mono (by decide)) (a_cons (e_var 1) (a_cons (e_var 0) (a_nil)))))) (ss_one (s_ret (e_bl))) (ss_nil)) (ss_cons (s_asg (e_df F_stretched (hr.mono (by decide)) (a_cons (e_var 1) (a_nil))) (g_tup rfl (gs_cons (g_name 2 sc_is_frame.nd) (gs_cons (g_name 3 sc_is_frame.nd) (gs_nil))))) (ss_one (s_ret (e_callB (cr_all rfl) dd_all B.all boot_all (a_cons (e_lc [("at", 4)] rfl sc_is_frame.nd (i_rng1 B.range (a_cons (e_var 0) (a_nil))) (blkOk_by (N := ["sides", "thing", "_", "corners", "at"]) (sc := defScope st_is_frame) (by decide +kernel)) (fun _ _ _ _ _ => g_name 4 sc_is_frame.nd) (fun _ _ _ _ _ => ts_nil) (fun _ _ _ _ _ => e_df F_is_side (hr.mono (by decide)) (a_cons (e_var 3) (a_cons (e_var 4) (a_nil))))) (a_nil))))))
abbrev m_is_frame : List D → Option D := run g_is_frame 5 2
abbrev st_plain_frame : Stmt := topS 23
def g_plain_frame : FS := dSeq (dIf (dNotT (dB (dCall m_are_sides (dCons (dVar 0) (dNil))))) (dRaise "NoSides") (dNext)) (dRet (dCall dTuple (dCons (dLc (dRng1 (dCons (dVar 0) (dNil))) (gSet 1) (dYes) (dTup (dCons (dTup (dCons (dVar 1) (dCons (dC (.int 1)) (dNil)))) (dCons (dTup (dCons (dOp dMul (dVar 1) (dVar 1)) (dCons (dC (.int 1)) (dNil)))) (dNil)))) [1]) (dNil))))
theorem sc_plain_frame : FnScope ["sides", "corner"] ["sides"] (defScope st_plain_frame) := ⟨rfl, rfl, rfl, by decide +kernel, rfl, by decide +kernel, by decide +kernel⟩
theorem d_plain_frame (B : Bi mg) (C : Co mg) (Er : Errs K mg) (F_are_sides : Df P w K mg base "are_sides" 2 ["thing"] m_are_sides) (T : At K mg "plain_frame" st_plain_frame) : Df P w K mg base "plain_frame" 3 ["sides"] (run g_plain_frame 2 1) := by
  refine T.df sc_plain_frame (fun _ _ _ _ _ _ us hl => match us, hl with | [_], _ => rfl) fun f cdv A outer s H E hr => ?_
  have hu65 := hr.units65
  exact ss_cons (s_if (t_not (t_val (e_df F_are_sides (hr.mono (by decide)) (a_cons (e_var 0) (a_nil))))) (ss_one (s_raise0 Er.e_NoSides rfl takes0)) (ss_nil)) (ss_one (s_ret (e_callTy call_tuple_of dd_tuple B.tuple boot_tuple (a_cons (e_lc [("corner", 1)] rfl sc_plain_frame.nd (i_rng1 B.range (a_cons (e_var 0) (a_nil))) (blkOk_by (N := ["sides", "corner"]) (sc := defScope st_plain_frame) (by decide +kernel)) (fun _ _ _ _ _ => g_name 1 sc_plain_frame.nd) (fun _ _ _ _ _ => ts_nil) (fun _ _ _ _ _ => e_tup (a_cons (e_tup (a_cons (e_var 1) (a_cons (e_int) (a_nil)))) (a_cons (e_tup (a_cons (e_op or_mul dd_mul (e_var 1) (e_var 1)) (a_cons (e_int) (a_nil)))) (a_nil))))) (a_nil)))))
abbrev m_plain_frame : List D → Option D := run g_plain_frame 2 1
def gE_plain_frame : FS := dSeq (dIf (dNotT (dB (dCall m_are_sides (dCons (dVar 0) (dNil))))) (dRaise "NoSides") (dNext)) (dRet (dCall dTuple (dCons (dLc (dRng1 (dCons (dVar 0) (dNil))) (gSet 1) (dYes) (dTup (dCons (dTup (dCons (dVar 1) (dCons (dC (.int 1)) (dNil)))) (dCons (dTup (dCons (dOp dMul (dVar 1) (dVar 1)) (dCons (dC (.int 1)) (dNil)))) (dNil)))) [1]) (dNil))))
theorem dE_plain_frame (B : Bi mg) (C : Co mg) (Er : Errs K mg) (F_are_sides : Df P w K mg base "are_sides" 2 ["thing"] m_are_sides) (T : At K mg "plain_frame" st_plain_frame) : De P w K mg base "plain_frame" 3 ["sides"] (runE gE_plain_frame 2 1) := by
  refine T.de sc_plain_frame (fun _ _ _ _ _ _ us hl => match us, hl with | [_], _ => rfl) fun f cdv A outer s H E hr => ?_
  have hu65 := hr.units65
  exact ss_cons (s_if (t_not (t_val (e_df F_are_sides (hr.mono (by decide)) (a_cons (e_var 0) (a_nil))))) (ss_one (s_raise0 Er.e_NoSides rfl (takes_of rfl rfl rfl rfl))) (ss_nil)) (ss_one (s_ret (e_callTy call_tuple_of dd_tuple B.tuple boot_tuple (a_cons (e_lc [("corner", 1)] rfl sc_plain_frame.nd (i_rng1 B.range (a_cons (e_var 0) (a_nil))) (blkOk_by (N := ["sides", "corner"]) (sc := defScope st_plain_frame) (by decide +kernel)) (fun _ _ _ _ _ => g_name 1 sc_plain_frame.nd) (fun _ _ _ _ _ => ts_nil) (fun _ _ _ _ _ => e_tup (a_cons (e_tup (a_cons (e_var 1) (a_cons (e_int) (a_nil)))) (a_cons (e_tup (a_cons (e_op or_mul dd_mul (e_var 1) (e_var 1)) (a_cons (e_int) (a_nil)))) (a_nil))))) (a_nil)))))
abbrev mE_plain_frame : ME := runE gE_plain_frame 2 1
abbrev st__law_hat : Stmt := topS 25
def g__law_hat : FS := dSeq (dAsg 2 (dOp dMul (dOp dMul (dOp dMul (dOp dPow (dC (.int 10)) (dC (.int 64))) (dOp dPow (dC (.int 10)) (dC (.int 64)))) (dOp dPow (dC (.int 10)) (dC (.int 64)))) (dOp dPow (dC (.int 10)) (dC (.int 64))))) (dSeq (dAsg 3 (dOp dMod (dCall dInt (dCons (dVar 0) (dNil))) (dVar 2))) (dSeq (dIf (dB (dOp dGe (dVar 3) (dOp dPow (dC (.int 10)) (dC (.int 18))))) (dRet (dLst (dCons (dVar 3) (dCons (dOp dAdd (dOp dMod (dCall dInt (dCons (dVar 3) (dNil))) (dC (.int 2147483563))) (dVar 1)) (dNil))))) (dNext)) (dRet (dLst (dCons (dC (.int 0)) (dCons (dOp dMod (dOp dAdd (dOp dAdd (dOp dMul (dOp dMod (dCall dInt (dCons (dVar 3) (dNil))) (dC (.int 2147483647))) (dC (.int 48271))) (dOp dMul (dC (.int 7919)) (dVar 1))) (dC (.int 1))) (dC (.int 2147483647))) (dNil)))))))
theorem sc__law_hat : FnScope ["_law_cell", "_law_k", "_law_wide", "_law_number"] ["_law_cell", "_law_k"] (defScope st__law_hat) := ⟨rfl, rfl, rfl, by decide +kernel, rfl, by decide +kernel, by decide +kernel⟩
theorem d__law_hat (B : Bi mg) (C : Co mg) (Er : Errs K mg) (T : At K mg "_law_hat" st__law_hat) : Df P w K mg base "_law_hat" 1 ["_law_cell", "_law_k"] (run g__law_hat 4 2) := by
  refine T.df sc__law_hat (fun _ _ _ _ _ _ us hl => match us, hl with | [_, _], _ => rfl) fun f cdv A outer s H E hr => ?_
  have hu65 := hr.units65
  exact ss_cons (s_set 2 sc__law_hat.nd (e_op or_mul dd_mul (e_op or_mul dd_mul (e_op or_mul dd_mul (e_op op_pow dd_pow (e_int) (e_int)) (e_op op_pow dd_pow (e_int) (e_int))) (e_op op_pow dd_pow (e_int) (e_int))) (e_op op_pow dd_pow (e_int) (e_int)))) (ss_cons (s_set 3 sc__law_hat.nd (e_op op_mod dd_mod (e_callTy call_int1 dd_int B.int boot_int (a_cons (e_var 0) (a_nil))) (e_var 2))) (ss_cons (s_if (t_cmp op_ge dd_cmp (e_var 3) (e_op op_pow dd_pow (e_int) (e_int)) (nomark _)) (ss_one (s_ret (e_lst (a_cons (e_var 3) (a_cons (e_op or_add dd_add (e_op op_mod dd_mod (e_callTy call_int1 dd_int B.int boot_int (a_cons (e_var 3) (a_nil))) (e_int)) (e_var 1)) (a_nil)))))) (ss_nil)) (ss_one (s_ret (e_lst (a_cons (e_int) (a_cons (e_op op_mod dd_mod (e_op or_add dd_add (e_op or_add dd_add (e_op or_mul dd_mul (e_op op_mod dd_mod (e_callTy call_int1 dd_int B.int boot_int (a_cons (e_var 3) (a_nil))) (e_int)) (e_int)) (e_op or_mul dd_mul (e_int) (e_var 1))) (e_int)) (e_int)) (a_nil))))))))
abbrev m__law_hat : List D → Option D := run g__law_hat 4 2
abbrev st__law_draw : Stmt := topS 26
def g__law_draw : FS := dSeq (dIf (dB (dOp dGt (dIxO 0 (dC (.int 0))) (dC (.int 0)))) (dSeq (dAsg 2 (dOp dMod (dCall dInt (dCons (dIxO 0 (dC (.int 0))) (dNil))) (dVar 1))) (dSeq (dSetIx 0 (dOp dDiv (dIxO 0 (dC (.int 0))) (dVar 1)) (dC (.int 0))) (dRet (dVar 2)))) (dNext)) (dSeq (dSetIx 0 (dOp dMod (dOp dAdd (dOp dMul (dCall dInt (dCons (dIxO 0 (dC (.int 1))) (dNil))) (dC (.int 48271))) (dC (.int 11))) (dC (.int 2147483647))) (dC (.int 1))) (dSeq (dSetIx 0 (dOp dMod (dOp dAdd (dOp dMul (dCall dInt (dCons (dIxO 0 (dC (.int 1))) (dNil))) (dOp dAdd (dOp dMod (dOp dDiv (dIxO 0 (dC (.int 1))) (dC (.int 1009))) (dC (.int 65521))) (dC (.int 69621)))) (dC (.int 7))) (dC (.int 2147483629))) (dC (.int 1))) (dRet (dOp dMod (dOp dDiv (dIxO 0 (dC (.int 1))) (dC (.int 16))) (dVar 1)))))
theorem sc__law_draw : FnScope ["_law_hat_here", "_law_many", "_law_digit"] ["_law_hat_here", "_law_many"] (defScope st__law_draw) := ⟨rfl, rfl, rfl, by decide +kernel, rfl, by decide +kernel, by decide +kernel⟩
theorem d__law_draw (B : Bi mg) (C : Co mg) (Er : Errs K mg) (T : At K mg "_law_draw" st__law_draw) : Db P w K mg base "_law_draw" 1 ["_law_hat_here", "_law_many"] (runB g__law_draw 3 2) := by
  refine T.db sc__law_draw (fun _ _ _ _ _ _ us hl => match us, hl with | [_, _], _ => rfl) fun f cdv A outer s H E hr => ?_
  have hu65 := hr.units65
  exact ss_cons (s_if (t_cmp op_gt dd_cmp (e_ixO 0 (e_int)) (e_int) (nomark _)) (ss_cons (s_set 2 sc__law_draw.nd (e_op op_mod dd_mod (e_callTy call_int1 dd_int B.int boot_int (a_cons (e_ixO 0 (e_int)) (a_nil))) (e_var 1))) (ss_cons (s_setIx 0 (e_op op_fdivW dd_div (e_ixO 0 (e_int)) (e_var 1)) (e_int)) (ss_one (s_ret (e_var 2))))) (ss_nil)) (ss_cons (s_setIx 0 (e_op op_mod dd_mod (e_op or_add dd_add (e_op or_mul dd_mul (e_callTy call_int1 dd_int B.int boot_int (a_cons (e_ixO 0 (e_int)) (a_nil))) (e_int)) (e_int)) (e_int)) (e_int)) (ss_cons (s_setIx 0 (e_op op_mod dd_mod (e_op or_add dd_add (e_op or_mul dd_mul (e_callTy call_int1 dd_int B.int boot_int (a_cons (e_ixO 0 (e_int)) (a_nil))) (e_op or_add dd_add (e_op op_mod dd_mod (e_op op_fdivW dd_div (e_ixO 0 (e_int)) (e_int)) (e_int)) (e_int))) (e_int)) (e_int)) (e_int)) (ss_one (s_ret (e_op op_mod dd_mod (e_op op_fdivW dd_div (e_ixO 0 (e_int)) (e_int)) (e_var 1))))))
abbrev m__law_draw : MB := runB g__law_draw 3 2
abbrev st__law_same : Stmt := topS 27
def g__law_same (rec : List D → Option D) : FS := dSeq (dIf (dB (dUn (isTy "tuple") (dVar 1))) (dSeq (dIf (dOrT (dNotT (dB (dUn (isTy "tuple") (dVar 0)))) (dB (dOp dNe (dCall dLen (dCons (dVar 0) (dNil))) (dCall dLen (dCons (dVar 1) (dNil)))))) (dRet (dC (.bl false))) (dNext)) (dSeq (dFor (dZip (dCons (dVar 0) (dCons (dVar 1) (dNil)))) (gTupD (gsCons (gSet 2) (gsCons (gSet 3) (gsNil))) 2) (dIf (dNotT (dB (dCall rec (dCons (dVar 2) (dCons (dVar 3) (dNil)))))) (dRet (dC (.bl false))) (dNext))) (dRet (dC (.bl true))))) (dNext)) (dSeq (dIf (dB (dOp dIsN (dVar 1) (dC .non))) (dRet (dOp dIsN (dVar 0) (dC .non))) (dNext)) (dSeq (dIf (dB (dUn (isTy "str") (dVar 1))) (dRet (dAndV (dUn (isTy "str") (dVar 0)) (dOp dEq (dVar 0) (dVar 1)))) (dNext)) (dRet (dAndV (dUn (isTy "int") (dVar 0)) (dAndV (dNotV (dUn (isTy "bool") (dVar 0))) (dOp dEq (dVar 0) (dVar 1)))))))
theorem sc__law_same : FnScope ["_law_actual", "_law_due", "_law_one", "_law_other"] ["_law_actual", "_law_due"] (defScope st__law_same) := ⟨rfl, rfl, rfl, by decide +kernel, rfl, by decide +kernel, by decide +kernel⟩
theorem d__law_same {rec : List D → Option D} {kr : Nat} (B : Bi mg) (C : Co mg) (Er : Errs K mg) (F__law_same : Df P w K mg base "_law_same" kr ["_law_actual", "_law_due"] rec) (T : At K mg "_law_same" st__law_same) : Df P w K mg base "_law_same" (max 0 kr + 1) ["_law_actual", "_law_due"] (run (g__law_same rec) 4 2) := by
  refine T.df sc__law_same (fun _ _ _ _ _ _ us hl => match us, hl with | [_, _], _ => rfl) fun f cdv A outer s H E hr => ?_
  have hu65 := hr.units65
  exact ss_cons (s_if (t_val (e_isi (e_var 1) B.isinstance B.tuple boot_tuple)) (ss_cons (s_if (PW.pt (w_or (t_not (t_val (e_isi (e_var 0) B.isinstance B.tuple boot_tuple))) (w_or1 (t_cmp (op_neD hr.units) dd_ne (e_callB call_len_seq dd_len B.len PySem.boot_len (a_cons (e_var 0) (a_nil))) (e_callB call_len_seq dd_len B.len PySem.boot_len (a_cons (e_var 1) (a_nil))) (nomark _))))) (ss_one (s_ret (e_bl))) (ss_nil)) (ss_cons (s_for rfl (i_zip B.zip (a_cons (e_var 0) (a_cons (e_var 1) (a_nil)))) (g_tup rfl (gs_cons (g_name 2 sc__law_same.nd) (gs_cons (g_name 3 sc__law_same.nd) (gs_nil)))) (ss_one (s_if (t_not (t_val (e_df F__law_same (hr.mono (Nat.le_max_right _ _)) (a_cons (e_var 2) (a_cons (e_var 3) (a_nil)))))) (ss_one (s_ret (e_bl))) (ss_nil)))) (ss_one (s_ret (e_bl))))) (ss_nil)) (ss_cons (s_if (t_cmp op_isN dd_isN (e_var 1) (e_non) (nomark _)) (ss_one (s_ret (e_cmp op_isN dd_isN (e_var 0) (e_non) (nomark _)))) (ss_nil)) (ss_cons (s_if (t_val (e_isi (e_var 1) B.isinstance B.str boot_str)) (ss_one (s_ret (e_and (e_isi (e_var 0) B.isinstance B.str boot_str) (e_one (e_cmp (op_eqD hr.units) dd_eq (e_var 0) (e_var 1) (nomark _)))))) (ss_nil)) (ss_one (s_ret (e_and (e_isi (e_var 0) B.isinstance B.int boot_int) (e_and (e_not (e_isi (e_var 0) B.isinstance B.bool boot_bool)) (e_one (e_cmp (op_eqD hr.units) dd_eq (e_var 0) (e_var 1) (nomark _)))))))))
def r__law_same : Nat → List D → Option D
  | 0 => fun _ => none
  | n + 1 => run (g__law_same (r__law_same n)) 4 2
theorem dr__law_same (B : Bi mg) (C : Co mg) (Er : Errs K mg) (T : At K mg "_law_same" st__law_same) : ∀ n : Nat, Df P w K mg base "_law_same" (1 + n) ["_law_actual", "_law_due"] (r__law_same n)
  | 0 => (T.df (k := 0) sc__law_same (fun _ _ _ _ _ _ us hl => match us, hl with | [_, _], _ => rfl) fun f cdv A outer s H E hr => ss_never).eq (fun _ _ h => nomatch h)
  | n + 1 => by
    have ih := dr__law_same B C Er T n
    have := d__law_same B C Er ih T
    rw [Nat.max_eq_right (by omega)] at this
    exact this
abbrev m__law_same : List D → Option D := r__law_same 6
theorem d2__law_same (B : Bi mg) (C : Co mg) (Er : Errs K mg) (T : At K mg "_law_same" st__law_same) : Df P w K mg base "_law_same" 7 ["_law_actual", "_law_due"] m__law_same := dr__law_same B C Er T 6
abbrev st__law_any : Stmt := topS 28
def g__law_any : FS := dRet (dOp dIx (dVar 1) (dCallO 0 m__law_draw (xOwn 0 (xDat (dCall dLen (dCons (dVar 1) (dNil))) (xNil)))))
theorem sc__law_any : FnScope ["_law_hat_here", "_law_things"] ["_law_hat_here", "_law_things"] (defScope st__law_any) := ⟨rfl, rfl, rfl, by decide +kernel, rfl, by decide +kernel, by decide +kernel⟩
theorem d__law_any (B : Bi mg) (C : Co mg) (Er : Errs K mg) (F__law_draw : Db P w K mg base "_law_draw" 1 ["_law_hat_here", "_law_many"] m__law_draw) (T : At K mg "_law_any" st__law_any) : Db P w K mg base "_law_any" 2 ["_law_hat_here", "_law_things"] (runB g__law_any 2 2) := by
  refine T.db sc__law_any (fun _ _ _ _ _ _ us hl => match us, hl with | [_, _], _ => rfl) fun f cdv A outer s H E hr => ?_
  have hu65 := hr.units65
  exact ss_one (s_ret (e_ix (e_var 1) (e_db 0 F__law_draw (hr.mono (by decide)) (x_own (x_dat (e_callB call_len_seq dd_len B.len PySem.boot_len (a_cons (e_var 1) (a_nil))) (x_nil))))))
abbrev m__law_any : MB := runB g__law_any 2 2
abbrev st__law_gcd : Stmt := topS 29
def g__law_gcd : FS := dSeq (dAsg 0 (dCall dAbs (dCons (dVar 0) (dNil)))) (dSeq (dFor (dRng1 (dCons (dC (.int 90000)) (dNil))) (gSet 2) (dSeq (dIf (dB (dOp dEq (dVar 1) (dC (.int 0)))) (dBrk) (dNext)) (dPar 0 1 (dCons (dVar 1) (dCons (dOp dMod (dCall dInt (dCons (dVar 0) (dNil))) (dVar 1)) (dNil)))))) (dRet (dVar 0)))
theorem sc__law_gcd : FnScope ["_law_one", "_law_other", "_law_k"] ["_law_one", "_law_other"] (defScope st__law_gcd) := ⟨rfl, rfl, rfl, by decide +kernel, rfl, by decide +kernel, by decide +kernel⟩
theorem d__law_gcd (B : Bi mg) (C : Co mg) (Er : Errs K mg) (T : At K mg "_law_gcd" st__law_gcd) : Df P w K mg base "_law_gcd" 1 ["_law_one", "_law_other"] (run g__law_gcd 3 2) := by
  refine T.df sc__law_gcd (fun _ _ _ _ _ _ us hl => match us, hl with | [_, _], _ => rfl) fun f cdv A outer s H E hr => ?_
  have hu65 := hr.units65
  exact ss_cons (s_set 0 sc__law_gcd.nd (e_callB call_abs dd_abs B.abs boot_abs (a_cons (e_var 0) (a_nil)))) (ss_cons (s_for rfl (i_rng1 B.range (a_cons (e_int) (a_nil))) (g_name 2 sc__law_gcd.nd) (ss_cons (s_if (t_cmp (op_eqD hr.units) dd_eq (e_var 1) (e_int) (nomark _)) (ss_one (s_brk)) (ss_nil)) (ss_one (s_par 0 1 sc__law_gcd.nd (a_cons (e_var 1) (a_cons (e_op op_mod dd_mod (e_callTy call_int1 dd_int B.int boot_int (a_cons (e_var 0) (a_nil))) (e_var 1)) (a_nil))))))) (ss_one (s_ret (e_var 0))))
abbrev m__law_gcd : List D → Option D := run g__law_gcd 3 2
abbrev st__law_fraction : Stmt := topS 30
def g__law_fraction : FS := dSeq (dAsg 2 (dCall m__law_gcd (dCons (dVar 0) (dCons (dVar 1) (dNil))))) (dRet (dTup (dCons (dOp dDiv (dVar 0) (dVar 2)) (dCons (dOp dDiv (dVar 1) (dVar 2)) (dNil)))))
theorem sc__law_fraction : FnScope ["_law_top", "_law_bottom", "_law_shared"] ["_law_top", "_law_bottom"] (defScope st__law_fraction) := ⟨rfl, rfl, rfl, by decide +kernel, rfl, by decide +kernel, by decide +kernel⟩
theorem d__law_fraction (B : Bi mg) (C : Co mg) (Er : Errs K mg) (F__law_gcd : Df P w K mg base "_law_gcd" 1 ["_law_one", "_law_other"] m__law_gcd) (T : At K mg "_law_fraction" st__law_fraction) : Df P w K mg base "_law_fraction" 2 ["_law_top", "_law_bottom"] (run g__law_fraction 3 2) := by
  refine T.df sc__law_fraction (fun _ _ _ _ _ _ us hl => match us, hl with | [_, _], _ => rfl) fun f cdv A outer s H E hr => ?_
  have hu65 := hr.units65
  exact ss_cons (s_set 2 sc__law_fraction.nd (e_df F__law_gcd (hr.mono (by decide)) (a_cons (e_var 0) (a_cons (e_var 1) (a_nil))))) (ss_one (s_ret (e_tup (a_cons (e_op op_fdivW dd_div (e_var 0) (e_var 2)) (a_cons (e_op op_fdivW dd_div (e_var 1) (e_var 2)) (a_nil))))))
abbrev m__law_fraction : List D → Option D := run g__law_fraction 3 2
abbrev st__law_frame : Stmt := topS 31
def g__law_frame : FS := dSeq (dAsg 2 (dOp dSub (dCallO 0 m__law_draw (xOwn 0 (xDat (dC (.int 7)) (xNil)))) (dC (.int 3)))) (dSeq (dAsgG (dTup (dCons (dOp dAdd (dC (.int 1)) (dCallO 0 m__law_draw (xOwn 0 (xDat (dC (.int 4)) (xNil))))) (dCons (dOp dSub (dCallO 0 m__law_draw (xOwn 0 (xDat (dC (.int 5)) (xNil)))) (dC (.int 2))) (dCons (dOp dSub (dCallO 0 m__law_draw (xOwn 0 (xDat (dC (.int 5)) (xNil)))) (dC (.int 2))) (dCons (dOp dAdd (dC (.int 1)) (dCallO 0 m__law_draw (xOwn 0 (xDat (dC (.int 4)) (xNil))))) (dNil)))))) (gTupD (gsCons (gSet 3) (gsCons (gSet 4) (gsCons (gSet 5) (gsCons (gSet 6) (gsNil))))) 4)) (dSeq (dIf (dB (dOp dLe (dOp dSub (dOp dMul (dVar 3) (dVar 6)) (dOp dMul (dVar 4) (dVar 5))) (dC (.int 0)))) (dAsgG (dTup (dCons (dC (.int 0)) (dCons (dC (.int 0)) (dNil)))) (gTupD (gsCons (gSet 4) (gsCons (gSet 5) (gsNil))) 2)) (dNext)) (dSeq (dPar 7 8 (dCons (dOp dSub (dCallO 0 m__law_draw (xOwn 0 (xDat (dC (.int 41)) (xNil)))) (dC (.int 20))) (dCons (dOp dSub (dCallO 0 m__law_draw (xOwn 0 (xDat (dC (.int 41)) (xNil)))) (dC (.int 20))) (dNil)))) (dSeq (dAsg 9 (dCallO 0 m__law_any (xOwn 0 (xDat (dLst (dCons (dC (.int 1)) (dCons (dC (.int 1)) (dCons (dC (.int 2)) (dCons (dC (.int 3)) (dCons (dC (.int 7)) (dNil))))))) (xNil))))) (dSeq (dOwn 10 (dNil)) (dSeq (dFor (dRng1 (dCons (dVar 1) (dNil))) (gSet 11) (dSeq (dPar 12 13 (dCons (dVar 2) (dCons (dOp dMul (dVar 2) (dVar 2)) (dNil)))) (dSeq (dApp 10 (dTup (dCons (dCall m__law_fraction (dCons (dOp dAdd (dOp dAdd (dOp dMul (dVar 3) (dVar 12)) (dOp dMul (dVar 4) (dVar 13))) (dVar 7)) (dCons (dVar 9) (dNil)))) (dCons (dCall m__law_fraction (dCons (dOp dAdd (dOp dAdd (dOp dMul (dVar 5) (dVar 12)) (dOp dMul (dVar 6) (dVar 13))) (dVar 8)) (dCons (dVar 9) (dNil)))) (dNil))))) (dAsg 2 (dOp dAdd (dOp dAdd (dVar 2) (dC (.int 1))) (dCallO 0 m__law_draw (xOwn 0 (xDat (dC (.int 3)) (xNil))))))))) (dSeq (dAsg 14 (dCallO 0 m__law_draw (xOwn 0 (xDat (dVar 1) (xNil))))) (dRet (dCall dTuple (dCons (dOp dAdd (dSlO 10 (dPart (dVar 14)) (dNoP)) (dSlO 10 (dNoP) (dPart (dVar 14)))) (dNil)))))))))))
theorem sc__law_frame : FnScope ["_law_hat_here", "_law_sides", "_law_at", "_law_a", "_law_b", "_law_c", "_law_d", "_law_right", "_law_up", "_law_bottom", "_law_found", "_law_k", "_law_x", "_law_y", "_law_turn"] ["_law_hat_here", "_law_sides"] (defScope st__law_frame) := ⟨rfl, rfl, rfl, by decide +kernel, rfl, by decide +kernel, by decide +kernel⟩
theorem d__law_frame (B : Bi mg) (C : Co mg) (Er : Errs K mg) (F__law_draw : Db P w K mg base "_law_draw" 1 ["_law_hat_here", "_law_many"] m__law_draw) (F__law_any : Db P w K mg base "_law_any" 2 ["_law_hat_here", "_law_things"] m__law_any) (F__law_fraction : Df P w K mg base "_law_fraction" 2 ["_law_top", "_law_bottom"] m__law_fraction) (T : At K mg "_law_frame" st__law_frame) : Db P w K mg base "_law_frame" 3 ["_law_hat_here", "_law_sides"] (runB g__law_frame 15 2) := by
  refine T.db sc__law_frame (fun _ _ _ _ _ _ us hl => match us, hl with | [_, _], _ => rfl) fun f cdv A outer s H E hr => ?_
  have hu65 := hr.units65
  exact ss_cons (s_set 2 sc__law_frame.nd (e_op op_sub dd_sub (e_db 0 F__law_draw (hr.mono (by decide)) (x_own (x_dat (e_int) (x_nil)))) (e_int))) (ss_cons (s_asg (e_tup (a_cons (e_op or_add dd_add (e_int) (e_db 0 F__law_draw (hr.mono (by decide)) (x_own (x_dat (e_int) (x_nil))))) (a_cons (e_op op_sub dd_sub (e_db 0 F__law_draw (hr.mono (by decide)) (x_own (x_dat (e_int) (x_nil)))) (e_int)) (a_cons (e_op op_sub dd_sub (e_db 0 F__law_draw (hr.mono (by decide)) (x_own (x_dat (e_int) (x_nil)))) (e_int)) (a_cons (e_op or_add dd_add (e_int) (e_db 0 F__law_draw (hr.mono (by decide)) (x_own (x_dat (e_int) (x_nil))))) (a_nil)))))) (g_tup rfl (gs_cons (g_name 3 sc__law_frame.nd) (gs_cons (g_name 4 sc__law_frame.nd) (gs_cons (g_name 5 sc__law_frame.nd) (gs_cons (g_name 6 sc__law_frame.nd) (gs_nil))))))) (ss_cons (s_if (t_cmp op_le dd_cmp (e_op op_sub dd_sub (e_op or_mul dd_mul (e_var 3) (e_var 6)) (e_op or_mul dd_mul (e_var 4) (e_var 5))) (e_int) (nomark _)) (ss_one (s_asg (e_tup (a_cons (e_int) (a_cons (e_int) (a_nil)))) (g_tup rfl (gs_cons (g_name 4 sc__law_frame.nd) (gs_cons (g_name 5 sc__law_frame.nd) (gs_nil)))))) (ss_nil)) (ss_cons (s_par 7 8 sc__law_frame.nd (a_cons (e_op op_sub dd_sub (e_db 0 F__law_draw (hr.mono (by decide)) (x_own (x_dat (e_int) (x_nil)))) (e_int)) (a_cons (e_op op_sub dd_sub (e_db 0 F__law_draw (hr.mono (by decide)) (x_own (x_dat (e_int) (x_nil)))) (e_int)) (a_nil)))) (ss_cons (s_set 9 sc__law_frame.nd (e_db 0 F__law_any (hr.mono (by decide)) (x_own (x_dat (e_lst (a_cons (e_int) (a_cons (e_int) (a_cons (e_int) (a_cons (e_int) (a_cons (e_int) (a_nil))))))) (x_nil))))) (ss_cons (s_own 10 sc__law_frame.nd (a_nil)) (ss_cons (s_for rfl (i_rng1 B.range (a_cons (e_var 1) (a_nil))) (g_name 11 sc__law_frame.nd) (ss_cons (s_par 12 13 sc__law_frame.nd (a_cons (e_var 2) (a_cons (e_op or_mul dd_mul (e_var 2) (e_var 2)) (a_nil)))) (ss_cons (s_app 10 (e_tup (a_cons (e_df F__law_fraction (hr.mono (by decide)) (a_cons (e_op or_add dd_add (e_op or_add dd_add (e_op or_mul dd_mul (e_var 3) (e_var 12)) (e_op or_mul dd_mul (e_var 4) (e_var 13))) (e_var 7)) (a_cons (e_var 9) (a_nil)))) (a_cons (e_df F__law_fraction (hr.mono (by decide)) (a_cons (e_op or_add dd_add (e_op or_add dd_add (e_op or_mul dd_mul (e_var 5) (e_var 12)) (e_op or_mul dd_mul (e_var 6) (e_var 13))) (e_var 8)) (a_cons (e_var 9) (a_nil)))) (a_nil))))) (ss_one (s_set 2 sc__law_frame.nd (e_op or_add dd_add (e_op or_add dd_add (e_var 2) (e_int)) (e_db 0 F__law_draw (hr.mono (by decide)) (x_own (x_dat (e_int) (x_nil)))))))))) (ss_cons (s_set 14 sc__law_frame.nd (e_db 0 F__law_draw (hr.mono (by decide)) (x_own (x_dat (e_var 1) (x_nil))))) (ss_one (s_ret (e_callTy call_tuple_of dd_tuple B.tuple boot_tuple (a_cons (e_op or_add dd_add (e_sliceO 10 (o_some (e_var 14)) (o_none)) (e_sliceO 10 (o_none) (o_some (e_var 14)))) (a_nil))))))))))))
abbrev m__law_frame : MB := runB g__law_frame 15 2
abbrev st__law_whole : Stmt := topS 32
def g__law_whole : FS := dSeq (dAsg 1 (dC (.int 1))) (dSeq (dFor (dItems (dVar 0)) (gSet 2) (dFor (dItems (dVar 2)) (gSet 3) (dAsg 1 (dOp dMul (dOp dDiv (dVar 1) (dCall m__law_gcd (dCons (dVar 1) (dCons (dOp dIx (dVar 3) (dC (.int 1))) (dNil))))) (dOp dIx (dVar 3) (dC (.int 1))))))) (dRet (dLc (dItems (dVar 0)) (gTupD (gsCons (gSet 4) (gsCons (gSet 5) (gsNil))) 2) (dYes) (dTup (dCons (dOp dMul (dOp dIx (dVar 4) (dC (.int 0))) (dOp dDiv (dVar 1) (dOp dIx (dVar 4) (dC (.int 1))))) (dCons (dOp dMul (dOp dIx (dVar 5) (dC (.int 0))) (dOp dDiv (dVar 1) (dOp dIx (dVar 5) (dC (.int 1))))) (dNil)))) [4, 5])))
theorem sc__law_whole : FnScope ["_law_points", "_law_shared", "_law_point", "_law_part", "_law_one", "_law_other"] ["_law_points"] (defScope st__law_whole) := ⟨rfl, rfl, rfl, by decide +kernel, rfl, by decide +kernel, by decide +kernel⟩
theorem d__law_whole (B : Bi mg) (C : Co mg) (Er : Errs K mg) (F__law_gcd : Df P w K mg base "_law_gcd" 1 ["_law_one", "_law_other"] m__law_gcd) (T : At K mg "_law_whole" st__law_whole) : Df P w K mg base "_law_whole" 2 ["_law_points"] (run g__law_whole 6 1) := by
  refine T.df sc__law_whole (fun _ _ _ _ _ _ us hl => match us, hl with | [_], _ => rfl) fun f cdv A outer s H E hr => ?_
  have hu65 := hr.units65
  exact ss_cons (s_set 1 sc__law_whole.nd (e_int)) (ss_cons (s_for rfl (i_sq (e_var 0)) (g_name 2 sc__law_whole.nd) (ss_one (s_for rfl (i_sq (e_var 2)) (g_name 3 sc__law_whole.nd) (ss_one (s_set 1 sc__law_whole.nd (e_op or_mul dd_mul (e_op op_fdivW dd_div (e_var 1) (e_df F__law_gcd (hr.mono (by decide)) (a_cons (e_var 1) (a_cons (e_ix (e_var 3) (e_int)) (a_nil))))) (e_ix (e_var 3) (e_int)))))))) (ss_one (s_ret (e_lc [("_law_one", 4), ("_law_other", 5)] rfl sc__law_whole.nd (i_sq (e_var 0)) (blkOk_by (N := ["_law_points", "_law_shared", "_law_point", "_law_part", "_law_one", "_law_other"]) (sc := defScope st__law_whole) (by decide +kernel)) (fun _ _ _ _ _ => g_tup rfl (gs_cons (g_name 4 sc__law_whole.nd) (gs_cons (g_name 5 sc__law_whole.nd) (gs_nil)))) (fun _ _ _ _ _ => ts_nil) (fun _ _ _ _ _ => e_tup (a_cons (e_op or_mul dd_mul (e_ix (e_var 4) (e_int)) (e_op op_fdivW dd_div (e_var 1) (e_ix (e_var 4) (e_int)))) (a_cons (e_op or_mul dd_mul (e_ix (e_var 5) (e_int)) (e_op op_fdivW dd_div (e_var 1) (e_ix (e_var 5) (e_int)))) (a_nil))))))))
abbrev m__law_whole : List D → Option D := run g__law_whole 6 1
abbrev st__law_way : Stmt := topS 33
def g__law_way : FS := dRet (dTup (dCons (dOp dSub (dOp dIx (dOp dIx (dVar 0) (dVar 2)) (dC (.int 0))) (dOp dIx (dOp dIx (dVar 0) (dVar 1)) (dC (.int 0)))) (dCons (dOp dSub (dOp dIx (dOp dIx (dVar 0) (dVar 2)) (dC (.int 1))) (dOp dIx (dOp dIx (dVar 0) (dVar 1)) (dC (.int 1)))) (dNil))))
theorem sc__law_way : FnScope ["_law_points", "_law_one", "_law_other"] ["_law_points", "_law_one", "_law_other"] (defScope st__law_way) := ⟨rfl, rfl, rfl, by decide +kernel, rfl, by decide +kernel, by decide +kernel⟩
theorem d__law_way (B : Bi mg) (C : Co mg) (Er : Errs K mg) (T : At K mg "_law_way" st__law_way) : Df P w K mg base "_law_way" 1 ["_law_points", "_law_one", "_law_other"] (run g__law_way 3 3) := by
  refine T.df sc__law_way (fun _ _ _ _ _ _ us hl => match us, hl with | [_, _, _], _ => rfl) fun f cdv A outer s H E hr => ?_
  have hu65 := hr.units65
  exact ss_one (s_ret (e_tup (a_cons (e_op op_sub dd_sub (e_ix (e_ix (e_var 0) (e_var 2)) (e_int)) (e_ix (e_ix (e_var 0) (e_var 1)) (e_int))) (a_cons (e_op op_sub dd_sub (e_ix (e_ix (e_var 0) (e_var 2)) (e_int)) (e_ix (e_ix (e_var 0) (e_var 1)) (e_int))) (a_nil)))))
abbrev m__law_way : List D → Option D := run g__law_way 3 3
abbrev st__law_cross : Stmt := topS 34
def g__law_cross : FS := dRet (dOp dSub (dOp dMul (dOp dIx (dVar 0) (dC (.int 0))) (dOp dIx (dVar 1) (dC (.int 1)))) (dOp dMul (dOp dIx (dVar 0) (dC (.int 1))) (dOp dIx (dVar 1) (dC (.int 0)))))
theorem sc__law_cross : FnScope ["_law_first", "_law_second"] ["_law_first", "_law_second"] (defScope st__law_cross) := ⟨rfl, rfl, rfl, by decide +kernel, rfl, by decide +kernel, by decide +kernel⟩
theorem d__law_cross (B : Bi mg) (C : Co mg) (Er : Errs K mg) (T : At K mg "_law_cross" st__law_cross) : Df P w K mg base "_law_cross" 1 ["_law_first", "_law_second"] (run g__law_cross 2 2) := by
  refine T.df sc__law_cross (fun _ _ _ _ _ _ us hl => match us, hl with | [_, _], _ => rfl) fun f cdv A outer s H E hr => ?_
  have hu65 := hr.units65
  exact ss_one (s_ret (e_op op_sub dd_sub (e_op or_mul dd_mul (e_ix (e_var 0) (e_int)) (e_ix (e_var 1) (e_int))) (e_op or_mul dd_mul (e_ix (e_var 0) (e_int)) (e_ix (e_var 1) (e_int)))))
abbrev m__law_cross : List D → Option D := run g__law_cross 2 2
abbrev st__law_rounds_once : Stmt := topS 35
def g__law_rounds_once : FS := dSeq (dAsg 1 (dLc (dItems (dVar 0)) (gSet 2) (dYes) (dOrV (dOp dGt (dOp dIx (dVar 2) (dC (.int 1))) (dC (.int 0))) (dAndV (dOp dEq (dOp dIx (dVar 2) (dC (.int 1))) (dC (.int 0))) (dOp dGt (dOp dIx (dVar 2) (dC (.int 0))) (dC (.int 0))))) [2])) (dRet (dOp dEq (dCall dLen (dCons (dLc (dRng1 (dCons (dCall dLen (dCons (dVar 1) (dNil))) (dNil))) (gSet 3) (dAndT (dB (dOp dIx (dVar 1) (dVar 3))) (dNotT (dB (dOp dIx (dVar 1) (dOp dSub (dVar 3) (dC (.int 1))))))) (dVar 3) [3]) (dNil))) (dC (.int 1))))
theorem sc__law_rounds_once : FnScope ["_law_ways", "_law_up", "_law_step", "_law_at"] ["_law_ways"] (defScope st__law_rounds_once) := ⟨rfl, rfl, rfl, by decide +kernel, rfl, by decide +kernel, by decide +kernel⟩
theorem d__law_rounds_once (B : Bi mg) (C : Co mg) (Er : Errs K mg) (T : At K mg "_law_rounds_once" st__law_rounds_once) : Df P w K mg base "_law_rounds_once" 1 ["_law_ways"] (run g__law_rounds_once 4 1) := by
  refine T.df sc__law_rounds_once (fun _ _ _ _ _ _ us hl => match us, hl with | [_], _ => rfl) fun f cdv A outer s H E hr => ?_
  have hu65 := hr.units65
  exact ss_cons (s_set 1 sc__law_rounds_once.nd (e_lc [("_law_step", 2)] rfl sc__law_rounds_once.nd (i_sq (e_var 0)) (blkOk_by (N := ["_law_ways", "_law_up", "_law_step", "_law_at"]) (sc := defScope st__law_rounds_once) (by decide +kernel)) (fun _ _ _ _ _ => g_name 2 sc__law_rounds_once.nd) (fun _ _ _ _ _ => ts_nil) (fun _ _ _ _ _ => e_or (e_cmp op_gt dd_cmp (e_ix (e_var 2) (e_int)) (e_int) (nomark _)) (e_one (e_and (e_cmp (op_eqD hr.units) dd_eq (e_ix (e_var 2) (e_int)) (e_int) (nomark _)) (e_one (e_cmp op_gt dd_cmp (e_ix (e_var 2) (e_int)) (e_int) (nomark _)))))))) (ss_one (s_ret (e_cmp (op_eqD hr.units) dd_eq (e_callB call_len_seq dd_len B.len PySem.boot_len (a_cons (e_lc [("_law_at", 3)] rfl sc__law_rounds_once.nd (i_rng1 B.range (a_cons (e_callB call_len_seq dd_len B.len PySem.boot_len (a_cons (e_var 1) (a_nil))) (a_nil))) (blkOk_by (N := ["_law_ways", "_law_up", "_law_step", "_law_at"]) (sc := defScope st__law_rounds_once) (by decide +kernel)) (fun _ _ _ _ _ => g_name 3 sc__law_rounds_once.nd) (fun _ _ _ _ _ => ts_one (PW.pt (w_and (t_val (e_ix (e_var 1) (e_var 3))) (w_and1 (t_not (t_val (e_ix (e_var 1) (e_op op_sub dd_sub (e_var 3) (e_int))))))))) (fun _ _ _ _ _ => e_var 3)) (a_nil))) (e_int) (nomark _))))
abbrev m__law_rounds_once : List D → Option D := run g__law_rounds_once 4 1
abbrev st__law_goes_round : Stmt := topS 36
def g__law_goes_round : FS := dSeq (dAsg 1 (dCall dLen (dCons (dVar 0) (dNil)))) (dSeq (dAsg 2 (dLc (dRng1 (dCons (dVar 1) (dNil))) (gSet 3) (dYes) (dCall m__law_way (dCons (dVar 0) (dCons (dVar 3) (dCons (dOp dMod (dOp dAdd (dVar 3) (dC (.int 1))) (dVar 1)) (dNil))))) [3])) (dSeq (dIf (dOrT (dB (dOp dIn2 (dTup (dCons (dC (.int 0)) (dCons (dC (.int 0)) (dNil)))) (dVar 2))) (dNotT (dB (dCall (dFold fun bs => .bl (bs.all id)) (dCons (dLc (dRng1 (dCons (dVar 1) (dNil))) (gSet 3) (dYes) (dOp dGt (dCall m__law_cross (dCons (dOp dIx (dVar 2) (dOp dSub (dVar 3) (dC (.int 1)))) (dCons (dOp dIx (dVar 2) (dVar 3)) (dNil)))) (dC (.int 0))) [3]) (dNil)))))) (dRet (dC (.bl false))) (dNext)) (dRet (dCall m__law_rounds_once (dCons (dVar 2) (dNil))))))
theorem sc__law_goes_round : FnScope ["_law_points", "_law_many", "_law_ways", "_law_at"] ["_law_points"] (defScope st__law_goes_round) := ⟨rfl, rfl, rfl, by decide +kernel, rfl, by decide +kernel, by decide +kernel⟩
theorem d__law_goes_round (B : Bi mg) (C : Co mg) (Er : Errs K mg) (F__law_way : Df P w K mg base "_law_way" 1 ["_law_points", "_law_one", "_law_other"] m__law_way) (F__law_cross : Df P w K mg base "_law_cross" 1 ["_law_first", "_law_second"] m__law_cross) (F__law_rounds_once : Df P w K mg base "_law_rounds_once" 1 ["_law_ways"] m__law_rounds_once) (T : At K mg "_law_goes_round" st__law_goes_round) : Df P w K mg base "_law_goes_round" 2 ["_law_points"] (run g__law_goes_round 4 1) := by
  refine T.df sc__law_goes_round (fun _ _ _ _ _ _ us hl => match us, hl with | [_], _ => rfl) fun f cdv A outer s H E hr => ?_
  have hu65 := hr.units65
  exact ss_cons (s_set 1 sc__law_goes_round.nd (e_callB call_len_seq dd_len B.len PySem.boot_len (a_cons (e_var 0) (a_nil)))) (ss_cons (s_set 2 sc__law_goes_round.nd (e_lc [("_law_at", 3)] rfl sc__law_goes_round.nd (i_rng1 B.range (a_cons (e_var 1) (a_nil))) (blkOk_by (N := ["_law_points", "_law_many", "_law_ways", "_law_at"]) (sc := defScope st__law_goes_round) (by decide +kernel)) (fun _ _ _ _ _ => g_name 3 sc__law_goes_round.nd) (fun _ _ _ _ _ => ts_nil) (fun _ _ _ _ _ => e_df F__law_way (hr.mono (by decide)) (a_cons (e_var 0) (a_cons (e_var 3) (a_cons (e_op op_mod dd_mod (e_op or_add dd_add (e_var 3) (e_int)) (e_var 1)) (a_nil))))))) (ss_cons (s_if (PW.pt (w_or (t_cmp (or_in2 hu65) dd_in2 (e_tup (a_cons (e_int) (a_cons (e_int) (a_nil)))) (e_var 2) (by with_unfolding_all rfl)) (w_or1 (t_not (t_val (e_callB (cr_all rfl) dd_all B.all boot_all (a_cons (e_lc [("_law_at", 3)] rfl sc__law_goes_round.nd (i_rng1 B.range (a_cons (e_var 1) (a_nil))) (blkOk_by (N := ["_law_points", "_law_many", "_law_ways", "_law_at"]) (sc := defScope st__law_goes_round) (by decide +kernel)) (fun _ _ _ _ _ => g_name 3 sc__law_goes_round.nd) (fun _ _ _ _ _ => ts_nil) (fun _ _ _ _ _ => e_cmp op_gt dd_cmp (e_df F__law_cross (hr.mono (by decide)) (a_cons (e_ix (e_var 2) (e_op op_sub dd_sub (e_var 3) (e_int))) (a_cons (e_ix (e_var 2) (e_var 3)) (a_nil)))) (e_int) (nomark _))) (a_nil)))))))) (ss_one (s_ret (e_bl))) (ss_nil)) (ss_one (s_ret (e_df F__law_rounds_once (hr.mono (by decide)) (a_cons (e_var 2) (a_nil)))))))
abbrev m__law_goes_round : List D → Option D := run g__law_goes_round 4 1
abbrev st__law_is_int : Stmt := topS 37
def g__law_is_int : FS := dRet (dAndV (dUn (isTy "int") (dVar 0)) (dNotV (dUn (isTy "bool") (dVar 0))))
theorem sc__law_is_int : FnScope ["_law_thing_here"] ["_law_thing_here"] (defScope st__law_is_int) := ⟨rfl, rfl, rfl, by decide +kernel, rfl, by decide +kernel, by decide +kernel⟩
theorem d__law_is_int (B : Bi mg) (C : Co mg) (Er : Errs K mg) (T : At K mg "_law_is_int" st__law_is_int) : Df P w K mg base "_law_is_int" 1 ["_law_thing_here"] (run g__law_is_int 1 1) := by
  refine T.df sc__law_is_int (fun _ _ _ _ _ _ us hl => match us, hl with | [_], _ => rfl) fun f cdv A outer s H E hr => ?_
  have hu65 := hr.units65
  exact ss_one (s_ret (e_and (e_isi (e_var 0) B.isinstance B.int boot_int) (e_one (e_not (e_isi (e_var 0) B.isinstance B.bool boot_bool)))))
abbrev m__law_is_int : List D → Option D := run g__law_is_int 1 1
abbrev st__law_is_fraction : Stmt := topS 38
def g__law_is_fraction : FS := dSeq (dIf (dOrT (dNotT (dB (dUn (isTy "tuple") (dVar 0)))) (dOrT (dB (dOp dNe (dCall dLen (dCons (dVar 0) (dNil))) (dC (.int 2)))) (dOrT (dNotT (dB (dCall m__law_is_int (dCons (dOp dIx (dVar 0) (dC (.int 0))) (dNil))))) (dNotT (dB (dCall m__law_is_int (dCons (dOp dIx (dVar 0) (dC (.int 1))) (dNil)))))))) (dRet (dC (.bl false))) (dNext)) (dRet (dAndV (dOp dGe (dOp dIx (dVar 0) (dC (.int 1))) (dC (.int 1))) (dOp dEq (dCall m__law_gcd (dCons (dOp dIx (dVar 0) (dC (.int 0))) (dCons (dOp dIx (dVar 0) (dC (.int 1))) (dNil)))) (dC (.int 1)))))
theorem sc__law_is_fraction : FnScope ["_law_thing_here"] ["_law_thing_here"] (defScope st__law_is_fraction) := ⟨rfl, rfl, rfl, by decide +kernel, rfl, by decide +kernel, by decide +kernel⟩
theorem d__law_is_fraction (B : Bi mg) (C : Co mg) (Er : Errs K mg) (F__law_is_int : Df P w K mg base "_law_is_int" 1 ["_law_thing_here"] m__law_is_int) (F__law_gcd : Df P w K mg base "_law_gcd" 1 ["_law_one", "_law_other"] m__law_gcd) (T : At K mg "_law_is_fraction" st__law_is_fraction) : Df P w K mg base "_law_is_fraction" 2 ["_law_thing_here"] (run g__law_is_fraction 1 1) := by
  refine T.df sc__law_is_fraction (fun _ _ _ _ _ _ us hl => match us, hl with | [_], _ => rfl) fun f cdv A outer s H E hr => ?_
  have hu65 := hr.units65
  exact ss_cons (s_if (PW.pt (w_or (t_not (t_val (e_isi (e_var 0) B.isinstance B.tuple boot_tuple))) (w_or (t_cmp (op_neD hr.units) dd_ne (e_callB call_len_seq dd_len B.len PySem.boot_len (a_cons (e_var 0) (a_nil))) (e_int) (nomark _)) (w_or (t_not (t_val (e_df F__law_is_int (hr.mono (by decide)) (a_cons (e_ix (e_var 0) (e_int)) (a_nil))))) (w_or1 (t_not (t_val (e_df F__law_is_int (hr.mono (by decide)) (a_cons (e_ix (e_var 0) (e_int)) (a_nil)))))))))) (ss_one (s_ret (e_bl))) (ss_nil)) (ss_one (s_ret (e_and (e_cmp op_ge dd_cmp (e_ix (e_var 0) (e_int)) (e_int) (nomark _)) (e_one (e_cmp (op_eqD hr.units) dd_eq (e_df F__law_gcd (hr.mono (by decide)) (a_cons (e_ix (e_var 0) (e_int)) (a_cons (e_ix (e_var 0) (e_int)) (a_nil)))) (e_int) (nomark _))))))
abbrev m__law_is_fraction : List D → Option D := run g__law_is_fraction 1 1
abbrev st__law_is_point : Stmt := topS 39
def g__law_is_point : FS := dRet (dAndV (dUn (isTy "tuple") (dVar 0)) (dAndV (dOp dEq (dCall dLen (dCons (dVar 0) (dNil))) (dC (.int 2))) (dAndV (dCall m__law_is_fraction (dCons (dOp dIx (dVar 0) (dC (.int 0))) (dNil))) (dCall m__law_is_fraction (dCons (dOp dIx (dVar 0) (dC (.int 1))) (dNil))))))
theorem sc__law_is_point : FnScope ["_law_thing_here"] ["_law_thing_here"] (defScope st__law_is_point) := ⟨rfl, rfl, rfl, by decide +kernel, rfl, by decide +kernel, by decide +kernel⟩
theorem d__law_is_point (B : Bi mg) (C : Co mg) (Er : Errs K mg) (F__law_is_fraction : Df P w K mg base "_law_is_fraction" 2 ["_law_thing_here"] m__law_is_fraction) (T : At K mg "_law_is_point" st__law_is_point) : Df P w K mg base "_law_is_point" 3 ["_law_thing_here"] (run g__law_is_point 1 1) := by
  refine T.df sc__law_is_point (fun _ _ _ _ _ _ us hl => match us, hl with | [_], _ => rfl) fun f cdv A outer s H E hr => ?_
  have hu65 := hr.units65
  exact ss_one (s_ret (e_and (e_isi (e_var 0) B.isinstance B.tuple boot_tuple) (e_and (e_cmp (op_eqD hr.units) dd_eq (e_callB call_len_seq dd_len B.len PySem.boot_len (a_cons (e_var 0) (a_nil))) (e_int) (nomark _)) (e_and (e_df F__law_is_fraction (hr.mono (by decide)) (a_cons (e_ix (e_var 0) (e_int)) (a_nil))) (e_one (e_df F__law_is_fraction (hr.mono (by decide)) (a_cons (e_ix (e_var 0) (e_int)) (a_nil))))))))
abbrev m__law_is_point : List D → Option D := run g__law_is_point 1 1
abbrev st__law_is_frame : Stmt := topS 40
def g__law_is_frame : FS := dSeq (dIf (dOrT (dNotT (dB (dUn (isTy "tuple") (dVar 1)))) (dOrT (dB (dOp dNe (dCall dLen (dCons (dVar 1) (dNil))) (dVar 0))) (dNotT (dB (dCall (dFold fun bs => .bl (bs.all id)) (dCons (dLc (dItems (dVar 1)) (gSet 2) (dYes) (dCall m__law_is_point (dCons (dVar 2) (dNil))) [2]) (dNil))))))) (dRet (dC (.bl false))) (dNext)) (dRet (dCall m__law_goes_round (dCons (dCall m__law_whole (dCons (dVar 1) (dNil))) (dNil))))
theorem sc__law_is_frame : FnScope ["_law_sides", "_law_thing_here", "_law_point"] ["_law_sides", "_law_thing_here"] (defScope st__law_is_frame) := ⟨rfl, rfl, rfl, by decide +kernel, rfl, by decide +kernel, by decide +kernel⟩
theorem d__law_is_frame (B : Bi mg) (C : Co mg) (Er : Errs K mg) (F__law_is_point : Df P w K mg base "_law_is_point" 3 ["_law_thing_here"] m__law_is_point) (F__law_whole : Df P w K mg base "_law_whole" 2 ["_law_points"] m__law_whole) (F__law_goes_round : Df P w K mg base "_law_goes_round" 2 ["_law_points"] m__law_goes_round) (T : At K mg "_law_is_frame" st__law_is_frame) : Df P w K mg base "_law_is_frame" 4 ["_law_sides", "_law_thing_here"] (run g__law_is_frame 3 2) := by
  refine T.df sc__law_is_frame (fun _ _ _ _ _ _ us hl => match us, hl with | [_, _], _ => rfl) fun f cdv A outer s H E hr => ?_
  have hu65 := hr.units65
  exact ss_cons (s_if (PW.pt (w_or (t_not (t_val (e_isi (e_var 1) B.isinstance B.tuple boot_tuple))) (w_or (t_cmp (op_neD hr.units) dd_ne (e_callB call_len_seq dd_len B.len PySem.boot_len (a_cons (e_var 1) (a_nil))) (e_var 0) (nomark _)) (w_or1 (t_not (t_val (e_callB (cr_all rfl) dd_all B.all boot_all (a_cons (e_lc [("_law_point", 2)] rfl sc__law_is_frame.nd (i_sq (e_var 1)) (blkOk_by (N := ["_law_sides", "_law_thing_here", "_law_point"]) (sc := defScope st__law_is_frame) (by decide +kernel)) (fun _ _ _ _ _ => g_name 2 sc__law_is_frame.nd) (fun _ _ _ _ _ => ts_nil) (fun _ _ _ _ _ => e_df F__law_is_point (hr.mono (by decide)) (a_cons (e_var 2) (a_nil)))) (a_nil))))))))) (ss_one (s_ret (e_bl))) (ss_nil)) (ss_one (s_ret (e_df F__law_goes_round (hr.mono (by decide)) (a_cons (e_df F__law_whole (hr.mono (by decide)) (a_cons (e_var 1) (a_nil))) (a_nil)))))
abbrev m__law_is_frame : List D → Option D := run g__law_is_frame 3 2
abbrev st__law_middle : Stmt := topS 41
def g__law_middle : FS := dRet (dCall dTuple (dCons (dLc (dZip (dCons (dVar 0) (dCons (dVar 1) (dNil)))) (gTupD (gsCons (gSet 2) (gsCons (gSet 3) (gsNil))) 2) (dYes) (dCall m__law_fraction (dCons (dOp dAdd (dOp dMul (dOp dIx (dVar 2) (dC (.int 0))) (dOp dIx (dVar 3) (dC (.int 1)))) (dOp dMul (dOp dIx (dVar 3) (dC (.int 0))) (dOp dIx (dVar 2) (dC (.int 1))))) (dCons (dOp dMul (dOp dMul (dC (.int 2)) (dOp dIx (dVar 2) (dC (.int 1)))) (dOp dIx (dVar 3) (dC (.int 1)))) (dNil)))) [2, 3]) (dNil)))
theorem sc__law_middle : FnScope ["_law_one", "_law_other", "_law_a", "_law_b"] ["_law_one", "_law_other"] (defScope st__law_middle) := ⟨rfl, rfl, rfl, by decide +kernel, rfl, by decide +kernel, by decide +kernel⟩
theorem d__law_middle (B : Bi mg) (C : Co mg) (Er : Errs K mg) (F__law_fraction : Df P w K mg base "_law_fraction" 2 ["_law_top", "_law_bottom"] m__law_fraction) (T : At K mg "_law_middle" st__law_middle) : Df P w K mg base "_law_middle" 3 ["_law_one", "_law_other"] (run g__law_middle 4 2) := by
  refine T.df sc__law_middle (fun _ _ _ _ _ _ us hl => match us, hl with | [_, _], _ => rfl) fun f cdv A outer s H E hr => ?_
  have hu65 := hr.units65
  exact ss_one (s_ret (e_callTy call_tuple_of dd_tuple B.tuple boot_tuple (a_cons (e_lc [("_law_a", 2), ("_law_b", 3)] rfl sc__law_middle.nd (i_zip B.zip (a_cons (e_var 0) (a_cons (e_var 1) (a_nil)))) (blkOk_by (N := ["_law_one", "_law_other", "_law_a", "_law_b"]) (sc := defScope st__law_middle) (by decide +kernel)) (fun _ _ _ _ _ => g_tup rfl (gs_cons (g_name 2 sc__law_middle.nd) (gs_cons (g_name 3 sc__law_middle.nd) (gs_nil)))) (fun _ _ _ _ _ => ts_nil) (fun _ _ _ _ _ => e_df F__law_fraction (hr.mono (by decide)) (a_cons (e_op or_add dd_add (e_op or_mul dd_mul (e_ix (e_var 2) (e_int)) (e_ix (e_var 3) (e_int))) (e_op or_mul dd_mul (e_ix (e_var 3) (e_int)) (e_ix (e_var 2) (e_int)))) (a_cons (e_op or_mul dd_mul (e_op or_mul dd_mul (e_int) (e_ix (e_var 2) (e_int))) (e_ix (e_var 3) (e_int))) (a_nil))))) (a_nil))))
abbrev m__law_middle : List D → Option D := run g__law_middle 4 2
abbrev st__law_long : Stmt := topS 42
def g__law_long : FS := dSeq (dAsg 2 (dOp dAdd (dOp dPow (dC (.int 10)) (dC (.int 18))) (dCallO 0 m__law_draw (xOwn 0 (xDat (dOp dPow (dC (.int 10)) (dC (.int 18))) (xNil)))))) (dRet (dCall dTuple (dCons (dLc (dItems (dVar 1)) (gTupD (gsCons (gSet 3) (gsCons (gSet 4) (gsNil))) 2) (dYes) (dTup (dCons (dCall m__law_fraction (dCons (dOp dMul (dOp dIx (dVar 3) (dC (.int 0))) (dVar 2)) (dCons (dOp dIx (dVar 3) (dC (.int 1))) (dNil)))) (dCons (dCall m__law_fraction (dCons (dOp dMul (dOp dIx (dVar 4) (dC (.int 0))) (dVar 2)) (dCons (dOp dIx (dVar 4) (dC (.int 1))) (dNil)))) (dNil)))) [3, 4]) (dNil))))
theorem sc__law_long : FnScope ["_law_hat_here", "_law_frame_here", "_law_times", "_law_x", "_law_y"] ["_law_hat_here", "_law_frame_here"] (defScope st__law_long) := ⟨rfl, rfl, rfl, by decide +kernel, rfl, by decide +kernel, by decide +kernel⟩
theorem d__law_long (B : Bi mg) (C : Co mg) (Er : Errs K mg) (F__law_draw : Db P w K mg base "_law_draw" 1 ["_law_hat_here", "_law_many"] m__law_draw) (F__law_fraction : Df P w K mg base "_law_fraction" 2 ["_law_top", "_law_bottom"] m__law_fraction) (T : At K mg "_law_long" st__law_long) : Db P w K mg base "_law_long" 3 ["_law_hat_here", "_law_frame_here"] (runB g__law_long 5 2) := by
  refine T.db sc__law_long (fun _ _ _ _ _ _ us hl => match us, hl with | [_, _], _ => rfl) fun f cdv A outer s H E hr => ?_
  have hu65 := hr.units65
  exact ss_cons (s_set 2 sc__law_long.nd (e_op or_add dd_add (e_op op_pow dd_pow (e_int) (e_int)) (e_db 0 F__law_draw (hr.mono (by decide)) (x_own (x_dat (e_op op_pow dd_pow (e_int) (e_int)) (x_nil)))))) (ss_one (s_ret (e_callTy call_tuple_of dd_tuple B.tuple boot_tuple (a_cons (e_lc [("_law_x", 3), ("_law_y", 4)] rfl sc__law_long.nd (i_sq (e_var 1)) (blkOk_by (N := ["_law_hat_here", "_law_frame_here", "_law_times", "_law_x", "_law_y"]) (sc := defScope st__law_long) (by decide +kernel)) (fun _ _ _ _ _ => g_tup rfl (gs_cons (g_name 3 sc__law_long.nd) (gs_cons (g_name 4 sc__law_long.nd) (gs_nil)))) (fun _ _ _ _ _ => ts_nil) (fun _ _ _ _ _ => e_tup (a_cons (e_df F__law_fraction (hr.mono (by decide)) (a_cons (e_op or_mul dd_mul (e_ix (e_var 3) (e_int)) (e_var 2)) (a_cons (e_ix (e_var 3) (e_int)) (a_nil)))) (a_cons (e_df F__law_fraction (hr.mono (by decide)) (a_cons (e_op or_mul dd_mul (e_ix (e_var 4) (e_int)) (e_var 2)) (a_cons (e_ix (e_var 4) (e_int)) (a_nil)))) (a_nil))))) (a_nil)))))
abbrev m__law_long : MB := runB g__law_long 5 2
abbrev st__law_bad_fraction : Stmt := topS 43
def g__law_bad_fraction : FS := dSeq (dAsgG (dVar 1) (gTupD (gsCons (gSet 2) (gsCons (gSet 3) (gsNil))) 2)) (dSeq (dAsg 4 (dLst (dCons (dTup (dCons (dOp dMul (dVar 2) (dC (.int 2))) (dCons (dOp dMul (dVar 3) (dC (.int 2))) (dNil)))) (dCons (dTup (dCons (dUn dNeg (dVar 2)) (dCons (dUn dNeg (dVar 3)) (dNil)))) (dCons (dTup (dCons (dVar 2) (dCons (dC (.int 0)) (dNil)))) (dCons (dLst (dCons (dVar 2) (dCons (dVar 3) (dNil)))) (dCons (dTup (dCons (dVar 2) (dNil))) (dCons (dTup (dCons (dC (.bl true)) (dCons (dC (.int 1)) (dNil)))) (dCons (dTup (dCons (dC (.int 1)) (dCons (dC (.bl true)) (dNil)))) (dCons (dVar 2) (dCons (dC .non) (dCons (dC (.str (PySem.Str.ofString "1"))) (dNil))))))))))))) (dRet (dCallO 0 m__law_any (xOwn 0 (xDat (dOp dAdd (dVar 4) (dLst (dCons (dTup (dCons (dVar 2) (dCons (dVar 3) (dCons (dC (.int 1)) (dNil))))) (dCons (dTup (dCons (dOp dMul (dVar 2) (dC (.int 3))) (dCons (dOp dMul (dVar 3) (dC (.int 3))) (dNil)))) (dNil))))) (xNil))))))
theorem sc__law_bad_fraction : FnScope ["_law_hat_here", "_law_part", "_law_top", "_law_bottom", "_law_bad"] ["_law_hat_here", "_law_part"] (defScope st__law_bad_fraction) := ⟨rfl, rfl, rfl, by decide +kernel, rfl, by decide +kernel, by decide +kernel⟩
theorem d__law_bad_fraction (B : Bi mg) (C : Co mg) (Er : Errs K mg) (F__law_any : Db P w K mg base "_law_any" 2 ["_law_hat_here", "_law_things"] m__law_any) (T : At K mg "_law_bad_fraction" st__law_bad_fraction) : Db P w K mg base "_law_bad_fraction" 3 ["_law_hat_here", "_law_part"] (runB g__law_bad_fraction 5 2) := by
  refine T.db sc__law_bad_fraction (fun _ _ _ _ _ _ us hl => match us, hl with | [_, _], _ => rfl) fun f cdv A outer s H E hr => ?_
  have hu65 := hr.units65
  exact ss_cons (s_asg (e_var 1) (g_tup rfl (gs_cons (g_name 2 sc__law_bad_fraction.nd) (gs_cons (g_name 3 sc__law_bad_fraction.nd) (gs_nil))))) (ss_cons (s_set 4 sc__law_bad_fraction.nd (e_lst (a_cons (e_tup (a_cons (e_op or_mul dd_mul (e_var 2) (e_int)) (a_cons (e_op or_mul dd_mul (e_var 3) (e_int)) (a_nil)))) (a_cons (e_tup (a_cons (e_un un_neg dd_neg (e_var 2)) (a_cons (e_un un_neg dd_neg (e_var 3)) (a_nil)))) (a_cons (e_tup (a_cons (e_var 2) (a_cons (e_int) (a_nil)))) (a_cons (e_lst (a_cons (e_var 2) (a_cons (e_var 3) (a_nil)))) (a_cons (e_tup (a_cons (e_var 2) (a_nil))) (a_cons (e_tup (a_cons (e_bl) (a_cons (e_int) (a_nil)))) (a_cons (e_tup (a_cons (e_int) (a_cons (e_bl) (a_nil)))) (a_cons (e_var 2) (a_cons (e_non) (a_cons (e_str) (a_nil))))))))))))) (ss_one (s_ret (e_db 0 F__law_any (hr.mono (by decide)) (x_own (x_dat (e_op or_add dd_add (e_var 4) (e_lst (a_cons (e_tup (a_cons (e_var 2) (a_cons (e_var 3) (a_cons (e_int) (a_nil))))) (a_cons (e_tup (a_cons (e_op or_mul dd_mul (e_var 2) (e_int)) (a_cons (e_op or_mul dd_mul (e_var 3) (e_int)) (a_nil)))) (a_nil))))) (x_nil)))))))
abbrev m__law_bad_fraction : MB := runB g__law_bad_fraction 5 2
abbrev st__law_spoilt : Stmt := topS 44
def g__law_spoilt : FS := dSeq (dAsg 2 (dCall dLen (dCons (dVar 1) (dNil)))) (dSeq (dAsg 3 (dCallO 0 m__law_draw (xOwn 0 (xDat (dC (.int 9)) (xNil))))) (dSeq (dAsg 4 (dCallO 0 m__law_draw (xOwn 0 (xDat (dVar 2) (xNil))))) (dSeq (dIf (dB (dOp dEq (dVar 3) (dC (.int 0)))) (dRet (dStep (dVar 1) (dUn dNeg (dC (.int 1))))) (dNext)) (dSeq (dIf (dB (dOp dEq (dVar 3) (dC (.int 1)))) (dRet (dOp dAdd (dOp dAdd (dSl (dVar 1) (dNoP) (dPart (dVar 4))) (dTup (dCons (dOp dIx (dVar 1) (dOp dSub (dVar 4) (dC (.int 1)))) (dNil)))) (dSl (dVar 1) (dPart (dOp dAdd (dVar 4) (dC (.int 1)))) (dNoP)))) (dNext)) (dSeq (dIf (dB (dOp dEq (dVar 3) (dC (.int 2)))) (dRet (dOp dAdd (dOp dAdd (dSl (dVar 1) (dNoP) (dPart (dVar 4))) (dTup (dCons (dCall m__law_middle (dCons (dOp dIx (dVar 1) (dOp dSub (dVar 4) (dC (.int 1)))) (dCons (dOp dIx (dVar 1) (dOp dMod (dOp dAdd (dVar 4) (dC (.int 1))) (dVar 2))) (dNil)))) (dNil)))) (dSl (dVar 1) (dPart (dOp dAdd (dVar 4) (dC (.int 1)))) (dNoP)))) (dNext)) (dSeq (dIf (dB (dOp dEq (dVar 3) (dC (.int 3)))) (dSeq (dAsg 5 (dCall m__law_middle (dCons (dOp dIx (dVar 1) (dOp dSub (dVar 4) (dC (.int 1)))) (dCons (dCall m__law_middle (dCons (dOp dIx (dVar 1) (dOp dMod (dOp dAdd (dVar 4) (dC (.int 1))) (dVar 2))) (dCons (dOp dIx (dVar 1) (dOp dMod (dOp dAdd (dVar 4) (dC (.int 2))) (dVar 2))) (dNil)))) (dNil))))) (dRet (dOp dAdd (dOp dAdd (dSl (dVar 1) (dNoP) (dPart (dVar 4))) (dTup (dCons (dVar 5) (dNil)))) (dSl (dVar 1) (dPart (dOp dAdd (dVar 4) (dC (.int 1)))) (dNoP))))) (dNext)) (dSeq (dIf (dB (dOp dEq (dVar 3) (dC (.int 4)))) (dSeq (dAsg 6 (dCallO 0 m__law_any (xOwn 0 (xDat (dLst (dCons (dC (.int 2)) (dCons (dC (.int 2)) (dCons (dC (.int 3)) (dNil))))) (xNil))))) (dRet (dCall dTuple (dCons (dLc (dRng1 (dCons (dVar 2) (dNil))) (gSet 10) (dYes) (dOp dIx (dVar 1) (dOp dMod (dOp dMul (dVar 10) (dVar 6)) (dVar 2))) [10]) (dNil))))) (dNext)) (dSeq (dIf (dB (dOp dEq (dVar 3) (dC (.int 5)))) (dRet (dCallO 0 m__law_any (xOwn 0 (xDat (dLst (dCons (dSl (dVar 1) (dPart (dC (.int 1))) (dNoP)) (dCons (dOp dAdd (dVar 1) (dSl (dVar 1) (dNoP) (dPart (dC (.int 1))))) (dCons (dCall dList (dCons (dVar 1) (dNil))) (dCons (dC .non) (dCons (dOp dIx (dVar 1) (dC (.int 0))) (dCons (dTup (dNil)) (dNil)))))))) (xNil))))) (dNext)) (dSeq (dIf (dB (dOp dEq (dVar 3) (dC (.int 6)))) (dRet (dOp dAdd (dOp dAdd (dSl (dVar 1) (dNoP) (dPart (dVar 4))) (dSl (dVar 1) (dPart (dOp dAdd (dVar 4) (dC (.int 1)))) (dNoP))) (dTup (dCons (dOp dIx (dVar 1) (dVar 4)) (dNil))))) (dNext)) (dSeq (dAsgG (dOp dIx (dVar 1) (dVar 4)) (gTupD (gsCons (gSet 7) (gsCons (gSet 8) (gsNil))) 2)) (dSeq (dAsg 9 (dCallO 0 m__law_any (xOwn 0 (xDat (dLst (dCons (dTup (dCons (dCallO 0 m__law_bad_fraction (xOwn 0 (xDat (dVar 7) (xNil)))) (dCons (dVar 8) (dNil)))) (dCons (dTup (dCons (dVar 7) (dCons (dCallO 0 m__law_bad_fraction (xOwn 0 (xDat (dVar 8) (xNil)))) (dNil)))) (dCons (dLst (dCons (dVar 7) (dCons (dVar 8) (dNil)))) (dCons (dTup (dCons (dVar 7) (dNil))) (dCons (dTup (dCons (dVar 7) (dCons (dVar 8) (dCons (dVar 7) (dNil))))) (dNil))))))) (xNil))))) (dRet (dOp dAdd (dOp dAdd (dSl (dVar 1) (dNoP) (dPart (dVar 4))) (dTup (dCons (dVar 9) (dNil)))) (dSl (dVar 1) (dPart (dOp dAdd (dVar 4) (dC (.int 1)))) (dNoP)))))))))))))))
theorem sc__law_spoilt : FnScope ["_law_hat_here", "_law_frame_here", "_law_many", "_law_kind", "_law_at", "_law_inner", "_law_step", "_law_x", "_law_y", "_law_point", "_law_k"] ["_law_hat_here", "_law_frame_here"] (defScope st__law_spoilt) := ⟨rfl, rfl, rfl, by decide +kernel, rfl, by decide +kernel, by decide +kernel⟩
theorem d__law_spoilt (B : Bi mg) (C : Co mg) (Er : Errs K mg) (F__law_draw : Db P w K mg base "_law_draw" 1 ["_law_hat_here", "_law_many"] m__law_draw) (F__law_middle : Df P w K mg base "_law_middle" 3 ["_law_one", "_law_other"] m__law_middle) (F__law_any : Db P w K mg base "_law_any" 2 ["_law_hat_here", "_law_things"] m__law_any) (F__law_bad_fraction : Db P w K mg base "_law_bad_fraction" 3 ["_law_hat_here", "_law_part"] m__law_bad_fraction) (T : At K mg "_law_spoilt" st__law_spoilt) : Db P w K mg base "_law_spoilt" 4 ["_law_hat_here", "_law_frame_here"] (runB g__law_spoilt 11 2) := by
  refine T.db sc__law_spoilt (fun _ _ _ _ _ _ us hl => match us, hl with | [_, _], _ => rfl) fun f cdv A outer s H E hr => ?_
  have hu65 := hr.units65
  exact ss_cons (s_set 2 sc__law_spoilt.nd (e_callB call_len_seq dd_len B.len PySem.boot_len (a_cons (e_var 1) (a_nil)))) (ss_cons (s_set 3 sc__law_spoilt.nd (e_db 0 F__law_draw (hr.mono (by decide)) (x_own (x_dat (e_int) (x_nil))))) (ss_cons (s_set 4 sc__law_spoilt.nd (e_db 0 F__law_draw (hr.mono (by decide)) (x_own (x_dat (e_var 2) (x_nil))))) (ss_cons (s_if (t_cmp (op_eqD hr.units) dd_eq (e_var 3) (e_int) (nomark _)) (ss_one (s_ret (e_step true (e_var 1) (e_un un_neg dd_neg (e_int))))) (ss_nil)) (ss_cons (s_if (t_cmp (op_eqD hr.units) dd_eq (e_var 3) (e_int) (nomark _)) (ss_one (s_ret (e_op or_add dd_add (e_op or_add dd_add (e_slice (e_var 1) (o_none) (o_some (e_var 4))) (e_tup (a_cons (e_ix (e_var 1) (e_op op_sub dd_sub (e_var 4) (e_int))) (a_nil)))) (e_slice (e_var 1) (o_some (e_op or_add dd_add (e_var 4) (e_int))) (o_none))))) (ss_nil)) (ss_cons (s_if (t_cmp (op_eqD hr.units) dd_eq (e_var 3) (e_int) (nomark _)) (ss_one (s_ret (e_op or_add dd_add (e_op or_add dd_add (e_slice (e_var 1) (o_none) (o_some (e_var 4))) (e_tup (a_cons (e_df F__law_middle (hr.mono (by decide)) (a_cons (e_ix (e_var 1) (e_op op_sub dd_sub (e_var 4) (e_int))) (a_cons (e_ix (e_var 1) (e_op op_mod dd_mod (e_op or_add dd_add (e_var 4) (e_int)) (e_var 2))) (a_nil)))) (a_nil)))) (e_slice (e_var 1) (o_some (e_op or_add dd_add (e_var 4) (e_int))) (o_none))))) (ss_nil)) (ss_cons (s_if (t_cmp (op_eqD hr.units) dd_eq (e_var 3) (e_int) (nomark _)) (ss_cons (s_set 5 sc__law_spoilt.nd (e_df F__law_middle (hr.mono (by decide)) (a_cons (e_ix (e_var 1) (e_op op_sub dd_sub (e_var 4) (e_int))) (a_cons (e_df F__law_middle (hr.mono (by decide)) (a_cons (e_ix (e_var 1) (e_op op_mod dd_mod (e_op or_add dd_add (e_var 4) (e_int)) (e_var 2))) (a_cons (e_ix (e_var 1) (e_op op_mod dd_mod (e_op or_add dd_add (e_var 4) (e_int)) (e_var 2))) (a_nil)))) (a_nil))))) (ss_one (s_ret (e_op or_add dd_add (e_op or_add dd_add (e_slice (e_var 1) (o_none) (o_some (e_var 4))) (e_tup (a_cons (e_var 5) (a_nil)))) (e_slice (e_var 1) (o_some (e_op or_add dd_add (e_var 4) (e_int))) (o_none)))))) (ss_nil)) (ss_cons (s_if (t_cmp (op_eqD hr.units) dd_eq (e_var 3) (e_int) (nomark _)) (ss_cons (s_set 6 sc__law_spoilt.nd (e_db 0 F__law_any (hr.mono (by decide)) (x_own (x_dat (e_lst (a_cons (e_int) (a_cons (e_int) (a_cons (e_int) (a_nil))))) (x_nil))))) (ss_one (s_ret (e_callTy call_tuple_of dd_tuple B.tuple boot_tuple (a_cons (e_lc [("_law_k", 10)] rfl sc__law_spoilt.nd (i_rng1 B.range (a_cons (e_var 2) (a_nil))) (blkOk_by (N := ["_law_hat_here", "_law_frame_here", "_law_many", "_law_kind", "_law_at", "_law_inner", "_law_step", "_law_x", "_law_y", "_law_point", "_law_k"]) (sc := defScope st__law_spoilt) (by decide +kernel)) (fun _ _ _ _ _ => g_name 10 sc__law_spoilt.nd) (fun _ _ _ _ _ => ts_nil) (fun _ _ _ _ _ => e_ix (e_var 1) (e_op op_mod dd_mod (e_op or_mul dd_mul (e_var 10) (e_var 6)) (e_var 2)))) (a_nil)))))) (ss_nil)) (ss_cons (s_if (t_cmp (op_eqD hr.units) dd_eq (e_var 3) (e_int) (nomark _)) (ss_one (s_ret (e_db 0 F__law_any (hr.mono (by decide)) (x_own (x_dat (e_lst (a_cons (e_slice (e_var 1) (o_some (e_int)) (o_none)) (a_cons (e_op or_add dd_add (e_var 1) (e_slice (e_var 1) (o_none) (o_some (e_int)))) (a_cons (e_callTy call_list_of dd_list B.list boot_list (a_cons (e_var 1) (a_nil))) (a_cons (e_non) (a_cons (e_ix (e_var 1) (e_int)) (a_cons (e_tup (a_nil)) (a_nil)))))))) (x_nil)))))) (ss_nil)) (ss_cons (s_if (t_cmp (op_eqD hr.units) dd_eq (e_var 3) (e_int) (nomark _)) (ss_one (s_ret (e_op or_add dd_add (e_op or_add dd_add (e_slice (e_var 1) (o_none) (o_some (e_var 4))) (e_slice (e_var 1) (o_some (e_op or_add dd_add (e_var 4) (e_int))) (o_none))) (e_tup (a_cons (e_ix (e_var 1) (e_var 4)) (a_nil)))))) (ss_nil)) (ss_cons (s_asg (e_ix (e_var 1) (e_var 4)) (g_tup rfl (gs_cons (g_name 7 sc__law_spoilt.nd) (gs_cons (g_name 8 sc__law_spoilt.nd) (gs_nil))))) (ss_cons (s_set 9 sc__law_spoilt.nd (e_db 0 F__law_any (hr.mono (by decide)) (x_own (x_dat (e_lst (a_cons (e_tup (a_cons (e_db 0 F__law_bad_fraction (hr.mono (by decide)) (x_own (x_dat (e_var 7) (x_nil)))) (a_cons (e_var 8) (a_nil)))) (a_cons (e_tup (a_cons (e_var 7) (a_cons (e_db 0 F__law_bad_fraction (hr.mono (by decide)) (x_own (x_dat (e_var 8) (x_nil)))) (a_nil)))) (a_cons (e_lst (a_cons (e_var 7) (a_cons (e_var 8) (a_nil)))) (a_cons (e_tup (a_cons (e_var 7) (a_nil))) (a_cons (e_tup (a_cons (e_var 7) (a_cons (e_var 8) (a_cons (e_var 7) (a_nil))))) (a_nil))))))) (x_nil))))) (ss_one (s_ret (e_op or_add dd_add (e_op or_add dd_add (e_slice (e_var 1) (o_none) (o_some (e_var 4))) (e_tup (a_cons (e_var 9) (a_nil)))) (e_slice (e_var 1) (o_some (e_op or_add dd_add (e_var 4) (e_int))) (o_none))))))))))))))))
abbrev m__law_spoilt : MB := runB g__law_spoilt 11 2
abbrev st__law_refused : Stmt := topS 45
def g__law_refused : FS := dSeq (dAsg 1 (dC .non)) (dSeq (dTryAs 2 (caL [("NoSides", true)]) (dExE mE_plain_frame (dCons (dVar 0) (dNil))) (fun c fs => match fs with
    | none => if c = "NoSides" then dAsg 1 (dLst (dCons (dC (.bl true)) (dCons (dC (.bl false)) (dCons (dC (.bl false)) (dCons (dC (.bl true)) (dNil)))))) else dNever
    | some _ => dNever)) (dRet (dVar 1)))
theorem sc__law_refused : FnScope ["_law_thing_here", "_law_found", "e"] ["_law_thing_here"] (defScope st__law_refused) := ⟨rfl, rfl, rfl, by decide +kernel, rfl, by decide +kernel, by decide +kernel⟩
theorem d__law_refused (B : Bi mg) (C : Co mg) (Er : Errs K mg) (FE_plain_frame : De P w K mg base "plain_frame" 3 ["sides"] mE_plain_frame) (T : At K mg "_law_refused" st__law_refused) : Df P w K mg base "_law_refused" 4 ["_law_thing_here"] (run g__law_refused 3 1) := by
  refine T.df sc__law_refused (fun _ _ _ _ _ _ us hl => match us, hl with | [_], _ => rfl) fun f cdv A outer s H E hr => ?_
  have hu65 := hr.units65
  obtain ⟨S_s0_StrokeError, gS_s0_StrokeError, cS_s0_StrokeError⟩ := Er.s0_StrokeError
  exact ss_cons (s_set 1 sc__law_refused.nd (e_non)) (ss_cons (s_tryAs 2 sc__law_refused.nd ⟨rfl, by decide, .inl gS_s0_StrokeError⟩ takes0 cS_s0_StrokeError (fun W pn xe tk hp => ss_one (s_exE FE_plain_frame (hr.mono (by decide)) tk (a_cons (e_var 0) (a_nil)))) (fun a oe dx pn c C fs hC hcc hz hfl hfs => by
    cases fs with
    | some _ => exact ss_suP ss_never
    | none =>
      obtain rfl := hfs rfl
      have hm := caL_of hcc
      by_cases h0 : c = "NoSides"
      · subst h0
        exact ssu_one (sH_set 1 sc__law_refused.nd (h_lst (hA_cons (h_isi hC hz hfl (Er.x_NoSides C hC) Er.i_NoSides_NoSides B.isinstance) (hA_cons (h_isi hC hz hfl (Er.x_NoSides C hC) Er.i_NoSides_NoFrame B.isinstance) (hA_cons (h_isi hC hz hfl (Er.x_NoSides C hC) Er.i_NoSides_NoWeights B.isinstance) (hA_cons (h_isi hC hz hfl (Er.x_NoSides C hC) Er.i_NoSides_ValueError B.isinstance) (hA_nil)))))))
      · exact absurd hm (by simp_all [caL])
)) (ss_one (s_ret (e_var 1))))
abbrev m__law_refused : List D → Option D := run g__law_refused 3 1
abbrev st__law_plain_right : Stmt := topS 46
def g__law_plain_right : FS := dSeq (dAsg 1 (dCallO 0 m__law_any (xOwn 0 (xDat (dLst (dCons (dC (.int 2)) (dCons (dC (.int 9)) (dCons (dUn dNeg (dC (.int 3))) (dCons (dC (.int 0)) (dCons (dC (.bl true)) (dCons (dC .non) (dCons (dC (.str (PySem.Str.ofString "4"))) (dCons (dTup (dCons (dC (.int 4)) (dNil))) (dCons (dLst (dCons (dC (.int 4)) (dNil))) (dCons (dOp dPow (dC (.int 10)) (dC (.int 29))) (dCons (dC (.int 3)) (dCons (dC (.int 4)) (dCons (dC (.int 5)) (dCons (dC (.int 6)) (dCons (dC (.int 7)) (dCons (dC (.int 8)) (dNil)))))))))))))))))) (xNil))))) (dSeq (dIf (dOrT (dNotT (dB (dUn (isTy "int") (dVar 1)))) (dOrT (dB (dUn (isTy "bool") (dVar 1))) (dNotT (dB (dChain dLe dLe (dC (.int 3)) (dVar 1) (dC (.int 8))))))) (dRet (dOp dEq (dCall m__law_refused (dCons (dVar 1) (dNil))) (dLst (dCons (dC (.bl true)) (dCons (dC (.bl false)) (dCons (dC (.bl false)) (dCons (dC (.bl true)) (dNil)))))))) (dNext)) (dSeq (dAsg 2 (dCall dTuple (dCons (dLc (dRng1 (dCons (dVar 1) (dNil))) (gSet 3) (dYes) (dTup (dCons (dTup (dCons (dVar 3) (dCons (dC (.int 1)) (dNil)))) (dCons (dTup (dCons (dOp dMul (dVar 3) (dVar 3)) (dCons (dC (.int 1)) (dNil)))) (dNil)))) [3]) (dNil)))) (dRet (dAndV (dCall m__law_same (dCons (dCall m_plain_frame (dCons (dVar 1) (dNil))) (dCons (dVar 2) (dNil)))) (dOp dIsB (dCall m_is_frame (dCons (dVar 1) (dCons (dVar 2) (dNil)))) (dC (.bl true)))))))
theorem sc__law_plain_right : FnScope ["_law_hat_here", "_law_thing_here", "_law_due", "_law_i"] ["_law_hat_here"] (defScope st__law_plain_right) := ⟨rfl, rfl, rfl, by decide +kernel, rfl, by decide +kernel, by decide +kernel⟩
theorem d__law_plain_right (B : Bi mg) (C : Co mg) (Er : Errs K mg) (F__law_any : Db P w K mg base "_law_any" 2 ["_law_hat_here", "_law_things"] m__law_any) (F__law_refused : Df P w K mg base "_law_refused" 4 ["_law_thing_here"] m__law_refused) (F_plain_frame : Df P w K mg base "plain_frame" 3 ["sides"] m_plain_frame) (F__law_same : Df P w K mg base "_law_same" 7 ["_law_actual", "_law_due"] m__law_same) (F_is_frame : Df P w K mg base "is_frame" 6 ["sides", "thing"] m_is_frame) (T : At K mg "_law_plain_right" st__law_plain_right) : Db P w K mg base "_law_plain_right" 8 ["_law_hat_here"] (runB g__law_plain_right 4 1) := by
  refine T.db sc__law_plain_right (fun _ _ _ _ _ _ us hl => match us, hl with | [_], _ => rfl) fun f cdv A outer s H E hr => ?_
  have hu65 := hr.units65
  exact ss_cons (s_set 1 sc__law_plain_right.nd (e_db 0 F__law_any (hr.mono (by decide)) (x_own (x_dat (e_lst (a_cons (e_int) (a_cons (e_int) (a_cons (e_un un_neg dd_neg (e_int)) (a_cons (e_int) (a_cons (e_bl) (a_cons (e_non) (a_cons (e_str) (a_cons (e_tup (a_cons (e_int) (a_nil))) (a_cons (e_lst (a_cons (e_int) (a_nil))) (a_cons (e_op op_pow dd_pow (e_int) (e_int)) (a_cons (e_int) (a_cons (e_int) (a_cons (e_int) (a_cons (e_int) (a_cons (e_int) (a_cons (e_int) (a_nil)))))))))))))))))) (x_nil))))) (ss_cons (s_if (PW.pt (w_or (t_not (t_val (e_isi (e_var 1) B.isinstance B.int boot_int))) (w_or (t_val (e_isi (e_var 1) B.isinstance B.bool boot_bool)) (w_or1 (t_not (t_chain op_le dd_cmp op_le dd_cmp (e_int) (e_var 1) (e_int))))))) (ss_one (s_ret (e_cmp (op_eqD hr.units) dd_eq (e_df F__law_refused (hr.mono (by decide)) (a_cons (e_var 1) (a_nil))) (e_lst (a_cons (e_bl) (a_cons (e_bl) (a_cons (e_bl) (a_cons (e_bl) (a_nil)))))) (nomark _)))) (ss_nil)) (ss_cons (s_set 2 sc__law_plain_right.nd (e_callTy call_tuple_of dd_tuple B.tuple boot_tuple (a_cons (e_lc [("_law_i", 3)] rfl sc__law_plain_right.nd (i_rng1 B.range (a_cons (e_var 1) (a_nil))) (blkOk_by (N := ["_law_hat_here", "_law_thing_here", "_law_due", "_law_i"]) (sc := defScope st__law_plain_right) (by decide +kernel)) (fun _ _ _ _ _ => g_name 3 sc__law_plain_right.nd) (fun _ _ _ _ _ => ts_nil) (fun _ _ _ _ _ => e_tup (a_cons (e_tup (a_cons (e_var 3) (a_cons (e_int) (a_nil)))) (a_cons (e_tup (a_cons (e_op or_mul dd_mul (e_var 3) (e_var 3)) (a_cons (e_int) (a_nil)))) (a_nil))))) (a_nil)))) (ss_one (s_ret (e_and (e_df F__law_same (hr.mono (by decide)) (a_cons (e_df F_plain_frame (hr.mono (by decide)) (a_cons (e_var 1) (a_nil))) (a_cons (e_var 2) (a_nil)))) (e_one (e_cmp op_isBl dd_isB (e_df F_is_frame (hr.mono (by decide)) (a_cons (e_var 1) (a_cons (e_var 2) (a_nil)))) (e_bl) (nomark _))))))))
abbrev m__law_plain_right : MB := runB g__law_plain_right 4 1
abbrev st__law_thing : Stmt := topS 47
def g__law_thing : FS := dSeq (dAsg 1 (dOp dAdd (dC (.int 3)) (dCallO 0 m__law_draw (xOwn 0 (xDat (dC (.int 6)) (xNil)))))) (dSeq (dAsg 2 (dCallO 0 m__law_frame (xOwn 0 (xDat (dVar 1) (xNil))))) (dSeq (dIf (dB (dOp dEq (dCallO 0 m__law_draw (xOwn 0 (xDat (dC (.int 4)) (xNil)))) (dC (.int 0)))) (dAsg 2 (dCallO 0 m__law_long (xOwn 0 (xDat (dVar 2) (xNil))))) (dNext)) (dSeq (dFor (dRng1 (dCons (dCallO 0 m__law_any (xOwn 0 (xDat (dLst (dCons (dC (.int 0)) (dCons (dC (.int 0)) (dCons (dC (.int 1)) (dCons (dC (.int 1)) (dCons (dC (.int 2)) (dNil))))))) (xNil)))) (dNil))) (gSet 3) (dIf (dOrT (dB (dOp dEq (dVar 3) (dC (.int 0)))) (dAndT (dB (dUn (isTy "tuple") (dVar 2))) (dAndT (dB (dOp dGt (dCall dLen (dCons (dVar 2) (dNil))) (dC (.int 2)))) (dB (dCall (dFold fun bs => .bl (bs.all id)) (dCons (dLc (dItems (dVar 2)) (gSet 4) (dYes) (dCall m__law_is_point (dCons (dVar 4) (dNil))) [4]) (dNil))))))) (dAsg 2 (dCallO 0 m__law_spoilt (xOwn 0 (xDat (dVar 2) (xNil))))) (dNext))) (dRet (dTup (dCons (dCallO 0 m__law_any (xOwn 0 (xDat (dLst (dCons (dVar 1) (dCons (dVar 1) (dCons (dVar 1) (dCons (dVar 1) (dCons (dOp dAdd (dC (.int 3)) (dOp dMod (dVar 1) (dC (.int 6)))) (dNil))))))) (xNil)))) (dCons (dVar 2) (dNil))))))))
theorem sc__law_thing : FnScope ["_law_hat_here", "_law_sides", "_law_thing_here", "_law_turn", "_law_one"] ["_law_hat_here"] (defScope st__law_thing) := ⟨rfl, rfl, rfl, by decide +kernel, rfl, by decide +kernel, by decide +kernel⟩
theorem d__law_thing (B : Bi mg) (C : Co mg) (Er : Errs K mg) (F__law_draw : Db P w K mg base "_law_draw" 1 ["_law_hat_here", "_law_many"] m__law_draw) (F__law_frame : Db P w K mg base "_law_frame" 3 ["_law_hat_here", "_law_sides"] m__law_frame) (F__law_long : Db P w K mg base "_law_long" 3 ["_law_hat_here", "_law_frame_here"] m__law_long) (F__law_any : Db P w K mg base "_law_any" 2 ["_law_hat_here", "_law_things"] m__law_any) (F__law_is_point : Df P w K mg base "_law_is_point" 3 ["_law_thing_here"] m__law_is_point) (F__law_spoilt : Db P w K mg base "_law_spoilt" 4 ["_law_hat_here", "_law_frame_here"] m__law_spoilt) (T : At K mg "_law_thing" st__law_thing) : Db P w K mg base "_law_thing" 5 ["_law_hat_here"] (runB g__law_thing 5 1) := by
  refine T.db sc__law_thing (fun _ _ _ _ _ _ us hl => match us, hl with | [_], _ => rfl) fun f cdv A outer s H E hr => ?_
  have hu65 := hr.units65
  exact ss_cons (s_set 1 sc__law_thing.nd (e_op or_add dd_add (e_int) (e_db 0 F__law_draw (hr.mono (by decide)) (x_own (x_dat (e_int) (x_nil)))))) (ss_cons (s_set 2 sc__law_thing.nd (e_db 0 F__law_frame (hr.mono (by decide)) (x_own (x_dat (e_var 1) (x_nil))))) (ss_cons (s_if (t_cmp (op_eqD hr.units) dd_eq (e_db 0 F__law_draw (hr.mono (by decide)) (x_own (x_dat (e_int) (x_nil)))) (e_int) (nomark _)) (ss_one (s_set 2 sc__law_thing.nd (e_db 0 F__law_long (hr.mono (by decide)) (x_own (x_dat (e_var 2) (x_nil)))))) (ss_nil)) (ss_cons (s_for rfl (i_rng1 B.range (a_cons (e_db 0 F__law_any (hr.mono (by decide)) (x_own (x_dat (e_lst (a_cons (e_int) (a_cons (e_int) (a_cons (e_int) (a_cons (e_int) (a_cons (e_int) (a_nil))))))) (x_nil)))) (a_nil))) (g_name 3 sc__law_thing.nd) (ss_one (s_if (PW.pt (w_or (t_cmp (op_eqD hr.units) dd_eq (e_var 3) (e_int) (nomark _)) (w_or1 (PW.pt (w_and (t_val (e_isi (e_var 2) B.isinstance B.tuple boot_tuple)) (w_and (t_cmp op_gt dd_cmp (e_callB call_len_seq dd_len B.len PySem.boot_len (a_cons (e_var 2) (a_nil))) (e_int) (nomark _)) (w_and1 (t_val (e_callB (cr_all rfl) dd_all B.all boot_all (a_cons (e_lc [("_law_one", 4)] rfl sc__law_thing.nd (i_sq (e_var 2)) (blkOk_by (N := ["_law_hat_here", "_law_sides", "_law_thing_here", "_law_turn", "_law_one"]) (sc := defScope st__law_thing) (by decide +kernel)) (fun _ _ _ _ _ => g_name 4 sc__law_thing.nd) (fun _ _ _ _ _ => ts_nil) (fun _ _ _ _ _ => e_df F__law_is_point (hr.mono (by decide)) (a_cons (e_var 4) (a_nil)))) (a_nil))))))))))) (ss_one (s_set 2 sc__law_thing.nd (e_db 0 F__law_spoilt (hr.mono (by decide)) (x_own (x_dat (e_var 2) (x_nil)))))) (ss_nil)))) (ss_one (s_ret (e_tup (a_cons (e_db 0 F__law_any (hr.mono (by decide)) (x_own (x_dat (e_lst (a_cons (e_var 1) (a_cons (e_var 1) (a_cons (e_var 1) (a_cons (e_var 1) (a_cons (e_op or_add dd_add (e_int) (e_op op_mod dd_mod (e_var 1) (e_int))) (a_nil))))))) (x_nil)))) (a_cons (e_var 2) (a_nil)))))))))
abbrev m__law_thing : MB := runB g__law_thing 5 1
abbrev st_law : Stmt := topS 48
def g_law (K : PySem.W.Frag) : FS := dSeq (dFor (dEnum (dCons (dOp dAdd (dCall (dListF K) (dCons (dVar 0) (dNil))) (dLst (dCons (dC (.int 3)) (dCons (dC (.int 15)) (dCons (dC (.int 42)) (dNil)))))) (dNil))) (gTupD (gsCons (gSet 1) (gsCons (gSet 2) (gsNil))) 2) (dSeq (dOwnCall 3 m__law_hat (dCons (dVar 2) (dCons (dVar 1) (dNil)))) (dSeq (dIf (dNotT (dB (dCallO 3 m__law_plain_right (xOwn 3 (xNil))))) (dRet (dC (.bl false))) (dNext)) (dSeq (dAsgG (dCallO 3 m__law_thing (xOwn 3 (xNil))) (gTupD (gsCons (gSet 4) (gsCons (gSet 5) (gsNil))) 2)) (dSeq (dAsg 6 (dCall m_is_frame (dCons (dVar 4) (dCons (dVar 5) (dNil))))) (dIf (dOrT (dNotT (dB (dUn (isTy "bool") (dVar 6)))) (dB (dOp dNe (dVar 6) (dCall m__law_is_frame (dCons (dVar 4) (dCons (dVar 5) (dNil))))))) (dRet (dC (.bl false))) (dNext))))))) (dRet (dC (.bl true)))
theorem sc_law : FnScope ["_law_script", "_law_k", "_law_cell", "_law_hat_here", "_law_sides", "_law_thing_here", "_law_told"] ["_law_script"] (defScope st_law) := ⟨rfl, rfl, rfl, by decide +kernel, rfl, by decide +kernel, by decide +kernel⟩
theorem d_law (B : Bi mg) (C : Co mg) (Er : Errs K mg) (F__law_hat : Df P w K mg base "_law_hat" 1 ["_law_cell", "_law_k"] m__law_hat) (F__law_plain_right : Db P w K mg base "_law_plain_right" 8 ["_law_hat_here"] m__law_plain_right) (F__law_thing : Db P w K mg base "_law_thing" 5 ["_law_hat_here"] m__law_thing) (F_is_frame : Df P w K mg base "is_frame" 6 ["sides", "thing"] m_is_frame) (F__law_is_frame : Df P w K mg base "_law_is_frame" 4 ["_law_sides", "_law_thing_here"] m__law_is_frame) (T : At K mg "law" st_law) : Df P w K mg base "law" 9 ["_law_script"] (run (g_law K) 7 1) := by
  refine T.df sc_law (fun _ _ _ _ _ _ us hl => match us, hl with | [_], _ => rfl) fun f cdv A outer s H E hr => ?_
  have hu65 := hr.units65
  exact ss_cons (s_for rfl (i_enum B.enumerate (a_cons (e_op or_add dd_add (e_callTy call_list_of dd_listF B.list boot_list (a_cons (e_var 0) (a_nil))) (e_lst (a_cons (e_int) (a_cons (e_int) (a_cons (e_int) (a_nil)))))) (a_nil))) (g_tup rfl (gs_cons (g_name 1 sc_law.nd) (gs_cons (g_name 2 sc_law.nd) (gs_nil)))) (ss_cons (s_ownCall 3 sc_law.nd F__law_hat (hr.mono (by decide)) (a_cons (e_var 2) (a_cons (e_var 1) (a_nil)))) (ss_cons (s_if (t_not (t_val (e_db 3 F__law_plain_right (hr.mono (by decide)) (x_own (x_nil))))) (ss_one (s_ret (e_bl))) (ss_nil)) (ss_cons (s_asg (e_db 3 F__law_thing (hr.mono (by decide)) (x_own (x_nil))) (g_tup rfl (gs_cons (g_name 4 sc_law.nd) (gs_cons (g_name 5 sc_law.nd) (gs_nil))))) (ss_cons (s_set 6 sc_law.nd (e_df F_is_frame (hr.mono (by decide)) (a_cons (e_var 4) (a_cons (e_var 5) (a_nil))))) (ss_one (s_if (PW.pt (w_or (t_not (t_val (e_isi (e_var 6) B.isinstance B.bool boot_bool))) (w_or1 (t_cmp (op_neD hr.units) dd_ne (e_var 6) (e_df F__law_is_frame (hr.mono (by decide)) (a_cons (e_var 4) (a_cons (e_var 5) (a_nil)))) (nomark _))))) (ss_one (s_ret (e_bl))) (ss_nil)))))))) (ss_one (s_ret (e_bl)))
abbrev m_law (K : PySem.W.Frag) : List D → Option D := run (g_law K) 7 1
theorem b_law (B : Bi mg) (C : Co mg) (Er : Errs K mg) (F__law_hat : Df P w K mg base "_law_hat" 1 ["_law_cell", "_law_k"] m__law_hat) (F__law_plain_right : Db P w K mg base "_law_plain_right" 8 ["_law_hat_here"] m__law_plain_right) (F__law_thing : Db P w K mg base "_law_thing" 5 ["_law_hat_here"] m__law_thing) (F_is_frame : Df P w K mg base "is_frame" 6 ["sides", "thing"] m_is_frame) (F__law_is_frame : Df P w K mg base "_law_is_frame" 4 ["_law_sides", "_law_thing_here"] m__law_is_frame) (f : Addr) (cdv : Value) (A : Around) (outer : List Env) (s : Shared) (H : Hp) (E : XK) (hr : Room 8 (A.deeper (envOfC "law" (defScope st_law) s.heap.objs.size f cdv))) : PSs (cxOf CX0 P w K mg base ["_law_script", "_law_k", "_law_cell", "_law_hat_here", "_law_sides", "_law_thing_here", "_law_told"] "law" (defScope st_law) f cdv A outer s H E).nox (defBody st_law) (tS (Y0 mg) (g_law K)) := by
  have hu65 := hr.units65
  exact ss_cons (s_for rfl (i_enum B.enumerate (a_cons (e_op or_add dd_add (e_callTy call_list_of dd_listF B.list boot_list (a_cons (e_var 0) (a_nil))) (e_lst (a_cons (e_int) (a_cons (e_int) (a_cons (e_int) (a_nil)))))) (a_nil))) (g_tup rfl (gs_cons (g_name 1 sc_law.nd) (gs_cons (g_name 2 sc_law.nd) (gs_nil)))) (ss_cons (s_ownCall 3 sc_law.nd F__law_hat (hr.mono (by decide)) (a_cons (e_var 2) (a_cons (e_var 1) (a_nil)))) (ss_cons (s_if (t_not (t_val (e_db 3 F__law_plain_right (hr.mono (by decide)) (x_own (x_nil))))) (ss_one (s_ret (e_bl))) (ss_nil)) (ss_cons (s_asg (e_db 3 F__law_thing (hr.mono (by decide)) (x_own (x_nil))) (g_tup rfl (gs_cons (g_name 4 sc_law.nd) (gs_cons (g_name 5 sc_law.nd) (gs_nil))))) (ss_cons (s_set 6 sc_law.nd (e_df F_is_frame (hr.mono (by decide)) (a_cons (e_var 4) (a_cons (e_var 5) (a_nil))))) (ss_one (s_if (PW.pt (w_or (t_not (t_val (e_isi (e_var 6) B.isinstance B.bool boot_bool))) (w_or1 (t_cmp (op_neD hr.units) dd_ne (e_var 6) (e_df F__law_is_frame (hr.mono (by decide)) (a_cons (e_var 4) (a_cons (e_var 5) (a_nil)))) (nomark _))))) (ss_one (s_ret (e_bl))) (ss_nil)))))))) (ss_one (s_ret (e_bl)))
end
def fn0 : List He.DefD := [defD "is_integer" st_is_integer, defD "is_row" st_is_row, defD "are_sides" st_are_sides, defD "is_fraction" st_is_fraction, defD "is_point" st_is_point, defD "are_points" st_are_points, defD "over_one_bottom" st_over_one_bottom, defD "stretched" st_stretched, defD "turn" st_turn, defD "is_side" st_is_side, defD "is_frame" st_is_frame, defD "plain_frame" st_plain_frame, defD "_law_hat" st__law_hat, defD "_law_draw" st__law_draw, defD "_law_same" st__law_same, defD "_law_any" st__law_any, defD "_law_gcd" st__law_gcd, defD "_law_fraction" st__law_fraction, defD "_law_frame" st__law_frame, defD "_law_whole" st__law_whole, defD "_law_way" st__law_way, defD "_law_cross" st__law_cross, defD "_law_rounds_once" st__law_rounds_once, defD "_law_goes_round" st__law_goes_round, defD "_law_is_int" st__law_is_int, defD "_law_is_fraction" st__law_is_fraction, defD "_law_is_point" st__law_is_point, defD "_law_is_frame" st__law_is_frame, defD "_law_middle" st__law_middle, defD "_law_long" st__law_long]
def fn1 : List He.DefD := [defD "_law_bad_fraction" st__law_bad_fraction, defD "_law_spoilt" st__law_spoilt, defD "_law_refused" st__law_refused, defD "_law_plain_right" st__law_plain_right, defD "_law_thing" st__law_thing, defD "law" st_law]
def fn : List He.DefD := fn0 ++ fn1
def fa0 : List He.Fa := [.glo "is_integer", .glo "is_row", .glo "are_sides", .glo "is_fraction", .glo "is_point", .glo "are_points", .glo "over_one_bottom", .glo "stretched", .glo "turn", .glo "is_side", .glo "is_frame", .glo "plain_frame", .glo "_law_hat", .glo "_law_draw", .glo "_law_same", .glo "_law_any", .glo "_law_gcd", .glo "_law_fraction", .glo "_law_frame", .glo "_law_whole", .glo "_law_way", .glo "_law_cross", .glo "_law_rounds_once", .glo "_law_goes_round", .glo "_law_is_int", .glo "_law_is_fraction", .glo "_law_is_point", .glo "_law_is_frame", .glo "_law_middle", .glo "_law_long"]
def fa1 : List He.Fa := [.glo "_law_bad_fraction", .glo "_law_spoilt", .glo "_law_refused", .glo "_law_plain_right", .glo "_law_thing", .glo "law", .glo "NoFrame", .glo "NoSides", .glo "NoWeights", .glo "StrokeError", .free "len", .free "all", .free "any", .free "sum", .free "tuple", .free "list", .free "int", .free "bool", .free "str", .free "max", .free "min", .free "sorted", .free "set", .free "zip", .free "enumerate", .free "range", .free "isinstance", .free "repr", .free "abs", .free "ValueError"]
def fa2 : List He.Fa := [.int "FEWEST_SIDES" 3, .int "MOST_SIDES" 8, .exc "NoSides", .exm "NoSides" "StrokeError" true]
def fa : List He.Fa := fa0 ++ fa1 ++ fa2
def xl0 : List (PySem.W.Frag → Bool) := [xC "NoSides", xB "gcd" "math.gcd", xB "lcm" "math.lcm", xI "NoSides" "NoFrame" false, xI "NoSides" "NoSides" true, xI "NoSides" "NoWeights" false, xT "NoSides" "ValueError" true]
def xl : List (PySem.W.Frag → Bool) := xl0
def xs : PySem.W.Frag → Bool := fun K => xl.all fun f => f K
theorem xs_ok {K : PySem.W.Frag} (e : xs K = true) (i : Nat) {f : PySem.W.Frag → Bool} (h : xl[i]? = some f := by rfl) : f K = true := List.all_eq_true.mp e f (List.mem_of_getElem? h)
section
variable {P : Program} {w : World} {K : PySem.W.Frag} {h : Heap} {mg : Str → Option Value}
theorem bi_of (X : K.In h) (G : h.Ns mainGlobals mg) (c : He.SaysD fa fn K) : Bi mg := ⟨He.free_ok X G (c.fact 40 (h := rfl)), He.free_ok X G (c.fact 41 (h := rfl)), He.free_ok X G (c.fact 42 (h := rfl)), He.free_ok X G (c.fact 43 (h := rfl)), He.free_ok X G (c.fact 44 (h := rfl)), He.free_ok X G (c.fact 45 (h := rfl)), He.free_ok X G (c.fact 46 (h := rfl)), He.free_ok X G (c.fact 47 (h := rfl)), He.free_ok X G (c.fact 48 (h := rfl)), He.free_ok X G (c.fact 49 (h := rfl)), He.free_ok X G (c.fact 50 (h := rfl)), He.free_ok X G (c.fact 51 (h := rfl)), He.free_ok X G (c.fact 52 (h := rfl)), He.free_ok X G (c.fact 53 (h := rfl)), He.free_ok X G (c.fact 54 (h := rfl)), He.free_ok X G (c.fact 55 (h := rfl)), He.free_ok X G (c.fact 56 (h := rfl)), He.free_ok X G (c.fact 57 (h := rfl)), He.free_ok X G (c.fact 58 (h := rfl))⟩
theorem co_of (X : K.In h) (G : h.Ns mainGlobals mg) (c : He.SaysD fa fn K) : Co mg := ⟨trivial, He.int_ok X G (c.fact 60 (h := rfl)), He.int_ok X G (c.fact 61 (h := rfl))⟩
theorem er_of (X : K.In h) (G : h.Ns mainGlobals mg) (c : He.SaysD fa fn K) (e : xs K = true) : Errs K mg := ⟨trivial, errC_of X G (c.fact 37 (h := rfl)) (c.fact 62 (h := rfl)), excC_of X G (c.fact 37 (h := rfl)) (xs_ok e 0 (h := rfl)), catch1 X G (c.fact 39 (h := rfl)) (fun p hp => by
    simp only [List.mem_cons, List.not_mem_nil, or_false] at hp
    rcases hp with rfl
    · exact ⟨(c.fact 37 (h := rfl)), (c.fact 63 (h := rfl))⟩), bif_ok X G (xs_ok e 1 (h := rfl)), bif_ok X G (xs_ok e 2 (h := rfl)), isE_own X G (c.fact 37 (h := rfl)) (c.fact 36 (h := rfl)) (xs_ok e 3 (h := rfl)), isE_own X G (c.fact 37 (h := rfl)) (c.fact 37 (h := rfl)) (xs_ok e 4 (h := rfl)), isE_own X G (c.fact 37 (h := rfl)) (c.fact 38 (h := rfl)) (xs_ok e 5 (h := rfl)), isE_ty X G (c.fact 37 (h := rfl)) (c.fact 59 (h := rfl)) (by decide +kernel) (xs_ok e 6 (h := rfl))⟩
theorem law_of (X : K.In h) (G : h.Ns mainGlobals mg) (c : He.SaysD fa fn K) (e : xs K = true) : ∃ f fd, mg "law" = some (.ref f) ∧ (∀ (s : Shared) (u : Value), BindsTo s fd ⟨[u], []⟩ [("_law_script", u)]) ∧ ∀ base : Heap, FnOk P w K mg base CX0 9 f fd ["_law_script"] (spD (m_law K)) := by
  have B := bi_of X G c
  have C := co_of X G c
  have Er := er_of X G c e
  have T_is_integer : At K mg "is_integer" st_is_integer := at_of X G c 0 0 rfl rfl
  have T_is_row : At K mg "is_row" st_is_row := at_of X G c 1 1 rfl rfl
  have T_are_sides : At K mg "are_sides" st_are_sides := at_of X G c 2 2 rfl rfl
  have T_is_fraction : At K mg "is_fraction" st_is_fraction := at_of X G c 3 3 rfl rfl
  have T_is_point : At K mg "is_point" st_is_point := at_of X G c 4 4 rfl rfl
  have T_are_points : At K mg "are_points" st_are_points := at_of X G c 5 5 rfl rfl
  have T_over_one_bottom : At K mg "over_one_bottom" st_over_one_bottom := at_of X G c 6 6 rfl rfl
  have T_stretched : At K mg "stretched" st_stretched := at_of X G c 7 7 rfl rfl
  have T_turn : At K mg "turn" st_turn := at_of X G c 8 8 rfl rfl
  have T_is_side : At K mg "is_side" st_is_side := at_of X G c 9 9 rfl rfl
  have T_is_frame : At K mg "is_frame" st_is_frame := at_of X G c 10 10 rfl rfl
  have T_plain_frame : At K mg "plain_frame" st_plain_frame := at_of X G c 11 11 rfl rfl
  have T__law_hat : At K mg "_law_hat" st__law_hat := at_of X G c 12 12 rfl rfl
  have T__law_draw : At K mg "_law_draw" st__law_draw := at_of X G c 13 13 rfl rfl
  have T__law_same : At K mg "_law_same" st__law_same := at_of X G c 14 14 rfl rfl
  have T__law_any : At K mg "_law_any" st__law_any := at_of X G c 15 15 rfl rfl
  have T__law_gcd : At K mg "_law_gcd" st__law_gcd := at_of X G c 16 16 rfl rfl
  have T__law_fraction : At K mg "_law_fraction" st__law_fraction := at_of X G c 17 17 rfl rfl
  have T__law_frame : At K mg "_law_frame" st__law_frame := at_of X G c 18 18 rfl rfl
  have T__law_whole : At K mg "_law_whole" st__law_whole := at_of X G c 19 19 rfl rfl
  have T__law_way : At K mg "_law_way" st__law_way := at_of X G c 20 20 rfl rfl
  have T__law_cross : At K mg "_law_cross" st__law_cross := at_of X G c 21 21 rfl rfl
  have T__law_rounds_once : At K mg "_law_rounds_once" st__law_rounds_once := at_of X G c 22 22 rfl rfl
  have T__law_goes_round : At K mg "_law_goes_round" st__law_goes_round := at_of X G c 23 23 rfl rfl
  have T__law_is_int : At K mg "_law_is_int" st__law_is_int := at_of X G c 24 24 rfl rfl
  have T__law_is_fraction : At K mg "_law_is_fraction" st__law_is_fraction := at_of X G c 25 25 rfl rfl
  have T__law_is_point : At K mg "_law_is_point" st__law_is_point := at_of X G c 26 26 rfl rfl
  have T__law_is_frame : At K mg "_law_is_frame" st__law_is_frame := at_of X G c 27 27 rfl rfl
  have T__law_middle : At K mg "_law_middle" st__law_middle := at_of X G c 28 28 rfl rfl
  have T__law_long : At K mg "_law_long" st__law_long := at_of X G c 29 29 rfl rfl
  have T__law_bad_fraction : At K mg "_law_bad_fraction" st__law_bad_fraction := at_of X G c 30 30 rfl rfl
  have T__law_spoilt : At K mg "_law_spoilt" st__law_spoilt := at_of X G c 31 31 rfl rfl
  have T__law_refused : At K mg "_law_refused" st__law_refused := at_of X G c 32 32 rfl rfl
  have T__law_plain_right : At K mg "_law_plain_right" st__law_plain_right := at_of X G c 33 33 rfl rfl
  have T__law_thing : At K mg "_law_thing" st__law_thing := at_of X G c 34 34 rfl rfl
  have T_law : At K mg "law" st_law := at_of X G c 35 35 rfl rfl
  obtain ⟨f, fd, F, hf⟩ := T_law.ex
  refine ⟨f, fd, hf, fun s u => Fun.bindsTo (ps := ["_law_script"]) F (fun _ _ _ _ _ _ us hl => match us, hl with | [_], _ => rfl) s [u] rfl, fun base => ?_⟩
  have F_is_integer := d_is_integer (P := P) (w := w) (base := base) B C Er T_is_integer
  have F_is_row := d_is_row (P := P) (w := w) (base := base) B C Er F_is_integer T_is_row
  have F_are_sides := d_are_sides (P := P) (w := w) (base := base) B C Er F_is_integer T_are_sides
  have F_is_fraction := d_is_fraction (P := P) (w := w) (base := base) B C Er F_is_row T_is_fraction
  have F_is_point := d_is_point (P := P) (w := w) (base := base) B C Er F_is_fraction T_is_point
  have F_are_points := d_are_points (P := P) (w := w) (base := base) B C Er F_is_point T_are_points
  have F_over_one_bottom := d_over_one_bottom (P := P) (w := w) (base := base) B C Er T_over_one_bottom
  have F_stretched := d_stretched (P := P) (w := w) (base := base) B C Er F_over_one_bottom T_stretched
  have F_turn := d_turn (P := P) (w := w) (base := base) B C Er T_turn
  have F_is_side := d_is_side (P := P) (w := w) (base := base) B C Er F_turn T_is_side
  have F_is_frame := d_is_frame (P := P) (w := w) (base := base) B C Er F_are_points F_stretched F_is_side T_is_frame
  have F_plain_frame := d_plain_frame (P := P) (w := w) (base := base) B C Er F_are_sides T_plain_frame
  have FE_plain_frame := dE_plain_frame (P := P) (w := w) (base := base) B C Er F_are_sides T_plain_frame
  have F__law_hat := d__law_hat (P := P) (w := w) (base := base) B C Er T__law_hat
  have F__law_draw := d__law_draw (P := P) (w := w) (base := base) B C Er T__law_draw
  have F__law_same := d2__law_same (P := P) (w := w) (base := base) B C Er T__law_same
  have F__law_any := d__law_any (P := P) (w := w) (base := base) B C Er F__law_draw T__law_any
  have F__law_gcd := d__law_gcd (P := P) (w := w) (base := base) B C Er T__law_gcd
  have F__law_fraction := d__law_fraction (P := P) (w := w) (base := base) B C Er F__law_gcd T__law_fraction
  have F__law_frame := d__law_frame (P := P) (w := w) (base := base) B C Er F__law_draw F__law_any F__law_fraction T__law_frame
  have F__law_whole := d__law_whole (P := P) (w := w) (base := base) B C Er F__law_gcd T__law_whole
  have F__law_way := d__law_way (P := P) (w := w) (base := base) B C Er T__law_way
  have F__law_cross := d__law_cross (P := P) (w := w) (base := base) B C Er T__law_cross
  have F__law_rounds_once := d__law_rounds_once (P := P) (w := w) (base := base) B C Er T__law_rounds_once
  have F__law_goes_round := d__law_goes_round (P := P) (w := w) (base := base) B C Er F__law_way F__law_cross F__law_rounds_once T__law_goes_round
  have F__law_is_int := d__law_is_int (P := P) (w := w) (base := base) B C Er T__law_is_int
  have F__law_is_fraction := d__law_is_fraction (P := P) (w := w) (base := base) B C Er F__law_is_int F__law_gcd T__law_is_fraction
  have F__law_is_point := d__law_is_point (P := P) (w := w) (base := base) B C Er F__law_is_fraction T__law_is_point
  have F__law_is_frame := d__law_is_frame (P := P) (w := w) (base := base) B C Er F__law_is_point F__law_whole F__law_goes_round T__law_is_frame
  have F__law_middle := d__law_middle (P := P) (w := w) (base := base) B C Er F__law_fraction T__law_middle
  have F__law_long := d__law_long (P := P) (w := w) (base := base) B C Er F__law_draw F__law_fraction T__law_long
  have F__law_bad_fraction := d__law_bad_fraction (P := P) (w := w) (base := base) B C Er F__law_any T__law_bad_fraction
  have F__law_spoilt := d__law_spoilt (P := P) (w := w) (base := base) B C Er F__law_draw F__law_middle F__law_any F__law_bad_fraction T__law_spoilt
  have F__law_refused := d__law_refused (P := P) (w := w) (base := base) B C Er FE_plain_frame T__law_refused
  have F__law_plain_right := d__law_plain_right (P := P) (w := w) (base := base) B C Er F__law_any F__law_refused F_plain_frame F__law_same F_is_frame T__law_plain_right
  have F__law_thing := d__law_thing (P := P) (w := w) (base := base) B C Er F__law_draw F__law_frame F__law_long F__law_any F__law_is_point F__law_spoilt T__law_thing
  exact okD F sc_law (b_law B C Er F__law_hat F__law_plain_right F__law_thing F_is_frame F__law_is_frame f) rfl rfl
end
end K18

set_option Elab.async false
set_option linter.all false
set_option maxRecDepth 100000
/-! The pure words of the law of frames. -/
namespace Dn
open PySem
/-- an int of at most n bits -/
def Sm (n : Nat) (i : Int) : Prop := i.natAbs < 2 ^ n
theorem Sm.up {n m : Nat} {i : Int} (h : Sm n i) (l : n ≤ m) : Sm m i := Nat.lt_of_lt_of_le h (Nat.pow_le_pow_right (by decide) l)
theorem Sm.neg {n : Nat} {i : Int} (h : Sm n i) : Sm n (-i) := by unfold Sm at *; rw [Int.natAbs_neg]; exact h
theorem Sm.add {n : Nat} {i j : Int} (h : Sm n i) (k : Sm n j) : Sm (n + 1) (i + j) := by
  unfold Sm at *
  have := Int.natAbs_add_le i j
  rw [Nat.pow_succ]
  omega
theorem Sm.sub {n : Nat} {i j : Int} (h : Sm n i) (k : Sm n j) : Sm (n + 1) (i - j) := by
  rw [Int.sub_eq_add_neg]
  exact h.add k.neg
theorem Sm.mul {n m : Nat} {i j : Int} (h : Sm n i) (k : Sm m j) : Sm (n + m) (i * j) := by
  unfold Sm at *
  rw [Int.natAbs_mul, Nat.pow_add]
  exact Nat.mul_lt_mul'' h k
theorem Sm.mod {n : Nat} {i j : Int} (k : Sm n j) (hj : 0 < j) : Sm n (i % j) := by
  unfold Sm at *
  have := Int.emod_nonneg i (by omega : j ≠ 0)
  have := Int.emod_lt_of_pos i hj
  omega
theorem Sm.div {n : Nat} {i j : Int} (h : Sm n i) (hj : 0 < j) : Sm n (i / j) := by
  unfold Sm at *
  refine Nat.lt_of_le_of_lt ?_ h
  exact Int.natAbs_ediv_le_natAbs i j
theorem Sm.lit {n : Nat} {i : Int} (h : decide (i.natAbs < 2 ^ n) = true) : Sm n i := by
  unfold Sm
  exact of_decide_eq_true h
theorem Sm.of {n : Nat} {i : Int} (h0 : 0 ≤ i) (h1 : i < 2 ^ n) : Sm n i := by
  unfold Sm
  have : ((2 ^ n : Nat) : Int) = (2 : Int) ^ n := by simp
  omega
theorem Sm.log {n : Nat} {i : Int} (h : Sm n i) : i.natAbs.log2 ≤ n := by
  by_cases q : i.natAbs = 0
  · rw [q]; exact Nat.zero_le _
  · exact Nat.le_of_lt ((Nat.log2_lt q).mpr h)
theorem dMul_sm {n m : Nat} {i j : Int} (h : Sm n i) (k : Sm m j) (l : n + m < 1000000 := by decide) : dMul (.int i) (.int j) = some (.int (i * j)) := by
  have := h.log
  have := k.log
  unfold dMul
  exact if_pos (by omega)
theorem dDiv_sm {n : Nat} {i j : Int} (hj : 0 < j) (k : Sm n j) (l : n < 9000 := by decide) : dDiv (.int i) (.int j) = some (.int (i / j)) := by
  have := k.log
  unfold dDiv
  exact if_pos ⟨hj, by omega⟩
theorem dMod_pos {i j : Int} (hj : 0 < j) : dMod (.int i) (.int j) = some (.int (i % j)) := if_pos hj
theorem dEq_int (i j : Int) : dEq (.int i) (.int j) = some (.bl (decide (i = j))) := by
  have h : ∀ k : Int, SeqAt.shaped (PyData.int k) = true := fun k => rfl
  have e : (PyData.int i).eqv (PyData.int j) = decide (i = j) := rfl
  show (if SeqAt.shaped (PyData.int i) = true ∧ SeqAt.shaped (PyData.int j) = true then some (D.bl ((PyData.int i).eqv (PyData.int j))) else none) = _
  rw [if_pos ⟨h i, h j⟩, e]
theorem dNe_int (i j : Int) : dNe (.int i) (.int j) = some (.bl (!decide (i = j))) := by
  have h : ∀ k : Int, SeqAt.shaped (PyData.int k) = true := fun k => rfl
  have e : (PyData.int i).eqv (PyData.int j) = decide (i = j) := rfl
  show (if SeqAt.shaped (PyData.int i) = true ∧ SeqAt.shaped (PyData.int j) = true then some (D.bl (!(PyData.int i).eqv (PyData.int j))) else none) = _
  rw [if_pos ⟨h i, h j⟩, e]
theorem gcd_step (a b : Int) : Int.gcd b (a % b) = Int.gcd a b := by
  have h : Int.gcd b (a % b + b * (a / b)) = Int.gcd b (a % b) := Int.gcd_add_mul_left_right ..
  rw [Int.emod_add_mul_ediv] at h
  rw [← h, Int.gcd_comm]
/-- two steps of Euclid's halve the lesser one -/
theorem halves {a b : Int} {n : Nat} (hb : 0 < b) (hn : b < 2 ^ (n + 1)) (hr : 0 < a % b) : b % (a % b) < 2 ^ n := by
  have h1 := Int.emod_lt_of_pos a hb
  have h2 := Int.emod_lt_of_pos b hr
  have h3 : (2 : Int) ^ (n + 1) = 2 * 2 ^ n := by rw [Int.pow_succ]; omega
  rw [h3] at hn
  generalize (2 : Int) ^ n = P at *
  generalize hr2 : a % b = r at *
  by_cases c : 2 * r ≤ b
  · omega
  · have : b % r = b - r := by
      have e : b = (b - r) + r * 1 := by omega
      rw [e, Int.add_mul_emod_self_left, Int.emod_eq_of_lt (by omega) (by omega)]
      omega
    omega
theorem dPow_of {i j : Int} (h : 0 ≤ j ∧ j ≤ 1000000 ∧ i.natAbs < 2 ^ 64) : dPow (.int i) (.int j) = some (.int (i ^ j.toNat)) := if_pos h
theorem run_of {g : FS} {n m : Nat} {ds : List D} {d : D} {ρ : DE} (hl : ds.length = m) (h : g (st0 n ds) = some (.rt d, ρ)) : Dn.run g n m ds = some d := by
  unfold Dn.run
  rw [if_pos hl, h]
theorem dAdd_int (i j : Int) : dAdd (.int i) (.int j) = some (.int (i + j)) := rfl
theorem dSub_int (i j : Int) : dSub (.int i) (.int j) = some (.int (i - j)) := rfl
end Dn
namespace K18
open PySem Dn
def HatOk (st : List D) : Prop := ∃ h0 h1 : Int, st = [.int h0, .int h1] ∧ 0 ≤ h0 ∧ 0 ≤ h1 ∧ h1 < 2 ^ 64
theorem draw_ok {st : List D} (h : HatOk st) {many : Int} {n : Nat} (hm : 0 < many) (hb : Sm n many) (hn : n < 9000 := by decide) : ∃ st' r, m__law_draw st [none, some (.int many)] = some (st', .int r) ∧ HatOk st' ∧ 0 ≤ r ∧ r < many := by
  obtain ⟨h0, h1, rfl, p0, p1, p2⟩ := h
  by_cases c : 0 < h0
  · refine ⟨[.int (h0 / many), .int h1], h0 % many, ?_, ⟨_, _, rfl, Int.ediv_nonneg p0 (Int.le_of_lt hm), p1, p2⟩, Int.emod_nonneg _ (by omega), Int.emod_lt_of_pos _ hm⟩
    have e1 : dDiv (.int h0) (.int many) = some (.int (h0 / many)) := dDiv_sm hm hb hn
    simp [dSeq, dAsg, dIf, dB, dOp, dUn, dCall, dVar, dC, dCons, dNil, dRet, dNext, dTup, dLst, dNotT, dAndT, dOrT, dAndV, dOrV, dNotV, setDat, dIxO, oL, pL, dSetIx, bL, borAt, oneBor, stB, slOf, dInt, dAdd_int, dSub_int, dCmp, dIx, L2.atI, L2.ixN, dCallO, xOwn, xDat, xNil, st0, dLen, m__law_draw, runB, g__law_draw, c, dMod_pos hm, e1]
  · have z : h0 = 0 := by omega
    subst z
    have s1 : Sm 64 h1 := Sm.of p1 p2
    have e1 : dMul (.int h1) (.int 48271) = some (.int (h1 * 48271)) := dMul_sm s1 (Sm.lit (n := 16) (by decide))
    have e2 : ∀ i : Int, dMod (.int i) (.int 2147483647) = some (.int (i % 2147483647)) := fun i => dMod_pos (by decide)
    have e3 : ∀ i : Int, dDiv (.int i) (.int 1009) = some (.int (i / 1009)) := fun i => dDiv_sm (n := 10) (by decide) (Sm.lit (by decide))
    have e4 : ∀ i : Int, dMod (.int i) (.int 65521) = some (.int (i % 65521)) := fun i => dMod_pos (by decide)
    have e5 : ∀ i : Int, dMod (.int i) (.int 2147483629) = some (.int (i % 2147483629)) := fun i => dMod_pos (by decide)
    have e6 : ∀ i : Int, dDiv (.int i) (.int 16) = some (.int (i / 16)) := fun i => dDiv_sm (n := 10) (by decide) (Sm.lit (by decide))
    have e7 : ∀ i j : Int, dMul (.int (i % 2147483647)) (.int (j % 65521 + 69621)) = some (.int (i % 2147483647 * (j % 65521 + 69621))) := fun i j =>
      dMul_sm (n := 32) (m := 33) (Sm.mod (Sm.lit (by decide)) (by decide)) ((Sm.mod (Sm.lit (by decide)) (by decide)).add (Sm.lit (by decide)))
    refine ⟨[.int 0, .int (((h1 * 48271 + 11) % 2147483647 * ((h1 * 48271 + 11) % 2147483647 / 1009 % 65521 + 69621) + 7) % 2147483629)], ((h1 * 48271 + 11) % 2147483647 * ((h1 * 48271 + 11) % 2147483647 / 1009 % 65521 + 69621) + 7) % 2147483629 / 16 % many, ?_, ⟨_, _, rfl, Int.le_refl _, Int.emod_nonneg _ (by decide), ?_⟩, Int.emod_nonneg _ (by omega), Int.emod_lt_of_pos _ hm⟩
    · simp [dSeq, dAsg, dIf, dB, dOp, dUn, dCall, dVar, dC, dCons, dNil, dRet, dNext, dTup, dLst, dNotT, dAndT, dOrT, dAndV, dOrV, dNotV, setDat, dIxO, oL, pL, dSetIx, bL, borAt, oneBor, stB, slOf, dInt, dAdd_int, dSub_int, dCmp, dIx, L2.atI, L2.ixN, dCallO, xOwn, xDat, xNil, st0, dLen, m__law_draw, runB, g__law_draw, dMod_pos hm, e1, e2, e3, e4, e5, e6, e7]
    · have := Int.emod_lt_of_pos (((h1 * 48271 + 11) % 2147483647 * ((h1 * 48271 + 11) % 2147483647 / 1009 % 65521 + 69621) + 7)) (show (0 : Int) < 2147483629 by decide)
      omega
theorem hat_ok (c k : Int) (hk : 0 ≤ k ∧ k < 100000) : ∃ st, m__law_hat [.int c, .int k] = some (.lst st) ∧ HatOk st ∧ pureL st = true := by
  obtain ⟨P, eP, s1, pP⟩ : ∃ P : Int, dPow (.int 10) (.int 64) = some (.int P) ∧ Sm 220 P ∧ 0 < P := ⟨10 ^ 64, dPow_of (by decide), Sm.lit (by decide +kernel), by decide +kernel⟩
  obtain ⟨Q, eQ⟩ : ∃ Q : Int, dPow (.int 10) (.int 18) = some (.int Q) := ⟨10 ^ 18, dPow_of (by decide)⟩
  have m1 : dMul (.int P) (.int P) = some (.int (P * P)) := dMul_sm s1 s1
  have m2 : dMul (.int (P * P)) (.int P) = some (.int (P * P * P)) := dMul_sm (s1.mul s1) s1
  have m3 : dMul (.int (P * P * P)) (.int P) = some (.int (P * P * P * P)) := dMul_sm ((s1.mul s1).mul s1) s1
  have wp : (0 : Int) < P * P * P * P := Int.mul_pos (Int.mul_pos (Int.mul_pos pP pP) pP) pP
  have e2 := fun i : Int => @dMod_pos i _ wp
  have e3 : ∀ i : Int, dMod (.int i) (.int 2147483563) = some (.int (i % 2147483563)) := fun i => dMod_pos (by decide)
  have e4 : ∀ i : Int, dMod (.int i) (.int 2147483647) = some (.int (i % 2147483647)) := fun i => dMod_pos (by decide)
  have e5 : ∀ i : Int, dMul (.int (i % 2147483647)) (.int 48271) = some (.int (i % 2147483647 * 48271)) := fun i => dMul_sm (n := 32) (m := 17) (Sm.mod (Sm.lit (by decide)) (by decide)) (Sm.lit (by decide))
  have e6 : dMul (.int 7919) (.int k) = some (.int (7919 * k)) := dMul_sm (n := 14) (m := 18) (Sm.lit (by decide)) (Sm.of hk.1 (by omega))
  have pN : 0 ≤ c % (P * P * P * P) := Int.emod_nonneg _ (by omega)
  generalize P * P * P * P = W at *
  generalize hN : c % W = N at *
  by_cases q : Q ≤ N
  · refine ⟨[.int N, .int (N % 2147483563 + k)], ?_, ⟨N, _, rfl, pN, by have := Int.emod_nonneg N (show (2147483563 : Int) ≠ 0 by decide); omega, by have := Int.emod_lt_of_pos N (show (0 : Int) < 2147483563 by decide); omega⟩, rfl⟩
    simp [dSeq, dAsg, dIf, dB, dOp, dUn, dCall, dVar, dC, dCons, dNil, dRet, dNext, dTup, dLst, dNotT, dAndT, dOrT, dAndV, dOrV, dNotV, setDat, dIxO, oL, pL, dSetIx, bL, borAt, oneBor, stB, slOf, dInt, dAdd_int, dSub_int, dCmp, dIx, L2.atI, L2.ixN, dCallO, xOwn, xDat, xNil, st0, dLen, m__law_hat, Dn.run, g__law_hat, eP, eQ, m1, m2, m3, e2, e3, hN, q, lim]
  · refine ⟨[.int 0, .int ((N % 2147483647 * 48271 + 7919 * k + 1) % 2147483647)], ?_, ⟨0, _, rfl, Int.le_refl _, Int.emod_nonneg _ (by decide), by have := Int.emod_lt_of_pos (N % 2147483647 * 48271 + 7919 * k + 1) (show (0 : Int) < 2147483647 by decide); omega⟩, rfl⟩
    simp [dSeq, dAsg, dIf, dB, dOp, dUn, dCall, dVar, dC, dCons, dNil, dRet, dNext, dTup, dLst, dNotT, dAndT, dOrT, dAndV, dOrV, dNotV, setDat, dIxO, oL, pL, dSetIx, bL, borAt, oneBor, stB, slOf, dInt, dAdd_int, dSub_int, dCmp, dIx, L2.atI, L2.ixN, dCallO, xOwn, xDat, xNil, st0, dLen, m__law_hat, Dn.run, g__law_hat, eP, eQ, m1, m2, m3, e2, e4, e5, e6, hN, q, lim]
theorem any_ok {st : List D} (h : HatOk st) {xs : List D} (hx : xs ≠ []) (hl : xs.length < 1000) : ∃ st' d, m__law_any st [none, some (.lst xs)] = some (st', d) ∧ HatOk st' ∧ d ∈ xs := by
  have hp : (0 : Int) < xs.length := by cases xs with
    | nil => exact absurd rfl hx
    | cons a r => simp
  obtain ⟨st', r, e, h', r0, r1⟩ := draw_ok h hp (Sm.of (n := 10) (by omega) (by omega))
  have hlt : r.toNat < xs.length := by omega
  refine ⟨st', xs[r.toNat], ?_, h', List.getElem_mem _⟩
  simp [dSeq, dAsg, dIf, dB, dOp, dUn, dCall, dVar, dC, dCons, dNil, dRet, dNext, dTup, dLst, dNotT, dAndT, dOrT, dAndV, dOrV, dNotV, setDat, dIxO, oL, pL, dSetIx, bL, borAt, oneBor, stB, slOf, dInt, dAdd_int, dSub_int, dCmp, dIx, L2.atI, L2.ixN, dCallO, xOwn, xDat, xNil, st0, dLen, m__law_any, runB, g__law_any, e, r0, r1, List.getElem?_eq_getElem hlt]
def gcdB : FS := dSeq (dIf (dB (dOp dEq (dVar 1) (dC (.int 0)))) (dBrk) (dNext)) (dPar 0 1 (dCons (dVar 1) (dCons (dOp dMod (dCall dInt (dCons (dVar 0) (dNil))) (dVar 1)) (dNil))))
theorem gcdB_stop (a : Int) (s : Sl) : gcdB [.dat (.int a), .dat (.int 0), s] = some (.bk, [.dat (.int a), .dat (.int 0), s]) := by simp [dSeq, dAsg, dIf, dB, dOp, dUn, dCall, dVar, dC, dCons, dNil, dRet, dNext, dTup, dLst, dNotT, dAndT, dOrT, dAndV, dOrV, dNotV, setDat, dIxO, oL, pL, dSetIx, bL, borAt, oneBor, stB, slOf, dInt, dAdd_int, dSub_int, dCmp, dIx, L2.atI, L2.ixN, dCallO, xOwn, xDat, xNil, st0, dLen, dPar, gSet, isDat, dBrk, dEq_int, gcdB]
theorem gcdB_go {a b : Int} (hb : 0 < b) (s : Sl) : gcdB [.dat (.int a), .dat (.int b), s] = some (.nx, [.dat (.int b), .dat (.int (a % b)), s]) := by
  have : b ≠ 0 := by omega
  simp [dSeq, dAsg, dIf, dB, dOp, dUn, dCall, dVar, dC, dCons, dNil, dRet, dNext, dTup, dLst, dNotT, dAndT, dOrT, dAndV, dOrV, dNotV, setDat, dIxO, oL, pL, dSetIx, bL, borAt, oneBor, stB, slOf, dInt, dAdd_int, dSub_int, dCmp, dIx, L2.atI, L2.ixN, dCallO, xOwn, xDat, xNil, st0, dLen, dPar, gSet, isDat, dBrk, dEq_int, gcdB, this, dMod_pos hb]
theorem gcd_loop : ∀ (n : Nat) (ds : List D) (a b : Int) (s : Sl), isDat (some s) = true → 0 ≤ a → 0 ≤ b → b < 2 ^ n → 2 * n + 2 ≤ ds.length → ∃ s', forL (gSet 2) gcdB ds [.dat (.int a), .dat (.int b), s] = some (.nx, [.dat (.int (Int.gcd a b)), .dat (.int 0), s'])
  | n, [], a, b, s, hs, ha, hb, hn, hl => by simp at hl
  | n, [d], a, b, s, hs, ha, hb, hn, hl => by simp at hl
  | n, d :: d2 :: ds, a, b, s, hs, ha, hb, hn, hl => by
    have g1 : ∀ x y : Sl, gSet 2 d [x, y, s] = some [x, y, .dat d] := fun x y => by
      unfold gSet
      rw [if_pos (show isDat ([x, y, s][2]?) = true from hs)]
      rfl
    have g2 : ∀ (x y : Sl) (u : D), gSet 2 d2 [x, y, .dat u] = some [x, y, .dat d2] := fun x y u => rfl
    by_cases c : b = 0
    · subst c
      refine ⟨.dat d, ?_⟩
      unfold forL
      rw [g1]
      dsimp only
      rw [gcdB_stop]
      have : ((Int.gcd a 0 : Nat) : Int) = a := by rw [Int.gcd_zero]; omega
      rw [this]
    · have hb' : 0 < b := by omega
      unfold forL
      rw [g1]
      dsimp only
      rw [gcdB_go hb']
      dsimp only
      unfold forL
      rw [g2]
      dsimp only
      by_cases c2 : a % b = 0
      · refine ⟨.dat d2, ?_⟩
        rw [c2, gcdB_stop]
        have : ((Int.gcd a b : Nat) : Int) = b := by rw [← gcd_step, c2, Int.gcd_zero]; omega
        rw [this]
      · have hr : 0 < a % b := by
          have := Int.emod_nonneg a (show b ≠ 0 by omega)
          omega
        rw [gcdB_go hr]
        dsimp only
        cases n with
        | zero => have : b < 1 := hn; omega
        | succ n =>
          obtain ⟨s', h⟩ := gcd_loop n ds b (b % (a % b)) (.dat d2) rfl hb (Int.emod_nonneg _ (by omega)) (halves hb' hn hr) (by simp at hl; omega) |> fun h => gcd_loop n ds (a % b) (b % (a % b)) (.dat d2) rfl (by omega) (Int.emod_nonneg _ (by omega)) (halves hb' hn hr) (by simp at hl; omega)
          refine ⟨s', ?_⟩
          rw [h, gcd_step, gcd_step]
theorem gcd_ok {a b : Int} (hb : 0 ≤ b) (hs : Sm 2000 b) : m__law_gcd [.int a, .int b] = some (.int (Int.gcd a b)) := by
  have hb2 : b < 2 ^ 2000 := by
    unfold Sm at hs
    have : ((2 ^ 2000 : Nat) : Int) = (2 : Int) ^ 2000 := by simp
    omega
  have hlen : (rngD 0 90000).length = 90000 := by simp [rngD]
  have habs : 0 ≤ (if a < 0 then -a else a) := by split <;> omega
  obtain ⟨s', h⟩ := gcd_loop 2000 (rngD 0 90000) (if a < 0 then -a else a) b .un rfl habs hb hb2 (by omega)
  have e : Int.gcd (if a < 0 then -a else a) b = Int.gcd a b := by split <;> simp
  rw [e] at h
  have hr : dRng1 (dCons (dC (.int 90000)) dNil) [.dat (.int (if a < 0 then -a else a)), .dat (.int b), .un] = some (rngD 0 90000, [.dat (.int (if a < 0 then -a else a)), .dat (.int b), .un]) := rfl
  have e0 : st0 3 [D.int a, D.int b] = [.dat (.int a), .dat (.int b), .un] := rfl
  have hf : dFor (dRng1 (dCons (dC (.int 90000)) dNil)) (gSet 2) gcdB [.dat (.int (if a < 0 then -a else a)), .dat (.int b), .un] = some (.nx, [.dat (.int (Int.gcd a b)), .dat (.int 0), s']) := by
    unfold dFor
    rw [hr]
    exact h
  have hg : g__law_gcd = dSeq (dAsg 0 (dCall dAbs (dCons (dVar 0) (dNil)))) (dSeq (dFor (dRng1 (dCons (dC (.int 90000)) (dNil))) (gSet 2) gcdB) (dRet (dVar 0))) := rfl
  have ha : dAsg 0 (dCall dAbs (dCons (dVar 0) (dNil))) [.dat (.int a), .dat (.int b), .un] = some (.nx, [.dat (.int (if a < 0 then -a else a)), .dat (.int b), .un]) := by simp [dSeq, dAsg, dIf, dB, dOp, dUn, dCall, dVar, dC, dCons, dNil, dRet, dNext, dTup, dLst, dNotT, dAndT, dOrT, dAndV, dOrV, dNotV, setDat, dIxO, oL, pL, dSetIx, bL, borAt, oneBor, stB, slOf, dInt, dAdd_int, dSub_int, dCmp, dIx, L2.atI, L2.ixN, dCallO, xOwn, xDat, xNil, st0, dLen, dPar, gSet, isDat, dBrk, dEq_int, dAbs]
  have : dSeq (dAsg 0 (dCall dAbs (dCons (dVar 0) (dNil)))) (dSeq (dFor (dRng1 (dCons (dC (.int 90000)) (dNil))) (gSet 2) gcdB) (dRet (dVar 0))) [.dat (.int a), .dat (.int b), .un] = some (.rt (.int (Int.gcd a b)), [.dat (.int (Int.gcd a b)), .dat (.int 0), s']) := by
    unfold dSeq
    rw [ha]
    dsimp only
    rw [hf]
    rfl
  refine run_of rfl (ρ := [.dat (.int (Int.gcd a b)), .dat (.int 0), s']) ?_
  rw [e0, hg]
  exact this
/-- a fraction of at most n bits -/
def FracD (n : Nat) (d : D) : Prop := ∃ t b : Int, d = .tup [.int t, .int b] ∧ 0 < b ∧ Int.gcd t b = 1 ∧ Sm n t ∧ Sm n b
theorem fraction_ok {t b : Int} {n : Nat} (hb : 0 < b) (st : Sm n t) (sb : Sm n b) (hn : n ≤ 2000 := by decide) : ∃ d, m__law_fraction [.int t, .int b] = some d ∧ FracD n d ∧ ∃ t' b', d = .tup [.int t', .int b'] ∧ t * b' = t' * b := by
  have hg := gcd_ok (a := t) (Int.le_of_lt hb) (sb.up hn)
  have gp : (0 : Int) < (Int.gcd t b : Nat) := by
    have := Int.gcd_pos_of_ne_zero_right t (show b ≠ 0 by omega)
    omega
  have gb : ((Int.gcd t b : Nat) : Int) ≤ b := Int.gcd_le_right t hb
  have d1 : ((Int.gcd t b : Nat) : Int) ∣ t := Int.gcd_dvd_left ..
  have d2 : ((Int.gcd t b : Nat) : Int) ∣ b := Int.gcd_dvd_right ..
  have sg : Sm n ((Int.gcd t b : Nat) : Int) := by unfold Sm at *; omega
  have e1 := dDiv_sm (i := t) gp (sg.up hn)
  have e2 := dDiv_sm (i := b) gp (sg.up hn)
  have k1 : t = (t / (Int.gcd t b : Nat)) * (Int.gcd t b : Nat) := (Int.ediv_mul_cancel d1).symm
  have k2 : b = (b / (Int.gcd t b : Nat)) * (Int.gcd t b : Nat) := (Int.ediv_mul_cancel d2).symm
  have c1 : Int.gcd (t / (Int.gcd t b : Nat)) (b / (Int.gcd t b : Nat)) = 1 := by
    rw [Int.gcd_ediv d1 d2]
    simp
    exact Nat.div_self (by omega)
  have s1 := st.div gp
  have s2 := sb.div gp
  have p2 : 0 < b / (Int.gcd t b : Nat) := Int.ediv_pos_of_pos_of_dvd hb (Int.le_of_lt gp) d2
  generalize Int.gcd t b = G at *
  refine ⟨.tup [.int (t / (G : Int)), .int (b / (G : Int))], ?_, ⟨_, _, rfl, p2, c1, s1, s2⟩, _, _, rfl, ?_⟩
  · simp [dSeq, dAsg, dIf, dB, dOp, dUn, dCall, dVar, dC, dCons, dNil, dRet, dNext, dTup, dLst, dNotT, dAndT, dOrT, dAndV, dOrV, dNotV, setDat, dIxO, oL, pL, dSetIx, bL, borAt, oneBor, stB, slOf, dInt, dAdd_int, dSub_int, dCmp, dIx, L2.atI, L2.ixN, dCallO, xOwn, xDat, xNil, st0, dLen, dPar, gSet, isDat, dBrk, dEq_int, m__law_fraction, Dn.run, g__law_fraction, hg, e1, e2, lim]
  · generalize t / (G : Int) = x at *
    generalize b / (G : Int) = y at *
    rw [k1, k2, Int.mul_assoc, Int.mul_comm (G : Int) y]
end K18

set_option Elab.async false
set_option linter.all false
set_option maxRecDepth 100000
namespace Dn
open PySem
/-- plain nested values, ints of at most n bits -/
inductive Val (n : Nat) : D → Prop
  | non : Val n .non
  | bl (b : Bool) : Val n (.bl b)
  | int {i : Int} (h : Sm n i) : Val n (.int i)
  | str (s : Str) : Val n (.str s)
  | tup {xs : List D} (h : ∀ x, x ∈ xs → Val n x) (l : xs.length < 1000) : Val n (.tup xs)
  | lst {xs : List D} (h : ∀ x, x ∈ xs → Val n x) (l : xs.length < 1000) : Val n (.lst xs)
def isTupB : D → Bool
  | .tup _ => true
  | _ => false
def isIntB : D → Bool
  | .int _ => true
  | _ => false
theorem Val.up {n m : Nat} (l : n ≤ m) : ∀ {d : D}, Val n d → Val m d := fun {d} h => by
  induction h with
  | non => exact .non
  | bl b => exact .bl b
  | int h => exact .int (h.up l)
  | str s => exact .str s
  | tup h l ih => exact .tup ih l
  | lst h l ih => exact .lst ih l
theorem isTy_tup {n : Nat} {d : D} (h : Val n d) : isTy "tuple" d = some (.bl (isTupB d)) := by cases h <;> rfl
theorem isTy_intbl {n : Nat} {d : D} (h : Val n d) : ∃ a b, isTy "int" d = some (.bl a) ∧ isTy "bool" d = some (.bl b) ∧ (a && !b) = isIntB d := by
  cases h with
  | non => exact ⟨false, false, rfl, rfl, rfl⟩
  | bl b => exact ⟨true, true, rfl, rfl, rfl⟩
  | int h => exact ⟨true, false, rfl, rfl, rfl⟩
  | str s => exact ⟨false, false, rfl, rfl, rfl⟩
  | tup h l => exact ⟨false, false, rfl, rfl, rfl⟩
  | lst h l => exact ⟨false, false, rfl, rfl, rfl⟩
end Dn
namespace K18
open PySem Dn
def isFracB : D → Bool
  | .tup [.int t, .int b] => decide (1 ≤ b) && decide (Int.gcd t b = 1)
  | _ => false
theorem isint_ok {n : Nat} {d : D} (h : Val n d) : m__law_is_int [d] = some (.bl (isIntB d)) := by
  obtain ⟨a, b, h1, h2, h3⟩ := isTy_intbl h
  rw [← h3]
  cases a <;> cases b <;> simp [dSeq, dAsg, dIf, dB, dOp, dUn, dCall, dVar, dC, dCons, dNil, dRet, dNext, dTup, dLst, dNotT, dAndT, dOrT, dAndV, dOrV, dNotV, setDat, dIxO, oL, pL, dSetIx, bL, borAt, oneBor, stB, slOf, dInt, dAdd_int, dSub_int, dCmp, dIx, L2.atI, L2.ixN, dCallO, xOwn, xDat, xNil, st0, dLen, dPar, gSet, isDat, dBrk, dEq_int, dNe_int, m__law_is_int, Dn.run, g__law_is_int, h1, h2]
theorem isfrac_ok {n : Nat} {d : D} (h : Val n d) (hn : n ≤ 2000 := by decide) : m__law_is_fraction [d] = some (.bl (isFracB d)) := by
  have ht := isTy_tup h
  cases h with
  | non => simp [dSeq, dAsg, dIf, dB, dOp, dUn, dCall, dVar, dC, dCons, dNil, dRet, dNext, dTup, dLst, dNotT, dAndT, dOrT, dAndV, dOrV, dNotV, setDat, dIxO, oL, pL, dSetIx, bL, borAt, oneBor, stB, slOf, dInt, dAdd_int, dSub_int, dCmp, dIx, L2.atI, L2.ixN, dCallO, xOwn, xDat, xNil, st0, dLen, dPar, gSet, isDat, dBrk, dEq_int, dNe_int, m__law_is_fraction, Dn.run, g__law_is_fraction, ht, isTupB, isFracB]
  | bl b => simp [dSeq, dAsg, dIf, dB, dOp, dUn, dCall, dVar, dC, dCons, dNil, dRet, dNext, dTup, dLst, dNotT, dAndT, dOrT, dAndV, dOrV, dNotV, setDat, dIxO, oL, pL, dSetIx, bL, borAt, oneBor, stB, slOf, dInt, dAdd_int, dSub_int, dCmp, dIx, L2.atI, L2.ixN, dCallO, xOwn, xDat, xNil, st0, dLen, dPar, gSet, isDat, dBrk, dEq_int, dNe_int, m__law_is_fraction, Dn.run, g__law_is_fraction, ht, isTupB, isFracB]
  | int h => simp [dSeq, dAsg, dIf, dB, dOp, dUn, dCall, dVar, dC, dCons, dNil, dRet, dNext, dTup, dLst, dNotT, dAndT, dOrT, dAndV, dOrV, dNotV, setDat, dIxO, oL, pL, dSetIx, bL, borAt, oneBor, stB, slOf, dInt, dAdd_int, dSub_int, dCmp, dIx, L2.atI, L2.ixN, dCallO, xOwn, xDat, xNil, st0, dLen, dPar, gSet, isDat, dBrk, dEq_int, dNe_int, m__law_is_fraction, Dn.run, g__law_is_fraction, ht, isTupB, isFracB]
  | str s => simp [dSeq, dAsg, dIf, dB, dOp, dUn, dCall, dVar, dC, dCons, dNil, dRet, dNext, dTup, dLst, dNotT, dAndT, dOrT, dAndV, dOrV, dNotV, setDat, dIxO, oL, pL, dSetIx, bL, borAt, oneBor, stB, slOf, dInt, dAdd_int, dSub_int, dCmp, dIx, L2.atI, L2.ixN, dCallO, xOwn, xDat, xNil, st0, dLen, dPar, gSet, isDat, dBrk, dEq_int, dNe_int, m__law_is_fraction, Dn.run, g__law_is_fraction, ht, isTupB, isFracB]
  | lst h l => simp [dSeq, dAsg, dIf, dB, dOp, dUn, dCall, dVar, dC, dCons, dNil, dRet, dNext, dTup, dLst, dNotT, dAndT, dOrT, dAndV, dOrV, dNotV, setDat, dIxO, oL, pL, dSetIx, bL, borAt, oneBor, stB, slOf, dInt, dAdd_int, dSub_int, dCmp, dIx, L2.atI, L2.ixN, dCallO, xOwn, xDat, xNil, st0, dLen, dPar, gSet, isDat, dBrk, dEq_int, dNe_int, m__law_is_fraction, Dn.run, g__law_is_fraction, ht, isTupB, isFracB]
  | @tup xs hx hxl =>
    clear hxl
    match xs, hx with
    | [], _ => simp [dSeq, dAsg, dIf, dB, dOp, dUn, dCall, dVar, dC, dCons, dNil, dRet, dNext, dTup, dLst, dNotT, dAndT, dOrT, dAndV, dOrV, dNotV, setDat, dIxO, oL, pL, dSetIx, bL, borAt, oneBor, stB, slOf, dInt, dAdd_int, dSub_int, dCmp, dIx, L2.atI, L2.ixN, dCallO, xOwn, xDat, xNil, st0, dLen, dPar, gSet, isDat, dBrk, dEq_int, dNe_int, m__law_is_fraction, Dn.run, g__law_is_fraction, ht, isTupB, isFracB]
    | [a], _ => simp [dSeq, dAsg, dIf, dB, dOp, dUn, dCall, dVar, dC, dCons, dNil, dRet, dNext, dTup, dLst, dNotT, dAndT, dOrT, dAndV, dOrV, dNotV, setDat, dIxO, oL, pL, dSetIx, bL, borAt, oneBor, stB, slOf, dInt, dAdd_int, dSub_int, dCmp, dIx, L2.atI, L2.ixN, dCallO, xOwn, xDat, xNil, st0, dLen, dPar, gSet, isDat, dBrk, dEq_int, dNe_int, m__law_is_fraction, Dn.run, g__law_is_fraction, ht, isTupB, isFracB]
    | a :: b :: c :: r, _ =>
      have z : ¬ ((r.length : Int) + 1 + 1 + 1 = 2) := by omega
      simp [dSeq, dAsg, dIf, dB, dOp, dUn, dCall, dVar, dC, dCons, dNil, dRet, dNext, dTup, dLst, dNotT, dAndT, dOrT, dAndV, dOrV, dNotV, setDat, dIxO, oL, pL, dSetIx, bL, borAt, oneBor, stB, slOf, dInt, dAdd_int, dSub_int, dCmp, dIx, L2.atI, L2.ixN, dCallO, xOwn, xDat, xNil, st0, dLen, dPar, gSet, isDat, dBrk, dEq_int, dNe_int, m__law_is_fraction, Dn.run, g__law_is_fraction, ht, isTupB, isFracB, z]
    | [a, b], hx =>
      have va := hx a (by simp)
      have vb := hx b (by simp)
      have ia := isint_ok va
      have ib := isint_ok vb
      by_cases ca : isIntB a = true
      · by_cases cb : isIntB b = true
        · obtain ⟨t, rfl⟩ : ∃ t, a = .int t := by cases a <;> first | exact ⟨_, rfl⟩ | cases ca
          obtain ⟨u, rfl⟩ : ∃ t, b = .int t := by cases b <;> first | exact ⟨_, rfl⟩ | cases cb
          cases vb with
          | int hb =>
            rw [ca] at ia
            rw [cb] at ib
            by_cases cp : 1 ≤ u
            · have hg := gcd_ok (a := t) (b := u) (by omega) (hb.up hn)
              simp [dSeq, dAsg, dIf, dB, dOp, dUn, dCall, dVar, dC, dCons, dNil, dRet, dNext, dTup, dLst, dNotT, dAndT, dOrT, dAndV, dOrV, dNotV, setDat, dIxO, oL, pL, dSetIx, bL, borAt, oneBor, stB, slOf, dInt, dAdd_int, dSub_int, dCmp, dIx, L2.atI, L2.ixN, dCallO, xOwn, xDat, xNil, st0, dLen, dPar, gSet, isDat, dBrk, dEq_int, dNe_int, m__law_is_fraction, Dn.run, g__law_is_fraction, ht, isTupB, isFracB, ia, ib, cp, hg]
              omega
            · simp [dSeq, dAsg, dIf, dB, dOp, dUn, dCall, dVar, dC, dCons, dNil, dRet, dNext, dTup, dLst, dNotT, dAndT, dOrT, dAndV, dOrV, dNotV, setDat, dIxO, oL, pL, dSetIx, bL, borAt, oneBor, stB, slOf, dInt, dAdd_int, dSub_int, dCmp, dIx, L2.atI, L2.ixN, dCallO, xOwn, xDat, xNil, st0, dLen, dPar, gSet, isDat, dBrk, dEq_int, dNe_int, m__law_is_fraction, Dn.run, g__law_is_fraction, ht, isTupB, isFracB, ia, ib, cp]
        · have : isFracB (.tup [a, b]) = false := by
            unfold isFracB
            split
            · rename_i e; cases e; exact absurd rfl cb
            · rfl
          rw [ca] at ia
          rw [Bool.eq_false_iff.mpr cb] at ib
          simp [dSeq, dAsg, dIf, dB, dOp, dUn, dCall, dVar, dC, dCons, dNil, dRet, dNext, dTup, dLst, dNotT, dAndT, dOrT, dAndV, dOrV, dNotV, setDat, dIxO, oL, pL, dSetIx, bL, borAt, oneBor, stB, slOf, dInt, dAdd_int, dSub_int, dCmp, dIx, L2.atI, L2.ixN, dCallO, xOwn, xDat, xNil, st0, dLen, dPar, gSet, isDat, dBrk, dEq_int, dNe_int, m__law_is_fraction, Dn.run, g__law_is_fraction, ht, isTupB, this, ia, ib]
      · have : isFracB (.tup [a, b]) = false := by
          unfold isFracB
          split
          · rename_i e; cases e; exact absurd rfl ca
          · rfl
        rw [Bool.eq_false_iff.mpr ca] at ia
        simp [dSeq, dAsg, dIf, dB, dOp, dUn, dCall, dVar, dC, dCons, dNil, dRet, dNext, dTup, dLst, dNotT, dAndT, dOrT, dAndV, dOrV, dNotV, setDat, dIxO, oL, pL, dSetIx, bL, borAt, oneBor, stB, slOf, dInt, dAdd_int, dSub_int, dCmp, dIx, L2.atI, L2.ixN, dCallO, xOwn, xDat, xNil, st0, dLen, dPar, gSet, isDat, dBrk, dEq_int, dNe_int, m__law_is_fraction, Dn.run, g__law_is_fraction, ht, isTupB, this, ia]
def isPtB : D → Bool
  | .tup [f, g] => isFracB f && isFracB g
  | _ => false
theorem ispoint_ok {n : Nat} {d : D} (h : Val n d) (hn : n ≤ 2000 := by decide) : m__law_is_point [d] = some (.bl (isPtB d)) := by
  have ht := isTy_tup h
  cases h with
  | non => simp [dSeq, dAsg, dIf, dB, dOp, dUn, dCall, dVar, dC, dCons, dNil, dRet, dNext, dTup, dLst, dNotT, dAndT, dOrT, dAndV, dOrV, dNotV, setDat, dIxO, oL, pL, dSetIx, bL, borAt, oneBor, stB, slOf, dInt, dAdd_int, dSub_int, dCmp, dIx, L2.atI, L2.ixN, dCallO, xOwn, xDat, xNil, st0, dLen, dPar, gSet, isDat, dBrk, dEq_int, dNe_int, m__law_is_point, Dn.run, g__law_is_point, ht, isTupB, isPtB]
  | bl b => simp [dSeq, dAsg, dIf, dB, dOp, dUn, dCall, dVar, dC, dCons, dNil, dRet, dNext, dTup, dLst, dNotT, dAndT, dOrT, dAndV, dOrV, dNotV, setDat, dIxO, oL, pL, dSetIx, bL, borAt, oneBor, stB, slOf, dInt, dAdd_int, dSub_int, dCmp, dIx, L2.atI, L2.ixN, dCallO, xOwn, xDat, xNil, st0, dLen, dPar, gSet, isDat, dBrk, dEq_int, dNe_int, m__law_is_point, Dn.run, g__law_is_point, ht, isTupB, isPtB]
  | int h => simp [dSeq, dAsg, dIf, dB, dOp, dUn, dCall, dVar, dC, dCons, dNil, dRet, dNext, dTup, dLst, dNotT, dAndT, dOrT, dAndV, dOrV, dNotV, setDat, dIxO, oL, pL, dSetIx, bL, borAt, oneBor, stB, slOf, dInt, dAdd_int, dSub_int, dCmp, dIx, L2.atI, L2.ixN, dCallO, xOwn, xDat, xNil, st0, dLen, dPar, gSet, isDat, dBrk, dEq_int, dNe_int, m__law_is_point, Dn.run, g__law_is_point, ht, isTupB, isPtB]
  | str s => simp [dSeq, dAsg, dIf, dB, dOp, dUn, dCall, dVar, dC, dCons, dNil, dRet, dNext, dTup, dLst, dNotT, dAndT, dOrT, dAndV, dOrV, dNotV, setDat, dIxO, oL, pL, dSetIx, bL, borAt, oneBor, stB, slOf, dInt, dAdd_int, dSub_int, dCmp, dIx, L2.atI, L2.ixN, dCallO, xOwn, xDat, xNil, st0, dLen, dPar, gSet, isDat, dBrk, dEq_int, dNe_int, m__law_is_point, Dn.run, g__law_is_point, ht, isTupB, isPtB]
  | lst h l => simp [dSeq, dAsg, dIf, dB, dOp, dUn, dCall, dVar, dC, dCons, dNil, dRet, dNext, dTup, dLst, dNotT, dAndT, dOrT, dAndV, dOrV, dNotV, setDat, dIxO, oL, pL, dSetIx, bL, borAt, oneBor, stB, slOf, dInt, dAdd_int, dSub_int, dCmp, dIx, L2.atI, L2.ixN, dCallO, xOwn, xDat, xNil, st0, dLen, dPar, gSet, isDat, dBrk, dEq_int, dNe_int, m__law_is_point, Dn.run, g__law_is_point, ht, isTupB, isPtB]
  | @tup xs hx hxl =>
    clear hxl
    match xs, hx with
    | [], _ => simp [dSeq, dAsg, dIf, dB, dOp, dUn, dCall, dVar, dC, dCons, dNil, dRet, dNext, dTup, dLst, dNotT, dAndT, dOrT, dAndV, dOrV, dNotV, setDat, dIxO, oL, pL, dSetIx, bL, borAt, oneBor, stB, slOf, dInt, dAdd_int, dSub_int, dCmp, dIx, L2.atI, L2.ixN, dCallO, xOwn, xDat, xNil, st0, dLen, dPar, gSet, isDat, dBrk, dEq_int, dNe_int, m__law_is_point, Dn.run, g__law_is_point, ht, isTupB, isPtB]
    | [a], _ => simp [dSeq, dAsg, dIf, dB, dOp, dUn, dCall, dVar, dC, dCons, dNil, dRet, dNext, dTup, dLst, dNotT, dAndT, dOrT, dAndV, dOrV, dNotV, setDat, dIxO, oL, pL, dSetIx, bL, borAt, oneBor, stB, slOf, dInt, dAdd_int, dSub_int, dCmp, dIx, L2.atI, L2.ixN, dCallO, xOwn, xDat, xNil, st0, dLen, dPar, gSet, isDat, dBrk, dEq_int, dNe_int, m__law_is_point, Dn.run, g__law_is_point, ht, isTupB, isPtB]
    | a :: b :: c :: r, _ =>
      have z : ¬ ((r.length : Int) + 1 + 1 + 1 = 2) := by omega
      simp [dSeq, dAsg, dIf, dB, dOp, dUn, dCall, dVar, dC, dCons, dNil, dRet, dNext, dTup, dLst, dNotT, dAndT, dOrT, dAndV, dOrV, dNotV, setDat, dIxO, oL, pL, dSetIx, bL, borAt, oneBor, stB, slOf, dInt, dAdd_int, dSub_int, dCmp, dIx, L2.atI, L2.ixN, dCallO, xOwn, xDat, xNil, st0, dLen, dPar, gSet, isDat, dBrk, dEq_int, dNe_int, m__law_is_point, Dn.run, g__law_is_point, ht, isTupB, isPtB, z]
    | [a, b], hx =>
      have fa := isfrac_ok (hx a (by simp)) hn
      have fb := isfrac_ok (hx b (by simp)) hn
      by_cases ca : isFracB a = true
      · rw [ca] at fa
        simp [dSeq, dAsg, dIf, dB, dOp, dUn, dCall, dVar, dC, dCons, dNil, dRet, dNext, dTup, dLst, dNotT, dAndT, dOrT, dAndV, dOrV, dNotV, setDat, dIxO, oL, pL, dSetIx, bL, borAt, oneBor, stB, slOf, dInt, dAdd_int, dSub_int, dCmp, dIx, L2.atI, L2.ixN, dCallO, xOwn, xDat, xNil, st0, dLen, dPar, gSet, isDat, dBrk, dEq_int, dNe_int, m__law_is_point, Dn.run, g__law_is_point, ht, isTupB, isPtB, fa, fb, ca]
      · rw [Bool.eq_false_iff.mpr ca] at fa
        simp [dSeq, dAsg, dIf, dB, dOp, dUn, dCall, dVar, dC, dCons, dNil, dRet, dNext, dTup, dLst, dNotT, dAndT, dOrT, dAndV, dOrV, dNotV, setDat, dIxO, oL, pL, dSetIx, bL, borAt, oneBor, stB, slOf, dInt, dAdd_int, dSub_int, dCmp, dIx, L2.atI, L2.ixN, dCallO, xOwn, xDat, xNil, st0, dLen, dPar, gSet, isDat, dBrk, dEq_int, dNe_int, m__law_is_point, Dn.run, g__law_is_point, ht, isTupB, isPtB, fa, fb, Bool.eq_false_iff.mpr ca]
end K18

set_option Elab.async false
set_option linter.all false
set_option maxRecDepth 100000
namespace Dn
open PySem
theorem lcL_all {g : FG} {t : FT} {f : FE} {vs : List Nat} {ρ : DE} {P : D → D → Prop} : ∀ (ds acc : List D), (∀ d, d ∈ ds → ∃ ρ1 ρ3 y, g d ρ = some ρ1 ∧ t ρ1 = some (true, ρ1) ∧ f ρ1 = some (y, ρ3) ∧ allDat ρ3 vs = true ∧ wipeD ρ3 vs = ρ ∧ P d y) → acc.length + ds.length ≤ lim →
    ∃ ys, lcL g t f vs ds ρ acc = some (acc ++ ys, ρ) ∧ ys.length = ds.length ∧ ∀ (i : Nat) (d y : D), ds[i]? = some d → ys[i]? = some y → P d y
  | [], acc, _, _ => ⟨[], by rw [List.append_nil]; rfl, rfl, fun i d y h => by simp at h⟩
  | d :: ds, acc, h, hl => by
    obtain ⟨ρ1, ρ3, y, h1, h2, h3, h4, h5, h6⟩ := h d (by simp)
    obtain ⟨ys, k1, k2, k3⟩ := lcL_all ds (acc ++ [y]) (fun e he => h e (by simp [he])) (by simp at hl ⊢; omega)
    refine ⟨y :: ys, ?_, by simp [k2], fun i d' y' e1 e2 => ?_⟩
    · unfold lcL
      rw [h1]
      dsimp only
      rw [h2]
      dsimp only
      rw [h3]
      dsimp only
      rw [if_pos ⟨h4, by simp at hl; omega⟩, h5, k1]
      simp
    · cases i with
      | zero => simp at e1 e2; subst e1 e2; exact h6
      | succ i => exact k3 i d' y' (by simpa using e1) (by simpa using e2)
theorem dLc_of {it : FI} {g : FG} {t : FT} {f : FE} {vs : List Nat} {ρ ρ1 ρw ρ' : DE} {ds ys : List D} (h1 : it ρ = some (ds, ρ1)) (h2 : allDat ρ1 vs = true) (h3 : wipeD ρ1 vs = ρw) (h4 : lcL g t f vs ds ρw [] = some (ys, ρw)) (h5 : backD ρ1 ρw vs = ρ') : dLc it g t f vs ρ = some (.lst ys, ρ') := by
  unfold dLc
  rw [h1]
  dsimp only
  rw [if_pos h2, h3, h4]
  dsimp only
  rw [h5]
theorem runB_of {g : FS} {n m : Nat} {st st' : List D} {as : List Ag} {d : D} {ρ : DE} (h1 : as.length = m) (h2 : oneBor as = true) (h3 : g (stB n st as) = some (.rt d, ρ)) (h4 : bL ρ (borAt as) = some st') : runB g n m st as = some (st', d) := by
  unfold runB
  rw [if_pos ⟨h1, h2⟩, h3]
  dsimp only
  rw [h4]
section
variable {ρ ρ1 ρ2 : DE} {f g : FE} {k : FA} {x y d : D} {xs : List D}
theorem ev_op {op : D → D → Option D} (h1 : f ρ = some (x, ρ1)) (h2 : g ρ1 = some (y, ρ2)) (h3 : op x y = some d) : dOp op f g ρ = some (d, ρ2) := by unfold dOp; rw [h1]; dsimp only; rw [h2]; dsimp only; rw [h3]
theorem ev_un {op : D → Option D} (h1 : f ρ = some (x, ρ1)) (h3 : op x = some d) : dUn op f ρ = some (d, ρ1) := by unfold dUn; rw [h1]; dsimp only; rw [h3]
theorem ev_call {m : List D → Option D} (h1 : k ρ = some (xs, ρ1)) (h2 : m xs = some d) : dCall m k ρ = some (d, ρ1) := by unfold dCall; rw [h1]; dsimp only; rw [h2]
theorem ev_cons (h1 : f ρ = some (x, ρ1)) (h2 : k ρ1 = some (xs, ρ2)) : dCons f k ρ = some (x :: xs, ρ2) := by unfold dCons; rw [h1]; dsimp only; rw [h2]
theorem ev_tup (h1 : k ρ = some (xs, ρ1)) (h2 : xs.length ≤ lim) : dTup k ρ = some (.tup xs, ρ1) := by unfold dTup; rw [h1]; dsimp only; rw [if_pos h2]
theorem ev_lst (h1 : k ρ = some (xs, ρ1)) (h2 : xs.length ≤ lim) : dLst k ρ = some (.lst xs, ρ1) := by unfold dLst; rw [h1]; dsimp only; rw [if_pos h2]
theorem ev_callO {i : Nat} {m : MB} {kx : FX} {st0 st st' : List D} {as : List Ag} (h0 : oL ρ i = some st0) (h1 : kx ρ = some (as, ρ1)) (h2 : oL ρ1 i = some st) (h3 : as.any Option.isNone = true) (h4 : m st as = some (st', d)) : dCallO i m kx ρ = some (d, pL ρ1 i st') := by
  unfold dCallO; rw [h0]; dsimp only; rw [h1]; dsimp only; rw [h2]; dsimp only; rw [if_pos h3, h4]
theorem ev_xdat {kx : FX} {as : List Ag} (h1 : f ρ = some (x, ρ1)) (h2 : kx ρ1 = some (as, ρ2)) : xDat f kx ρ = some (some x :: as, ρ2) := by unfold xDat; rw [h1]; dsimp only; rw [h2]
theorem ev_xown {kx : FX} {as : List Ag} {i : Nat} {st0 : List D} (h0 : oL ρ i = some st0) (h2 : kx ρ = some (as, ρ2)) : xOwn i kx ρ = some (none :: as, ρ2) := by unfold xOwn; rw [h0]; dsimp only; rw [h2]
theorem sv_seq {g h : FS} {r : Option (Fl × DE)} (h1 : g ρ = some (.nx, ρ1)) (h2 : h ρ1 = r) : dSeq g h ρ = r := by unfold dSeq; rw [h1]; exact h2
theorem sv_seqR {g h : FS} {d : D} (h1 : g ρ = some (.rt d, ρ1)) : dSeq g h ρ = some (.rt d, ρ1) := by unfold dSeq; rw [h1]
theorem sv_asg {i : Nat} (h1 : f ρ = some (d, ρ1)) (h2 : setDat ρ1 i d = some ρ2) : dAsg i f ρ = some (.nx, ρ2) := by unfold dAsg; rw [h1]; dsimp only; rw [h2]
theorem sv_asgG {g : FG} (h1 : f ρ = some (d, ρ1)) (h2 : g d ρ1 = some ρ2) : dAsgG f g ρ = some (.nx, ρ2) := by unfold dAsgG; rw [h1]; dsimp only; rw [h2]
theorem sv_ret (h1 : f ρ = some (d, ρ1)) : dRet f ρ = some (.rt d, ρ1) := by unfold dRet; rw [h1]
theorem sv_ifT {t : FT} {g h : FS} {r : Option (Fl × DE)} (h1 : t ρ = some (true, ρ1)) (h2 : g ρ1 = r) : dIf t g h ρ = r := by unfold dIf; rw [h1]; exact h2
theorem sv_ifF {t : FT} {g h : FS} {r : Option (Fl × DE)} (h1 : t ρ = some (false, ρ1)) (h2 : h ρ1 = r) : dIf t g h ρ = r := by unfold dIf; rw [h1]; exact h2
theorem tv_b {b : Bool} (h1 : f ρ = some (.bl b, ρ1)) : dB f ρ = some (b, ρ1) := by unfold dB; rw [h1]
end
theorem mem_of_all {ds ys : List D} {P : D → D → Prop} (hl : ys.length = ds.length) (h : ∀ (i : Nat) (d y : D), ds[i]? = some d → ys[i]? = some y → P d y) {y : D} (hy : y ∈ ys) : ∃ d, d ∈ ds ∧ P d y := by
  obtain ⟨i, hi, e⟩ := List.getElem_of_mem hy
  have hi2 : i < ds.length := by omega
  exact ⟨ds[i], List.getElem_mem _, h i _ _ (List.getElem?_eq_getElem hi2) (by rw [List.getElem?_eq_getElem hi, e])⟩
end Dn
namespace K18
open PySem Dn
def PtD (n : Nat) (d : D) : Prop := ∃ f g, d = .tup [f, g] ∧ FracD n f ∧ FracD n g
theorem middle_ok {n : Nat} {p q : D} (hp : PtD n p) (hq : PtD n q) (hn : n + n + 2 ≤ 2000 := by decide) : ∃ d, m__law_middle [p, q] = some d ∧ PtD (n + n + 2) d := by
  obtain ⟨f, g, rfl, ⟨a, b, rfl, b0, ab, sa, sb⟩, ⟨c, d, rfl, d0, cd, sc, sd⟩⟩ := hp
  obtain ⟨f, g, rfl, ⟨a', b', rfl, b0', ab', sa', sb'⟩, ⟨c', d', rfl, d0', cd', sc', sd'⟩⟩ := hq
  have l2 : Sm 2 2 := Sm.lit (by decide)
  have e1 := dMul_sm sa sb' (by omega)
  have e2 := dMul_sm sa' sb (by omega)
  have e3 := dMul_sm l2 sb (by omega)
  have e4 := dMul_sm (l2.mul sb) sb' (by omega)
  have e5 := dMul_sm sc sd' (by omega)
  have e6 := dMul_sm sc' sd (by omega)
  have e7 := dMul_sm l2 sd (by omega)
  have e8 := dMul_sm (l2.mul sd) sd' (by omega)
  obtain ⟨r1, h1, k1, _⟩ := fraction_ok (t := a * b' + a' * b) (b := 2 * b * b') (n := n + n + 2) (Int.mul_pos (Int.mul_pos (by decide) b0) b0') (((sa.mul sb').add (sa'.mul sb)).up (by omega)) (((l2.mul sb).mul sb').up (by omega)) hn
  obtain ⟨r2, h2, k2, _⟩ := fraction_ok (t := c * d' + c' * d) (b := 2 * d * d') (n := n + n + 2) (Int.mul_pos (Int.mul_pos (by decide) d0) d0') (((sc.mul sd').add (sc'.mul sd)).up (by omega)) (((l2.mul sd).mul sd').up (by omega)) hn
  refine ⟨.tup [r1, r2], ?_, r1, r2, rfl, k1, k2⟩
  simp [dSeq, dAsg, dIf, dB, dOp, dUn, dCall, dVar, dC, dCons, dNil, dRet, dNext, dTup, dLst, dNotT, dAndT, dOrT, dAndV, dOrV, dNotV, setDat, dIxO, oL, pL, dSetIx, bL, borAt, oneBor, stB, slOf, dInt, dAdd_int, dSub_int, dCmp, dIx, L2.atI, L2.ixN, dCallO, xOwn, xDat, xNil, st0, dLen, dPar, gSet, isDat, dBrk, dEq_int, dNe_int, gTupD, gsCons, gsNil, dYes, dLc, dItems, dZip, zipD, lcL, allDat, wipeD, backD, dTuple, m__law_middle, Dn.run, g__law_middle, e1, e2, e3, e4, e5, e6, e7, e8, h1, h2, lim]
def FrameD (n k : Nat) (d : D) : Prop := ∃ ps, d = .tup ps ∧ ps.length = k ∧ ∀ p, p ∈ ps → PtD n p
theorem long_ok {st : List D} (hs : HatOk st) {n k : Nat} {fr : D} (hf : FrameD n k fr) (hk : k < 1000) (hn : n + 62 ≤ 2000 := by decide) : ∃ st' d, m__law_long st [none, some fr] = some (st', d) ∧ HatOk st' ∧ FrameD (n + 62) k d := by
  obtain ⟨ps, rfl, hl, hp⟩ := hf
  obtain ⟨Q, eQ, sQ, pQ⟩ : ∃ Q : Int, dPow (.int 10) (.int 18) = some (.int Q) ∧ Sm 60 Q ∧ 0 < Q := ⟨10 ^ 18, dPow_of (by decide), Sm.lit (by decide +kernel), by decide +kernel⟩
  obtain ⟨st', r, e, hs', r0, r1⟩ := draw_ok hs pQ sQ
  have sT : Sm 62 (Q + r) := (sQ.add (Sm.up (n := 60) (by unfold Sm at *; omega) (by decide))).up (by decide)
  have hm : ∀ d, d ∈ ps → ∃ ρ1 ρ3 y, gTupD (gsCons (gSet 3) (gsCons (gSet 4) (gsNil))) 2 d [.bor (.lst st'), .dat (.tup ps), .dat (.int (Q + r)), .un, .un] = some ρ1 ∧ dYes ρ1 = some (true, ρ1) ∧
      dTup (dCons (dCall m__law_fraction (dCons (dOp dMul (dOp dIx (dVar 3) (dC (.int 0))) (dVar 2)) (dCons (dOp dIx (dVar 3) (dC (.int 1))) (dNil)))) (dCons (dCall m__law_fraction (dCons (dOp dMul (dOp dIx (dVar 4) (dC (.int 0))) (dVar 2)) (dCons (dOp dIx (dVar 4) (dC (.int 1))) (dNil)))) (dNil))) ρ1 = some (y, ρ3) ∧ allDat ρ3 [3, 4] = true ∧ wipeD ρ3 [3, 4] = [.bor (.lst st'), .dat (.tup ps), .dat (.int (Q + r)), .un, .un] ∧ PtD (n + 62) y := by
    intro d hd
    obtain ⟨f, g, rfl, ⟨a, b, rfl, b0, ab, sa, sb⟩, ⟨c, d, rfl, d0, cd, sc, sd⟩⟩ := hp d hd
    have e1 := dMul_sm sa sT (by omega)
    have e2 := dMul_sm sc sT (by omega)
    obtain ⟨r1, h1, k1, _⟩ := fraction_ok (t := a * (Q + r)) (b := b) (n := n + 62) b0 (sa.mul sT) (sb.up (by omega)) hn
    obtain ⟨r2, h2, k2, _⟩ := fraction_ok (t := c * (Q + r)) (b := d) (n := n + 62) d0 (sc.mul sT) (sd.up (by omega)) hn
    refine ⟨[.bor (.lst st'), .dat (.tup ps), .dat (.int (Q + r)), .dat (.tup [.int a, .int b]), .dat (.tup [.int c, .int d])], [.bor (.lst st'), .dat (.tup ps), .dat (.int (Q + r)), .dat (.tup [.int a, .int b]), .dat (.tup [.int c, .int d])], .tup [r1, r2], rfl, rfl, ?_, rfl, rfl, r1, r2, rfl, k1, k2⟩
    simp [dSeq, dAsg, dIf, dB, dOp, dUn, dCall, dVar, dC, dCons, dNil, dRet, dNext, dTup, dLst, dNotT, dAndT, dOrT, dAndV, dOrV, dNotV, setDat, dIxO, oL, pL, dSetIx, bL, borAt, oneBor, stB, slOf, dInt, dAdd_int, dSub_int, dCmp, dIx, L2.atI, L2.ixN, dCallO, xOwn, xDat, xNil, st0, dLen, dPar, gSet, isDat, dBrk, dEq_int, dNe_int, gTupD, gsCons, gsNil, dYes, dLc, dItems, dZip, zipD, lcL, allDat, wipeD, backD, dTuple, e1, e2, h1, h2, lim]
  obtain ⟨ys, h1, h2, h3⟩ := lcL_all (P := fun _ y => PtD (n + 62) y) ps [] hm (by simp [lim]; omega)
  refine ⟨st', .tup ys, ?_, hs', ys, rfl, h2.trans hl, fun p hy => (mem_of_all (P := fun _ y => PtD (n + 62) y) h2 h3 hy).elim fun _ z => z.2⟩
  rw [List.nil_append] at h1
  have hb : dCallO 0 m__law_draw (xOwn 0 (xDat (dOp dPow (dC (.int 10)) (dC (.int 18))) (xNil))) [.bor (.lst st), .dat (.tup ps), .un, .un, .un] = some (.int r, [.bor (.lst st'), .dat (.tup ps), .un, .un, .un]) := by simp [dSeq, dAsg, dIf, dB, dOp, dUn, dCall, dVar, dC, dCons, dNil, dRet, dNext, dTup, dLst, dNotT, dAndT, dOrT, dAndV, dOrV, dNotV, setDat, dIxO, oL, pL, dSetIx, bL, borAt, oneBor, stB, slOf, dInt, dAdd_int, dSub_int, dCmp, dIx, L2.atI, L2.ixN, dCallO, xOwn, xDat, xNil, st0, dLen, dPar, gSet, isDat, dBrk, dEq_int, dNe_int, gTupD, gsCons, gsNil, dYes, dLc, dItems, dZip, zipD, lcL, allDat, wipeD, backD, dTuple, eQ, e]
  have hc : dLc (dItems (dVar 1)) (gTupD (gsCons (gSet 3) (gsCons (gSet 4) (gsNil))) 2) (dYes) (dTup (dCons (dCall m__law_fraction (dCons (dOp dMul (dOp dIx (dVar 3) (dC (.int 0))) (dVar 2)) (dCons (dOp dIx (dVar 3) (dC (.int 1))) (dNil)))) (dCons (dCall m__law_fraction (dCons (dOp dMul (dOp dIx (dVar 4) (dC (.int 0))) (dVar 2)) (dCons (dOp dIx (dVar 4) (dC (.int 1))) (dNil)))) (dNil)))) [3, 4] [.bor (.lst st'), .dat (.tup ps), .dat (.int (Q + r)), .un, .un] = some (.lst ys, [.bor (.lst st'), .dat (.tup ps), .dat (.int (Q + r)), .un, .un]) := by
    exact dLc_of rfl rfl rfl h1 rfl
  have hg : g__law_long [.bor (.lst st), .dat (.tup ps), .un, .un, .un] = some (.rt (.tup ys), [.bor (.lst st'), .dat (.tup ps), .dat (.int (Q + r)), .un, .un]) := by
    exact sv_seq (sv_asg (ev_op (ev_op rfl rfl eQ) hb rfl) rfl) (sv_ret (ev_call (ev_cons hc rfl) rfl))
  exact runB_of rfl rfl hg rfl
end K18

set_option Elab.async false
set_option linter.all false
set_option maxRecDepth 100000
namespace Dn
open PySem K18
theorem Val.frac {n : Nat} {d : D} (h : FracD n d) : Val n d := by
  obtain ⟨t, b, rfl, _, _, st, sb⟩ := h
  refine .tup (fun x hx => ?_) (by simp)
  simp at hx
  rcases hx with rfl | rfl
  · exact .int st
  · exact .int sb
theorem Val.tup1 {n : Nat} {a : D} (ha : Val n a) : Val n (.tup [a]) := .tup (fun x hx => by simp at hx; subst hx; exact ha) (by simp)
theorem Val.tup2 {n : Nat} {a b : D} (ha : Val n a) (hb : Val n b) : Val n (.tup [a, b]) := .tup (fun x hx => by simp at hx; rcases hx with rfl | rfl <;> assumption) (by simp)
theorem Val.tup3 {n : Nat} {a b c : D} (ha : Val n a) (hb : Val n b) (hc : Val n c) : Val n (.tup [a, b, c]) := .tup (fun x hx => by simp at hx; rcases hx with rfl | rfl | rfl <;> assumption) (by simp)
theorem Val.lst2 {n : Nat} {a b : D} (ha : Val n a) (hb : Val n b) : Val n (.lst [a, b]) := .lst (fun x hx => by simp at hx; rcases hx with rfl | rfl <;> assumption) (by simp)
theorem Val.pt {n : Nat} {d : D} (h : PtD n d) : Val n d := by
  obtain ⟨f, g, rfl, hf, hg⟩ := h
  exact .tup2 (.frac hf) (.frac hg)
theorem cut_mem {xs : List D} {lo hi : Option Int} {y : D} (h : y ∈ cutD xs lo hi) : y ∈ xs := List.mem_of_mem_drop (List.mem_of_mem_take h)
theorem cut_len (xs : List D) (lo hi : Option Int) : (cutD xs lo hi).length ≤ xs.length := by unfold cutD; simp; omega
theorem atI_mem {xs : List D} {i : Int} (h1 : -(xs.length : Int) ≤ i) (h2 : i < xs.length) : ∃ y, L2.atI xs i = some y ∧ y ∈ xs := by
  unfold L2.atI L2.ixN
  by_cases c : 0 ≤ i
  · rw [if_pos c, if_pos h2]
    have hl : i.toNat < xs.length := by omega
    exact ⟨xs[i.toNat], List.getElem?_eq_getElem hl, List.getElem_mem _⟩
  · rw [if_neg c, if_pos h1]
    have hl : (i + xs.length).toNat < xs.length := by omega
    exact ⟨xs[(i + xs.length).toNat], List.getElem?_eq_getElem hl, List.getElem_mem _⟩
section
variable {ρ ρ1 ρ2 ρ3 : DE} {f : FE} {x d : D}
theorem ev_sl {g h : FO} {lo hi : Option Int} (h1 : f ρ = some (x, ρ1)) (h2 : g ρ1 = some (lo, ρ2)) (h3 : h ρ2 = some (hi, ρ3)) (h4 : slD x lo hi = some d) : dSl f g h ρ = some (d, ρ3) := by
  unfold dSl; rw [h1]; dsimp only; rw [h2]; dsimp only; rw [h3]; dsimp only; rw [h4]
theorem ev_part {i : Int} (h1 : f ρ = some (.int i, ρ1)) : dPart f ρ = some (some i, ρ1) := by unfold dPart; rw [h1]
theorem add_tup {xs ys : List D} (h : xs.length + ys.length ≤ lim) : dAdd (.tup xs) (.tup ys) = some (.tup (xs ++ ys)) := by
  show (if xs.length + ys.length ≤ lim then _ else _) = _
  rw [if_pos h]
/-- fr[:at] + (x,) + fr[at + 1:] -/
theorem ev_put {fE aE xE : FE} {ps : List D} {a : Int} (h1 : fE ρ = some (.tup ps, ρ)) (h2 : aE ρ = some (.int a, ρ)) (h3 : xE ρ = some (x, ρ)) (hl : ps.length < 1000) :
    dOp dAdd (dOp dAdd (dSl fE (dNoP) (dPart aE)) (dTup (dCons xE (dNil)))) (dSl fE (dPart (dOp dAdd aE (dC (.int 1)))) (dNoP)) ρ = some (.tup (cutD ps none (some a) ++ [x] ++ cutD ps (some (a + 1)) none), ρ) := by
  have l1 := cut_len ps none (some a)
  have l2 := cut_len ps (some (a + 1)) none
  refine ev_op (ev_op (ev_sl h1 rfl (ev_part h2) rfl) (ev_tup (ev_cons h3 rfl) (by simp [lim])) (add_tup (by simp [lim]; omega))) (ev_sl h1 (ev_part (ev_op h2 rfl rfl)) rfl rfl) (add_tup (by simp [lim]; omega))
end
theorem Val.put {n : Nat} {ps : List D} {x : D} {lo hi lo' hi' : Option Int} (hp : ∀ p, p ∈ ps → Val n p) (hx : Val n x) (hl : ps.length < 400) : Val n (.tup (cutD ps lo hi ++ [x] ++ cutD ps lo' hi')) := .tup (fun y hy => by
  simp only [List.mem_append, List.mem_singleton] at hy
  rcases hy with (h | rfl) | h
  · exact hp _ (cut_mem h)
  · exact hx
  · exact hp _ (cut_mem h)) (by
  have := cut_len ps lo hi
  have := cut_len ps lo' hi'
  simp
  omega)
/-- how long a tuple is -/
def tlen : D → Nat
  | .tup xs => xs.length
  | _ => 0
end Dn
namespace K18
open PySem Dn
theorem bad_ok {st : List D} (hs : HatOk st) {n : Nat} {fr : D} (hf : FracD n fr) (hn : n + 2 ≤ 2000 := by decide) : ∃ st' d, m__law_bad_fraction st [none, some fr] = some (st', d) ∧ HatOk st' ∧ Val (n + 2) d := by
  obtain ⟨t, b, rfl, b0, g1, s1, s2⟩ := hf
  have l2 : Sm 2 2 := Sm.lit (by decide)
  have l3 : Sm 2 3 := Sm.lit (by decide)
  have e1 := dMul_sm s1 l2 (by omega)
  have e2 := dMul_sm s2 l2 (by omega)
  have e3 := dMul_sm s1 l3 (by omega)
  have e4 := dMul_sm s2 l3 (by omega)
  have v1 : Val (n + 2) (.int t) := .int (s1.up (by omega))
  have v2 : Val (n + 2) (.int b) := .int (s2.up (by omega))
  have c0 : Val (n + 2) (.int 0) := .int (Sm.up (n := 2) (Sm.lit (by decide)) (by omega))
  have c1 : Val (n + 2) (.int 1) := .int (Sm.up (n := 2) (Sm.lit (by decide)) (by omega))
  obtain ⟨st', d, e, hs', hd⟩ := any_ok hs (xs := [.tup [.int (t * 2), .int (b * 2)], .tup [.int (-t), .int (-b)], .tup [.int t, .int 0], .lst [.int t, .int b], .tup [.int t], .tup [.bl true, .int 1], .tup [.int 1, .bl true], .int t, .non, .str (PySem.Str.ofString "1"), .tup [.int t, .int b, .int 1], .tup [.int (t * 3), .int (b * 3)]]) (by simp) (by simp)
  refine ⟨st', d, ?_, hs', ?_⟩
  · simp [dSeq, dAsg, dAsgG, dIf, dB, dOp, dUn, dCall, dVar, dC, dCons, dNil, dRet, dNext, dTup, dLst, dNotT, dAndT, dOrT, dAndV, dOrV, dNotV, setDat, dIxO, oL, pL, dSetIx, bL, borAt, oneBor, stB, slOf, dInt, dAdd_int, dSub_int, dCmp, dIx, L2.atI, L2.ixN, dCallO, xOwn, xDat, xNil, st0, dLen, dPar, gSet, isDat, dBrk, dEq_int, dNe_int, gTupD, gsCons, gsNil, dYes, dLc, dItems, dZip, zipD, allDat, wipeD, backD, dTuple, m__law_bad_fraction, runB, g__law_bad_fraction, e1, e2, e3, e4, dNeg, dAdd, lim, e]
  · simp at hd
    rcases hd with rfl | rfl | rfl | rfl | rfl | rfl | rfl | rfl | rfl | rfl | rfl | rfl
    · exact .tup2 (.int (s1.mul l2)) (.int (s2.mul l2))
    · exact .tup2 (.int (s1.neg.up (by omega))) (.int (s2.neg.up (by omega)))
    · exact .tup2 v1 c0
    · exact .lst2 v1 v2
    · exact .tup1 v1
    · exact .tup2 (.bl _) c1
    · exact .tup2 c1 (.bl _)
    · exact v1
    · exact .non
    · exact .str _
    · exact .tup3 v1 v2 c1
    · exact .tup2 (.int (s1.mul l3)) (.int (s2.mul l3))
theorem PtD.up {n m : Nat} {p : D} (h : PtD n p) (l : n ≤ m) : PtD m p := by
  obtain ⟨f, g, rfl, ⟨a, b, rfl, b0, ab, sa, sb⟩, ⟨c, d, rfl, d0, cd, sc, sd⟩⟩ := h
  exact ⟨_, _, rfl, ⟨a, b, rfl, b0, ab, sa.up l, sb.up l⟩, ⟨c, d, rfl, d0, cd, sc.up l, sd.up l⟩⟩
theorem eqT {ρ : DE} {i : Nat} {k c : Int} {g h : FS} {d : D} {ρ1 : DE} (e : ρ[i]? = some (.dat (.int k))) (q : k = c) (hg : g ρ = some (.rt d, ρ1)) : dSeq (dIf (dB (dOp dEq (dVar i) (dC (.int c)))) g dNext) h ρ = some (.rt d, ρ1) := by
  refine sv_seqR (sv_ifT (tv_b (ev_op (x := .int k) (y := .int c) (d := .bl true) ?_ rfl ?_)) hg)
  · unfold dVar; rw [e]
  · rw [dEq_int, q]; simp
theorem eqF {ρ : DE} {i : Nat} {k c : Int} {g h : FS} {r : Option (Fl × DE)} (e : ρ[i]? = some (.dat (.int k))) (q : ¬ k = c) (hh : h ρ = r) : dSeq (dIf (dB (dOp dEq (dVar i) (dC (.int c)))) g dNext) h ρ = r := by
  refine sv_seq (sv_ifF (tv_b (ev_op (x := .int k) (y := .int c) (d := .bl false) ?_ rfl ?_)) rfl) hh
  · unfold dVar; rw [e]
  · rw [dEq_int]; simp [q]
end K18

set_option Elab.async false
set_option linter.all false
set_option maxRecDepth 100000
namespace Dn
open PySem
theorem ev_rng1 {k : FA} {ρ ρ1 : DE} {n : Nat} (h : k ρ = some ([.int (n : Int)], ρ1)) (hn : n < 1000000) : dRng1 k ρ = some (rngD 0 n, ρ1) := by
  have h1 : decide (-(2 ^ 62) ≤ (n : Int)) = true := decide_eq_true (by omega)
  have h2 : decide ((n : Int) < 2 ^ 62) = true := decide_eq_true (by omega)
  have : okR (n : Int) = true := by unfold okR; rw [h1, h2]; rfl
  unfold dRng1
  rw [h]
  dsimp only
  rw [if_pos this, Int.toNat_natCast]
end Dn
namespace K18
open PySem Dn
theorem spoilt_ok {st : List D} (hs : HatOk st) {n k : Nat} {fr : D} (hf : FrameD n k fr) (h3 : 3 ≤ k) (hk : k < 400) (hn : 4 * n + 6 ≤ 2000) : ∃ st' d, m__law_spoilt st [none, some fr] = some (st', d) ∧ HatOk st' ∧ Val (4 * n + 6) d ∧ tlen d ≤ 2 * k + 1 := by
  obtain ⟨ps, rfl, hl, hp⟩ := hf
  have vp : ∀ p, p ∈ ps → Val (4 * n + 6) p := fun p h => (Val.pt (hp p h)).up (by omega)
  obtain ⟨st1, kind, e1, hs1, k0, k1⟩ := draw_ok (many := 9) (n := 4) hs (by decide) (Sm.lit (by decide))
  obtain ⟨st2, at_, e2, hs2, a0, a1⟩ := draw_ok (many := (ps.length : Int)) (n := 10) hs1 (by omega) (Sm.of (by omega) (by omega))
  -- the places around
  obtain ⟨pm, em, mm⟩ := atI_mem (xs := ps) (i := at_ - 1) (by omega) (by omega)
  obtain ⟨pa, ea, ma⟩ := atI_mem (xs := ps) (i := at_) (by omega) (by omega)
  have b1 := Int.emod_nonneg (at_ + 1) (show (ps.length : Int) ≠ 0 by omega)
  have b2 := Int.emod_lt_of_pos (at_ + 1) (show (0 : Int) < ps.length by omega)
  have b3 := Int.emod_nonneg (at_ + 2) (show (ps.length : Int) ≠ 0 by omega)
  have b4 := Int.emod_lt_of_pos (at_ + 2) (show (0 : Int) < ps.length by omega)
  obtain ⟨p1, ep1, mp1⟩ := atI_mem (xs := ps) (i := (at_ + 1) % (ps.length : Int)) (by omega) (by omega)
  obtain ⟨p2, ep2, mp2⟩ := atI_mem (xs := ps) (i := (at_ + 2) % (ps.length : Int)) (by omega) (by omega)
  have mo : ∀ i : Int, dMod (.int i) (.int (ps.length : Int)) = some (.int (i % (ps.length : Int))) := fun i => dMod_pos (by omega)
  have hE : ∀ (d : D) (ρ : DE) (st' : List D), g__law_spoilt [.bor (.lst st), .dat (.tup ps), .un, .un, .un, .un, .un, .un, .un, .un, .un] = some (.rt d, ρ) → bL ρ 0 = some st' → m__law_spoilt st [none, some (.tup ps)] = some (st', d) := fun d ρ st' h1 h2 => runB_of rfl rfl h1 h2
  have hpre : ∀ {h : FS} {r : Option (Fl × DE)}, h [.bor (.lst st2), .dat (.tup ps), .dat (.int (ps.length : Int)), .dat (.int kind), .dat (.int at_), .un, .un, .un, .un, .un, .un] = r →
      dSeq (dAsg 2 (dCall dLen (dCons (dVar 1) (dNil)))) (dSeq (dAsg 3 (dCallO 0 m__law_draw (xOwn 0 (xDat (dC (.int 9)) (xNil))))) (dSeq (dAsg 4 (dCallO 0 m__law_draw (xOwn 0 (xDat (dVar 2) (xNil))))) h)) [.bor (.lst st), .dat (.tup ps), .un, .un, .un, .un, .un, .un, .un, .un, .un] = r := fun hh =>
    sv_seq (sv_asg (ev_call (ev_cons rfl rfl) rfl) rfl) (sv_seq (sv_asg (ev_callO rfl (ev_xown rfl (ev_xdat rfl rfl)) rfl rfl e1) rfl) (sv_seq (sv_asg (ev_callO rfl (ev_xown rfl (ev_xdat rfl rfl)) rfl rfl e2) rfl) hh))
  have lput : ∀ (x : D) (l1 h1 l2 h2 : Option Int), tlen (.tup (cutD ps l1 h1 ++ [x] ++ cutD ps l2 h2)) ≤ 2 * k + 1 := fun x l1 h1 l2 h2 => by
    have := cut_len ps l1 h1
    have := cut_len ps l2 h2
    simp [tlen]
    omega
  have hl1000 : ps.length < 1000 := by omega
  by_cases c0 : kind = 0
  · refine ⟨st2, .tup ps.reverse, hE _ [.bor (.lst st2), .dat (.tup ps), .dat (.int (ps.length : Int)), .dat (.int kind), .dat (.int at_), .un, .un, .un, .un, .un, .un] _ (hpre (eqT rfl c0 (sv_ret rfl))) rfl, hs2, .tup (fun x hx => vp x (List.mem_reverse.mp hx)) (by simp; omega), by simp [tlen]; omega⟩
  by_cases c1 : kind = 1
  · refine ⟨st2, _, hE _ _ _ (hpre (eqF rfl c0 (eqT rfl c1 (sv_ret (ev_put rfl rfl (ev_op rfl (ev_op rfl rfl rfl) em) hl1000))))) rfl, hs2, .put vp (vp _ mm) (by omega), lput ..⟩
  by_cases c2 : kind = 2
  · obtain ⟨x, ex, px⟩ := middle_ok (n := n) (hp _ mm) (hp _ mp1) (by omega)
    refine ⟨st2, _, hE _ _ _ (hpre (eqF rfl c0 (eqF rfl c1 (eqT rfl c2 (sv_ret (ev_put rfl rfl (ev_call (ev_cons (ev_op rfl (ev_op rfl rfl rfl) em) (ev_cons (ev_op rfl (ev_op (ev_op rfl rfl rfl) rfl (mo _)) ep1) rfl)) ex) hl1000)))))) rfl, hs2, .put vp ((Val.pt px).up (by omega)) (by omega), lput ..⟩
  by_cases c3 : kind = 3
  · obtain ⟨x, ex, px⟩ := middle_ok (n := n) (hp _ mp1) (hp _ mp2) (by omega)
    obtain ⟨y, ey, py⟩ := middle_ok (n := n + n + 2) ((hp _ mm).up (by omega)) px (by omega)
    refine ⟨st2, _, hE _ _ _ (hpre (eqF rfl c0 (eqF rfl c1 (eqF rfl c2 (eqT rfl c3 (sv_seq (sv_asg (ev_call (ev_cons (ev_op rfl (ev_op rfl rfl rfl) em) (ev_cons (ev_call (ev_cons (ev_op rfl (ev_op (ev_op rfl rfl rfl) rfl (mo _)) ep1) (ev_cons (ev_op rfl (ev_op (ev_op rfl rfl rfl) rfl (mo _)) ep2) rfl)) ex) rfl)) ey) rfl) (sv_ret (ev_put rfl rfl rfl hl1000)))))))) rfl, hs2, .put vp ((Val.pt py).up (by omega)) (by omega), lput ..⟩
  by_cases c4 : kind = 4
  · obtain ⟨st3, stp, e3, hs3, hstp⟩ := any_ok hs2 (xs := [.int 2, .int 2, .int 3]) (by simp) (by simp)
    obtain ⟨sp, rfl, sp1, sp2⟩ : ∃ sp : Int, stp = .int sp ∧ 2 ≤ sp ∧ sp ≤ 3 := by
      simp at hstp
      rcases hstp with rfl | rfl
      · exact ⟨2, rfl, by decide, by decide⟩
      · exact ⟨3, rfl, by decide, by decide⟩
    have hm : ∀ d, d ∈ rngD 0 ps.length → ∃ ρ1 ρ3 y, gSet 10 d [.bor (.lst st3), .dat (.tup ps), .dat (.int (ps.length : Int)), .dat (.int kind), .dat (.int at_), .un, .dat (.int sp), .un, .un, .un, .un] = some ρ1 ∧ dYes ρ1 = some (true, ρ1) ∧
        dOp dIx (dVar 1) (dOp dMod (dOp dMul (dVar 10) (dVar 6)) (dVar 2)) ρ1 = some (y, ρ3) ∧ allDat ρ3 [10] = true ∧ wipeD ρ3 [10] = [.bor (.lst st3), .dat (.tup ps), .dat (.int (ps.length : Int)), .dat (.int kind), .dat (.int at_), .un, .dat (.int sp), .un, .un, .un, .un] ∧ y ∈ ps := by
      intro d hd
      unfold rngD at hd
      obtain ⟨i, hi, rfl⟩ := List.mem_map.mp hd
      have hi := List.mem_range.mp hi
      have b5 := Int.emod_nonneg ((0 + (i : Nat) : Int) * sp) (show (ps.length : Int) ≠ 0 by omega)
      have b6 := Int.emod_lt_of_pos ((0 + (i : Nat) : Int) * sp) (show (0 : Int) < ps.length by omega)
      obtain ⟨y, ey, my⟩ := atI_mem (xs := ps) (i := (0 + (i : Nat) : Int) * sp % (ps.length : Int)) (by omega) (by omega)
      have em2 : dMul (.int (0 + (i : Nat) : Int)) (.int sp) = some (.int ((0 + (i : Nat) : Int) * sp)) := dMul_sm (n := 10) (m := 2) (Sm.of (by omega) (by omega)) (Sm.of (by omega) (by omega))
      exact ⟨[.bor (.lst st3), .dat (.tup ps), .dat (.int (ps.length : Int)), .dat (.int kind), .dat (.int at_), .un, .dat (.int sp), .un, .un, .un, .dat (.int (0 + (i : Nat) : Int))], _, y, rfl, rfl, ev_op rfl (ev_op (ev_op rfl rfl em2) rfl (mo _)) ey, rfl, rfl, my⟩
    obtain ⟨ys, h1, h2, h3⟩ := lcL_all (P := fun _ y => y ∈ ps) (rngD 0 ps.length) [] hm (by simp [lim, rngD]; omega)
    rw [List.nil_append] at h1
    have hy : ∀ y, y ∈ ys → y ∈ ps := fun y hy => (mem_of_all (P := fun _ y => y ∈ ps) h2 h3 hy).elim fun _ z => z.2
    have hr : dRng1 (dCons (dVar 2) dNil) [.bor (.lst st3), .dat (.tup ps), .dat (.int (ps.length : Int)), .dat (.int kind), .dat (.int at_), .un, .dat (.int sp), .un, .un, .un, .un] = some (rngD 0 ps.length, [.bor (.lst st3), .dat (.tup ps), .dat (.int (ps.length : Int)), .dat (.int kind), .dat (.int at_), .un, .dat (.int sp), .un, .un, .un, .un]) := by
      exact ev_rng1 (n := ps.length) rfl (by omega)
    have lr : (rngD 0 ps.length).length = ps.length := by simp [rngD]
    refine ⟨st3, .tup ys, hE _ _ _ (hpre (eqF rfl c0 (eqF rfl c1 (eqF rfl c2 (eqF rfl c3 (eqT rfl c4 (sv_seq (sv_asg (ev_callO rfl (ev_xown rfl (ev_xdat (ev_lst rfl (by simp [lim])) rfl)) rfl rfl e3) rfl) (sv_ret (ev_call (ev_cons (dLc_of hr rfl rfl h1 rfl) rfl) rfl))))))))) rfl, hs3, .tup (fun x hx => vp x (hy x hx)) (by omega), by simp [tlen]; omega⟩
  by_cases c5 : kind = 5
  · obtain ⟨p0, ep0, mp0⟩ := atI_mem (xs := ps) (i := 0) (by omega) (by omega)
    have l1 := cut_len ps none (some 1)
    have l2 := cut_len ps (some 1) none
    obtain ⟨st3, d, e3, hs3, hd⟩ := any_ok hs2 (xs := [.tup (cutD ps (some 1) none), .tup (ps ++ cutD ps none (some 1)), .lst ps, .non, p0, .tup []]) (by simp) (by simp)
    refine ⟨st3, d, hE _ _ _ (hpre (eqF rfl c0 (eqF rfl c1 (eqF rfl c2 (eqF rfl c3 (eqF rfl c4 (eqT rfl c5 (sv_ret (ev_callO rfl (ev_xown rfl (ev_xdat (ev_lst (ev_cons (ev_sl rfl rfl rfl rfl) (ev_cons (ev_op rfl (ev_sl rfl rfl rfl rfl) (add_tup (by simp [lim]; omega))) (ev_cons (ev_call rfl rfl) (ev_cons rfl (ev_cons (ev_op rfl rfl ep0) (ev_cons (ev_tup rfl (by simp)) rfl)))))) (by simp [lim])) rfl)) rfl rfl e3))))))))) rfl, hs3, ?_, ?_⟩
    · simp at hd
      rcases hd with rfl | rfl | rfl | rfl | rfl | rfl
      · exact .tup (fun x hx => vp x (cut_mem hx)) (by omega)
      · exact .tup (fun x hx => (List.mem_append.mp hx).elim (vp x) fun z => vp x (cut_mem z)) (by simp; omega)
      · exact .lst vp (by omega)
      · exact .non
      · exact vp _ mp0
      · exact .tup (fun x hx => by simp at hx) (by simp)
    · simp at hd
      rcases hd with rfl | rfl | rfl | rfl | rfl | rfl
      · simp [tlen]; omega
      · simp [tlen]; omega
      · simp [tlen]
      · simp [tlen]
      · obtain ⟨f, g, rfl, _, _⟩ := hp _ mp0
        simp [tlen]; omega
      · simp [tlen]
  by_cases c6 : kind = 6
  · have l1 := cut_len ps none (some at_)
    have l2 := cut_len ps (some (at_ + 1)) none
    refine ⟨st2, .tup (cutD ps none (some at_) ++ cutD ps (some (at_ + 1)) none ++ [pa]), hE _ _ _ (hpre (eqF rfl c0 (eqF rfl c1 (eqF rfl c2 (eqF rfl c3 (eqF rfl c4 (eqF rfl c5 (eqT rfl c6 (sv_ret (ev_op (ev_op (ev_sl rfl rfl (ev_part rfl) rfl) (ev_sl rfl (ev_part (ev_op rfl rfl rfl)) rfl rfl) (add_tup (by simp [lim]; omega))) (ev_tup (ev_cons (ev_op rfl rfl ea) rfl) (by simp [lim])) (add_tup (by simp [lim]; omega)))))))))))) rfl, hs2, .tup (fun x hx => ?_) (by simp; omega), by simp [tlen]; omega⟩
    simp only [List.mem_append, List.mem_singleton] at hx
    rcases hx with (z | z) | rfl
    · exact vp x (cut_mem z)
    · exact vp x (cut_mem z)
    · exact vp _ ma
  obtain ⟨x, y, rfl, fx, fy⟩ := hp _ ma
  obtain ⟨st3, bx, e3, hs3, vbx⟩ := bad_ok hs2 fx (by omega)
  obtain ⟨st4, by_, e4, hs4, vby⟩ := bad_ok hs3 fy (by omega)
  obtain ⟨st5, w, e5, hs5, hw⟩ := any_ok hs4 (xs := [.tup [bx, y], .tup [x, by_], .lst [x, y], .tup [x], .tup [x, y, x]]) (by simp) (by simp)
  have vx : Val (4 * n + 6) x := (Val.frac fx).up (by omega)
  have vy : Val (4 * n + 6) y := (Val.frac fy).up (by omega)
  have vw : Val (4 * n + 6) w := by
    simp at hw
    rcases hw with rfl | rfl | rfl | rfl | rfl
    · exact .tup2 (vbx.up (by omega)) vy
    · exact .tup2 vx (vby.up (by omega))
    · exact .lst2 vx vy
    · exact .tup1 vx
    · exact .tup3 vx vy vx
  refine ⟨st5, _, hE _ _ _ (hpre (eqF rfl c0 (eqF rfl c1 (eqF rfl c2 (eqF rfl c3 (eqF rfl c4 (eqF rfl c5 (eqF rfl c6 (sv_seq (sv_asgG (ev_op rfl rfl ea) rfl) (sv_seq (sv_asg (ev_callO rfl (ev_xown rfl (ev_xdat (ev_lst (ev_cons (ev_tup (ev_cons (ev_callO rfl (ev_xown rfl (ev_xdat rfl rfl)) rfl rfl e3) (ev_cons rfl rfl)) (by simp [lim])) (ev_cons (ev_tup (ev_cons rfl (ev_cons (ev_callO rfl (ev_xown rfl (ev_xdat rfl rfl)) rfl rfl e4) rfl)) (by simp [lim])) rfl)) (by simp [lim])) rfl)) rfl rfl e5) rfl) (sv_ret (ev_put rfl rfl rfl hl1000)))))))))))) rfl, hs5, .put vp vw (by omega), lput ..⟩
end K18

set_option Elab.async false
set_option linter.all false
set_option maxRecDepth 100000
set_option maxHeartbeats 4000000
namespace Dn
open PySem
theorem sv_par {i j : Nat} {k : FA} {ρ ρ1 ρ2 ρ3 : DE} {d1 d2 : D} (h1 : k ρ = some ([d1, d2], ρ1)) (h2 : gSet i d1 ρ1 = some ρ2) (h3 : gSet j d2 ρ2 = some ρ3) : dPar i j k ρ = some (.nx, ρ3) := by
  unfold dPar; rw [h1]; dsimp only; rw [h2]; dsimp only; rw [h3]
theorem sv_app {i : Nat} {f : FE} {ρ ρ1 : DE} {d : D} {ds0 ds : List D} (h0 : oL ρ i = some ds0) (h1 : f ρ = some (d, ρ1)) (h2 : oL ρ1 i = some ds) (h3 : ds.length < lim) : dApp i f ρ = some (.nx, pL ρ1 i (ds ++ [d])) := by
  unfold dApp; rw [h0]; dsimp only; rw [h1]; dsimp only; rw [h2]; dsimp only; rw [if_pos h3]
theorem sv_own {i : Nat} {k : FA} {ρ ρ1 ρ2 : DE} {ds : List D} (h1 : k ρ = some (ds, ρ1)) (h2 : ds.length ≤ lim) (h3 : setOwn ρ1 i (.lst ds) = some ρ2) : dOwn i k ρ = some (.nx, ρ2) := by
  unfold dOwn; rw [h1]; dsimp only; rw [if_pos h2, h3]
theorem sv_for {it : FI} {g : FG} {b : FS} {ρ ρ1 : DE} {ds : List D} {r : Option (Fl × DE)} (h1 : it ρ = some (ds, ρ1)) (h2 : forL g b ds ρ1 = r) : dFor it g b ρ = r := by
  unfold dFor; rw [h1]; exact h2
theorem for_nx {g : FG} {b : FS} {ρ ρ1 ρ2 : DE} {d : D} {ds : List D} {r : Option (Fl × DE)} (h1 : g d ρ = some ρ1) (h2 : b ρ1 = some (.nx, ρ2)) (h3 : forL g b ds ρ2 = r) : forL g b (d :: ds) ρ = r := by
  unfold forL; rw [h1]; dsimp only; rw [h2]; exact h3
theorem ev_slO {i : Nat} {g h : FO} {ρ ρ1 ρ2 : DE} {ds0 ds : List D} {lo hi : Option Int} (h0 : oL ρ i = some ds0) (h1 : g ρ = some (lo, ρ1)) (h2 : h ρ1 = some (hi, ρ2)) (h3 : oL ρ2 i = some ds) : dSlO i g h ρ = some (.lst (cutD ds lo hi), ρ2) := by
  unfold dSlO; rw [h0]; dsimp only; rw [h1]; dsimp only; rw [h2]; dsimp only; rw [h3]
theorem add_lst {xs ys : List D} (h : xs.length + ys.length ≤ lim) : dAdd (.lst xs) (.lst ys) = some (.lst (xs ++ ys)) := by
  show (if xs.length + ys.length ≤ lim then _ else _) = _
  rw [if_pos h]
theorem cut_split {xs : List D} {a : Int} (h0 : 0 ≤ a) (h1 : a ≤ xs.length) : (cutD xs (some a) none ++ cutD xs none (some a)).length = xs.length := by
  have e1 : HT.sIx xs.length 0 (some a) = a.toNat := by
    show (if a < 0 then (a + (xs.length : Int)).toNat else min a.toNat xs.length) = _
    rw [if_neg (by omega)]
    omega
  have e2 : HT.sIx xs.length xs.length (some a) = a.toNat := by
    show (if a < 0 then (a + (xs.length : Int)).toNat else min a.toNat xs.length) = _
    rw [if_neg (by omega)]
    omega
  have e3 : HT.sIx xs.length xs.length none = xs.length := rfl
  have e4 : HT.sIx xs.length 0 none = 0 := rfl
  unfold cutD
  rw [e1, e2, e3, e4]
  simp
  omega
end Dn
namespace K18
open PySem Dn
def frB : FS := dSeq (dPar 12 13 (dCons (dVar 2) (dCons (dOp dMul (dVar 2) (dVar 2)) (dNil)))) (dSeq (dApp 10 (dTup (dCons (dCall m__law_fraction (dCons (dOp dAdd (dOp dAdd (dOp dMul (dVar 3) (dVar 12)) (dOp dMul (dVar 4) (dVar 13))) (dVar 7)) (dCons (dVar 9) (dNil)))) (dCons (dCall m__law_fraction (dCons (dOp dAdd (dOp dAdd (dOp dMul (dVar 5) (dVar 12)) (dOp dMul (dVar 6) (dVar 13))) (dVar 8)) (dCons (dVar 9) (dNil)))) (dNil))))) (dAsg 2 (dOp dAdd (dOp dAdd (dVar 2) (dC (.int 1))) (dCallO 0 m__law_draw (xOwn 0 (xDat (dC (.int 3)) (xNil)))))))
theorem fr_loop {sd : D} {a b c d r u w : Int} (ha : Sm 5 a) (hb : Sm 5 b) (hc : Sm 5 c) (hd : Sm 5 d) (hr : Sm 5 r) (hu : Sm 5 u) (hw : 1 ≤ w ∧ w ≤ 7) : ∀ (ds : List D) (st : List D) (at_ : Int) (fs : List D) (s1 s2 s3 : Sl), HatOk st → isDat (some s1) = true → isDat (some s2) = true → isDat (some s3) = true → -3 ≤ at_ → at_ + 3 * ds.length ≤ 28 → (∀ p, p ∈ fs → PtD 40 p) → fs.length < 100 - ds.length →
    ∃ st' at' fs' s1' s2' s3', forL (gSet 11) frB ds [.bor (.lst st), .dat sd, .dat (.int at_), .dat (.int a), .dat (.int b), .dat (.int c), .dat (.int d), .dat (.int r), .dat (.int u), .dat (.int w), .own (.lst fs), s1, s2, s3, .un] =
      some (.nx, [.bor (.lst st'), .dat sd, .dat (.int at'), .dat (.int a), .dat (.int b), .dat (.int c), .dat (.int d), .dat (.int r), .dat (.int u), .dat (.int w), .own (.lst fs'), s1', s2', s3', .un]) ∧ HatOk st' ∧ fs'.length = fs.length + ds.length ∧ ∀ p, p ∈ fs' → PtD 40 p
  | [], st, at_, fs, s1, s2, s3, hs, _, _, _, _, _, hf, _ => ⟨st, at_, fs, s1, s2, s3, rfl, hs, rfl, hf⟩
  | e :: ds, st, at_, fs, s1, s2, s3, hs, i1, i2, i3, l1, l2, hf, lf => by
    have l2' : at_ + 3 * (ds.length + 1) ≤ 28 := by simpa using l2
    have lf' : fs.length < 100 - (ds.length + 1) := by simpa using lf
    have sa : Sm 5 at_ := by unfold Sm; omega
    have saa := sa.mul sa
    have e1 := dMul_sm sa sa
    have e2 := dMul_sm ha sa
    have e3 := dMul_sm hb saa
    have e4 := dMul_sm hc sa
    have e5 := dMul_sm hd saa
    have sw : Sm 40 w := Sm.up (n := 3) (Sm.of (by omega) (by omega)) (by decide)
    obtain ⟨f1, g1, k1, _⟩ := fraction_ok (t := a * at_ + b * (at_ * at_) + r) (b := w) (n := 40) (by omega) (((((ha.mul sa).up (by decide : 10 ≤ 15)).add (hb.mul saa)).add (hr.up (by decide))).up (by decide)) sw
    obtain ⟨f2, g2, k2, _⟩ := fraction_ok (t := c * at_ + d * (at_ * at_) + u) (b := w) (n := 40) (by omega) (((((hc.mul sa).up (by decide : 10 ≤ 15)).add (hd.mul saa)).add (hu.up (by decide))).up (by decide)) sw
    obtain ⟨st', j, ej, hs', j0, j1⟩ := draw_ok (many := 3) (n := 2) hs (by decide) (Sm.lit (by decide))
    obtain ⟨st2, at2, fs2, t1, t2, t3, h1, h2, h3, h4⟩ := fr_loop (sd := sd) ha hb hc hd hr hu hw ds st' (at_ + 1 + j) (fs ++ [.tup [f1, f2]]) (.dat e) (.dat (.int at_)) (.dat (.int (at_ * at_))) hs' rfl rfl rfl (by omega) (by omega) (fun p hp => by
      simp only [List.mem_append, List.mem_singleton] at hp
      rcases hp with z | rfl
      · exact hf p z
      · exact ⟨f1, f2, rfl, k1, k2⟩) (by simp; omega)
    refine ⟨st2, at2, fs2, t1, t2, t3, ?_, h2, by rw [h3]; simp; omega, h4⟩
    have g11 : gSet 11 e [.bor (.lst st), .dat sd, .dat (.int at_), .dat (.int a), .dat (.int b), .dat (.int c), .dat (.int d), .dat (.int r), .dat (.int u), .dat (.int w), .own (.lst fs), s1, s2, s3, .un] = some [.bor (.lst st), .dat sd, .dat (.int at_), .dat (.int a), .dat (.int b), .dat (.int c), .dat (.int d), .dat (.int r), .dat (.int u), .dat (.int w), .own (.lst fs), .dat e, s2, s3, .un] := by
      unfold gSet
      exact if_pos i1
    have g12 : gSet 12 (.int at_) [.bor (.lst st), .dat sd, .dat (.int at_), .dat (.int a), .dat (.int b), .dat (.int c), .dat (.int d), .dat (.int r), .dat (.int u), .dat (.int w), .own (.lst fs), .dat e, s2, s3, .un] = some [.bor (.lst st), .dat sd, .dat (.int at_), .dat (.int a), .dat (.int b), .dat (.int c), .dat (.int d), .dat (.int r), .dat (.int u), .dat (.int w), .own (.lst fs), .dat e, .dat (.int at_), s3, .un] := by
      unfold gSet
      exact if_pos i2
    have g13 : gSet 13 (.int (at_ * at_)) [.bor (.lst st), .dat sd, .dat (.int at_), .dat (.int a), .dat (.int b), .dat (.int c), .dat (.int d), .dat (.int r), .dat (.int u), .dat (.int w), .own (.lst fs), .dat e, .dat (.int at_), s3, .un] = some [.bor (.lst st), .dat sd, .dat (.int at_), .dat (.int a), .dat (.int b), .dat (.int c), .dat (.int d), .dat (.int r), .dat (.int u), .dat (.int w), .own (.lst fs), .dat e, .dat (.int at_), .dat (.int (at_ * at_)), .un] := by
      unfold gSet
      exact if_pos i3
    refine for_nx g11 (sv_seq (sv_par (ev_cons rfl (ev_cons (ev_op rfl rfl e1) rfl)) g12 g13) (sv_seq (sv_app rfl (ev_tup (ev_cons (ev_call (ev_cons (ev_op (ev_op (ev_op rfl rfl e2) (ev_op rfl rfl e3) rfl) rfl rfl) (ev_cons rfl rfl)) g1) (ev_cons (ev_call (ev_cons (ev_op (ev_op (ev_op rfl rfl e4) (ev_op rfl rfl e5) rfl) rfl rfl) (ev_cons rfl rfl)) g2) rfl)) (by simp [lim])) rfl (by simp [lim]; omega)) (sv_asg (ev_op (ev_op rfl rfl rfl) (ev_callO rfl (ev_xown rfl (ev_xdat rfl rfl)) rfl rfl ej) rfl) rfl))) h1
theorem frame_ok {st : List D} (hs : HatOk st) {sides : Int} (h3 : 3 ≤ sides) (h8 : sides ≤ 8) : ∃ st' d, m__law_frame st [none, some (.int sides)] = some (st', d) ∧ HatOk st' ∧ FrameD 40 sides.toNat d := by
  obtain ⟨st1, r1, e1, hs1, p1, q1⟩ := draw_ok (many := 7) (n := 4) hs (by decide) (Sm.lit (by decide))
  obtain ⟨st2, r2, e2, hs2, p2, q2⟩ := draw_ok (many := 4) (n := 4) hs1 (by decide) (Sm.lit (by decide))
  obtain ⟨st3, r3, e3, hs3, p3, q3⟩ := draw_ok (many := 5) (n := 4) hs2 (by decide) (Sm.lit (by decide))
  obtain ⟨st4, r4, e4, hs4, p4, q4⟩ := draw_ok (many := 5) (n := 4) hs3 (by decide) (Sm.lit (by decide))
  obtain ⟨st5, r5, e5, hs5, p5, q5⟩ := draw_ok (many := 4) (n := 4) hs4 (by decide) (Sm.lit (by decide))
  obtain ⟨st6, r6, e6, hs6, p6, q6⟩ := draw_ok (many := 41) (n := 6) hs5 (by decide) (Sm.lit (by decide))
  obtain ⟨st7, r7, e7, hs7, p7, q7⟩ := draw_ok (many := 41) (n := 6) hs6 (by decide) (Sm.lit (by decide))
  obtain ⟨st8, w, e8, hs8, hw⟩ := any_ok hs7 (xs := [.int 1, .int 1, .int 2, .int 3, .int 7]) (by simp) (by simp)
  obtain ⟨wi, rfl, hw1⟩ : ∃ wi : Int, w = .int wi ∧ 1 ≤ wi ∧ wi ≤ 7 := by
    simp at hw
    rcases hw with rfl | rfl | rfl | rfl
    · exact ⟨1, rfl, by decide, by decide⟩
    · exact ⟨2, rfl, by decide, by decide⟩
    · exact ⟨3, rfl, by decide, by decide⟩
    · exact ⟨7, rfl, by decide, by decide⟩
  have sa : Sm 5 (1 + r2) := by unfold Sm; omega
  have sb : Sm 5 (r3 - 2) := by unfold Sm; omega
  have sc : Sm 5 (r4 - 2) := by unfold Sm; omega
  have sd : Sm 5 (1 + r5) := by unfold Sm; omega
  have sr : Sm 5 (r6 - 20) := by unfold Sm; omega
  have su : Sm 5 (r7 - 20) := by unfold Sm; omega
  have m1 := dMul_sm sa sd
  have m2 := dMul_sm sb sc
  -- the map of the page, b and c dropped where it would turn over
  obtain ⟨b, c, hb, hc, hif⟩ : ∃ b c : Int, Sm 5 b ∧ Sm 5 c ∧ dIf (dB (dOp dLe (dOp dSub (dOp dMul (dVar 3) (dVar 6)) (dOp dMul (dVar 4) (dVar 5))) (dC (.int 0)))) (dAsgG (dTup (dCons (dC (.int 0)) (dCons (dC (.int 0)) (dNil)))) (gTupD (gsCons (gSet 4) (gsCons (gSet 5) (gsNil))) 2)) (dNext)
      [.bor (.lst st5), .dat (.int sides), .dat (.int (r1 - 3)), .dat (.int (1 + r2)), .dat (.int (r3 - 2)), .dat (.int (r4 - 2)), .dat (.int (1 + r5)), .un, .un, .un, .un, .un, .un, .un, .un] =
      some (.nx, [.bor (.lst st5), .dat (.int sides), .dat (.int (r1 - 3)), .dat (.int (1 + r2)), .dat (.int b), .dat (.int c), .dat (.int (1 + r5)), .un, .un, .un, .un, .un, .un, .un, .un]) := by
    by_cases q : (1 + r2) * (1 + r5) - (r3 - 2) * (r4 - 2) ≤ 0
    · refine ⟨0, 0, Sm.lit (by decide), Sm.lit (by decide), sv_ifT (tv_b (ev_op (ev_op (ev_op rfl rfl m1) (ev_op rfl rfl m2) rfl) rfl ?_)) (sv_asgG (ev_tup (ev_cons rfl (ev_cons rfl rfl)) (by simp [lim])) rfl)⟩
      show some (D.bl (decide _)) = _
      rw [decide_eq_true q]
    · refine ⟨r3 - 2, r4 - 2, sb, sc, sv_ifF (tv_b (ev_op (ev_op (ev_op rfl rfl m1) (ev_op rfl rfl m2) rfl) rfl ?_)) rfl⟩
      show some (D.bl (decide _)) = _
      rw [decide_eq_false q]
  obtain ⟨st9, at', fs, t1, t2, t3, h1, h2, h4, h5⟩ := fr_loop (sd := .int sides) sa hb hc sd sr su hw1 (rngD 0 sides.toNat) st8 (r1 - 3) [] .un .un .un hs8 rfl rfl rfl (by omega) (by simp [rngD]; omega) (fun p hp => by simp at hp) (by simp [rngD]; omega)
  have lf : fs.length = sides.toNat := by rw [h4]; simp [rngD]
  obtain ⟨st10, tn, e10, hs10, p10, q10⟩ := draw_ok (many := sides) (n := 4) h2 (by omega) (by unfold Sm; omega)
  have l1 := cut_len fs (some tn) none
  have l2 := cut_len fs none (some tn)
  refine ⟨st10, .tup (cutD fs (some tn) none ++ cutD fs none (some tn)), runB_of (ρ := [.bor (.lst st10), .dat (.int sides), .dat (.int at'), .dat (.int (1 + r2)), .dat (.int b), .dat (.int c), .dat (.int (1 + r5)), .dat (.int (r6 - 20)), .dat (.int (r7 - 20)), .dat (.int wi), .own (.lst fs), t1, t2, t3, .dat (.int tn)]) rfl rfl ?_ rfl, hs10, _, rfl, (cut_split p10 (by omega)).trans lf, fun p hp => (List.mem_append.mp hp).elim (fun z => h5 p (cut_mem z)) fun z => h5 p (cut_mem z)⟩
  have hrn : dRng1 (dCons (dVar 1) dNil) [.bor (.lst st8), .dat (.int sides), .dat (.int (r1 - 3)), .dat (.int (1 + r2)), .dat (.int b), .dat (.int c), .dat (.int (1 + r5)), .dat (.int (r6 - 20)), .dat (.int (r7 - 20)), .dat (.int wi), .own (.lst []), .un, .un, .un, .un] = some (rngD 0 sides.toNat, [.bor (.lst st8), .dat (.int sides), .dat (.int (r1 - 3)), .dat (.int (1 + r2)), .dat (.int b), .dat (.int c), .dat (.int (1 + r5)), .dat (.int (r6 - 20)), .dat (.int (r7 - 20)), .dat (.int wi), .own (.lst []), .un, .un, .un, .un]) := by
    refine ev_rng1 (n := sides.toNat) ?_ (by omega)
    rw [Int.toNat_of_nonneg (by omega)]
    rfl
  exact sv_seq (sv_asg (ev_op (ev_callO rfl (ev_xown rfl (ev_xdat rfl rfl)) rfl rfl e1) rfl rfl) rfl)
    (sv_seq (sv_asgG (ev_tup (ev_cons (ev_op rfl (ev_callO rfl (ev_xown rfl (ev_xdat rfl rfl)) rfl rfl e2) rfl) (ev_cons (ev_op (ev_callO rfl (ev_xown rfl (ev_xdat rfl rfl)) rfl rfl e3) rfl rfl) (ev_cons (ev_op (ev_callO rfl (ev_xown rfl (ev_xdat rfl rfl)) rfl rfl e4) rfl rfl) (ev_cons (ev_op rfl (ev_callO rfl (ev_xown rfl (ev_xdat rfl rfl)) rfl rfl e5) rfl) rfl)))) (by simp [lim])) rfl)
    (sv_seq hif (sv_seq (sv_par (ev_cons (ev_op (ev_callO rfl (ev_xown rfl (ev_xdat rfl rfl)) rfl rfl e6) rfl rfl) (ev_cons (ev_op (ev_callO rfl (ev_xown rfl (ev_xdat rfl rfl)) rfl rfl e7) rfl rfl) rfl)) rfl rfl)
    (sv_seq (sv_asg (ev_callO rfl (ev_xown rfl (ev_xdat (ev_lst rfl (by simp [lim])) rfl)) rfl rfl e8) rfl)
    (sv_seq (sv_own rfl (by simp) rfl) (sv_seq (sv_for hrn h1)
    (sv_seq (sv_asg (ev_callO rfl (ev_xown rfl (ev_xdat rfl rfl)) rfl rfl e10) rfl)
    (sv_ret (ev_call (ev_cons (ev_op (ev_slO rfl (ev_part rfl) rfl rfl) (ev_slO rfl rfl (ev_part rfl) rfl) (add_lst (by simp [lim]; omega))) rfl) rfl)))))))))
end K18

set_option Elab.async false
set_option linter.all false
set_option maxRecDepth 100000
set_option maxHeartbeats 4000000
namespace Dn
open PySem
theorem blsOf_mapP (ps : List D) (p : D → Bool) : blsOf (ps.map fun d => .bl (p d)) = some (ps.map p) := by
  induction ps with
  | nil => rfl
  | cons a r ih => simp [blsOf, ih]
theorem eq_map {ds ys : List D} {F : D → D} (hl : ys.length = ds.length) (h : ∀ (i : Nat) (d y : D), ds[i]? = some d → ys[i]? = some y → y = F d) : ys = ds.map F := by
  apply List.ext_getElem?
  intro i
  rw [List.getElem?_map]
  by_cases c : i < ds.length
  · rw [List.getElem?_eq_getElem c, List.getElem?_eq_getElem (show i < ys.length by omega)]
    have := h i _ _ (List.getElem?_eq_getElem c) (List.getElem?_eq_getElem (show i < ys.length by omega))
    rw [this]
    rfl
  · rw [List.getElem?_eq_none (by omega), List.getElem?_eq_none (by omega)]
    rfl
theorem set_un {ρ : DE} {i : Nat} {s : Sl} (h : ρ[i]? = some s) : ρ.set i s = ρ := by
  apply List.ext_getElem?
  intro j
  by_cases c : i = j
  · subst c
    rw [List.getElem?_set_self (List.getElem?_eq_some_iff.mp h).1, h]
  · rw [List.getElem?_set_ne c]
end Dn
namespace K18
open PySem Dn
/-- all([f(x) for x in xs]) -/
theorem all_ok {m : List D → Option D} {p : D → Bool} {ps : List D} {i j : Nat} {ρ : DE} (hj : ρ[j]? = some (.dat (.tup ps))) (hi : ρ[i]? = some .un) (hm : ∀ d, d ∈ ps → m [d] = some (.bl (p d))) (hl : ps.length < 1000) :
    dCall (dFold fun bs => .bl (bs.all id)) (dCons (dLc (dItems (dVar j)) (gSet i) (dYes) (dCall m (dCons (dVar i) (dNil))) [i]) (dNil)) ρ = some (.bl (ps.all p), ρ) := by
  have hil : i < ρ.length := (List.getElem?_eq_some_iff.mp hi).1
  have hstep : ∀ d, d ∈ ps → ∃ ρ1 ρ3 y, gSet i d ρ = some ρ1 ∧ dYes ρ1 = some (true, ρ1) ∧ dCall m (dCons (dVar i) (dNil)) ρ1 = some (y, ρ3) ∧ allDat ρ3 [i] = true ∧ wipeD ρ3 [i] = ρ ∧ y = .bl (p d) := by
    intro d hd
    have hv : dVar i (ρ.set i (.dat d)) = some (d, ρ.set i (.dat d)) := by
      unfold dVar
      rw [List.getElem?_set_self hil]
    refine ⟨ρ.set i (.dat d), ρ.set i (.dat d), .bl (p d), ?_, rfl, ev_call (ev_cons hv rfl) (hm d hd), ?_, ?_, rfl⟩
    · unfold gSet
      rw [hi]
      rfl
    · unfold allDat
      simp only [List.all_cons, List.all_nil, Bool.and_true]
      rw [List.getElem?_set_self hil]
      rfl
    · show (ρ.set i (.dat d)).set i .un = ρ
      rw [List.set_set, set_un hi]
  obtain ⟨ys, h1, h2, h3⟩ := lcL_all (P := fun d y => y = .bl (p d)) ps [] hstep (by simp [lim]; omega)
  rw [List.nil_append] at h1
  have hy := eq_map (F := fun d => .bl (p d)) h2 h3
  have hw : wipeD ρ [i] = ρ := set_un hi
  have hit : dItems (dVar j) ρ = some (ps, ρ) := by
    unfold dItems dVar
    rw [hj]
  refine ev_call (ev_cons (dLc_of hit ?_ hw h1 ?_) rfl) ?_
  · unfold allDat
    simp only [List.all_cons, List.all_nil, Bool.and_true]
    rw [hi]
    rfl
  · show ρ.set i (ρ.getD i .un) = ρ
    rw [List.getD_eq_getElem?_getD, hi]
    exact set_un hi
  · rw [hy]
    show (match blsOf (ps.map fun d => .bl (p d)) with
      | some bs => some ((fun bs : List Bool => D.bl (bs.all id)) bs)
      | none => none) = some (D.bl (ps.all p))
    rw [blsOf_mapP]
    simp
theorem pt_of {n : Nat} {p : D} (h : isPtB p = true) (v : Val n p) : PtD n p := by
  have fr : ∀ d, isFracB d = true → Val n d → FracD n d := fun d hd vd => by
    unfold isFracB at hd
    split at hd
    · rename_i t b
      rw [Bool.and_eq_true] at hd
      cases vd with
      | tup hx _ =>
        have v1 := hx (.int t) (by simp)
        have v2 := hx (.int b) (by simp)
        cases v1 with
        | int s1 => cases v2 with
          | int s2 => exact ⟨t, b, rfl, by have := of_decide_eq_true hd.1; omega, of_decide_eq_true hd.2, s1, s2⟩
    · cases hd
  unfold isPtB at h
  split at h
  · rename_i f g
    rw [Bool.and_eq_true] at h
    cases v with
    | tup hx _ => exact ⟨f, g, rfl, fr f h.1 (hx f (by simp)), fr g h.2 (hx g (by simp))⟩
  · cases h
/-- the turns of the loop that spoils -/
def thB : FS := dIf (dOrT (dB (dOp dEq (dVar 3) (dC (.int 0)))) (dAndT (dB (dUn (isTy "tuple") (dVar 2))) (dAndT (dB (dOp dGt (dCall dLen (dCons (dVar 2) (dNil))) (dC (.int 2)))) (dB (dCall (dFold fun bs => .bl (bs.all id)) (dCons (dLc (dItems (dVar 2)) (gSet 4) (dYes) (dCall m__law_is_point (dCons (dVar 4) (dNil))) [4]) (dNil))))))) (dAsg 2 (dCallO 0 m__law_spoilt (xOwn 0 (xDat (dVar 2) (xNil))))) (dNext)
theorem tv_orT {t1 t2 : FT} {ρ ρ1 : DE} (h : t1 ρ = some (true, ρ1)) : dOrT t1 t2 ρ = some (true, ρ1) := by unfold dOrT; rw [h]
theorem tv_orF {t1 t2 : FT} {ρ ρ1 : DE} {r : Option (Bool × DE)} (h : t1 ρ = some (false, ρ1)) (h2 : t2 ρ1 = r) : dOrT t1 t2 ρ = r := by unfold dOrT; rw [h]; exact h2
theorem tv_andF {t1 t2 : FT} {ρ ρ1 : DE} (h : t1 ρ = some (false, ρ1)) : dAndT t1 t2 ρ = some (false, ρ1) := by unfold dAndT; rw [h]
theorem tv_andT {t1 t2 : FT} {ρ ρ1 : DE} {r : Option (Bool × DE)} (h : t1 ρ = some (true, ρ1)) (h2 : t2 ρ1 = r) : dAndT t1 t2 ρ = r := by unfold dAndT; rw [h]; exact h2
theorem tv_not {t : FT} {b : Bool} {ρ ρ1 : DE} (h : t ρ = some (b, ρ1)) : dNotT t ρ = some (!b, ρ1) := by unfold dNotT; rw [h]
/-- the first turn -/
theorem th0 {st : List D} (hs : HatOk st) {sd fr : D} {k : Nat} (hf : FrameD 102 k fr) (h3 : 3 ≤ k) (hk : k < 200) : ∃ st' d, thB [.bor (.lst st), sd |> Sl.dat, .dat fr, .dat (.int 0), .un] = some (.nx, [.bor (.lst st'), .dat sd, .dat d, .dat (.int 0), .un]) ∧ HatOk st' ∧ Val 414 d ∧ tlen d ≤ 2 * k + 1 := by
  obtain ⟨st', d, e, hs', v, l⟩ := spoilt_ok hs hf h3 (by omega) (by omega)
  exact ⟨st', d, sv_ifT (tv_orT (tv_b (ev_op rfl rfl (dEq_int 0 0)))) (sv_asg (ev_callO rfl (ev_xown rfl (ev_xdat rfl rfl)) rfl rfl e) rfl), hs', v, l⟩
/-- the second turn -/
theorem th1 {st : List D} (hs : HatOk st) {sd d : D} (v : Val 414 d) (hl : tlen d < 200) : ∃ st' d', thB [.bor (.lst st), .dat sd, .dat d, .dat (.int 1), .un] = some (.nx, [.bor (.lst st'), .dat sd, .dat d', .dat (.int 1), .un]) ∧ HatOk st' ∧ Val 1662 d' ∧ tlen d' < 500 := by
  have ht := isTy_tup v
  have e0 : dB (dOp dEq (dVar 3) (dC (.int 0))) [.bor (.lst st), .dat sd, .dat d, .dat (.int 1), .un] = some (false, [.bor (.lst st), .dat sd, .dat d, .dat (.int 1), .un]) := tv_b (ev_op rfl rfl (dEq_int 1 0))
  by_cases c1 : isTupB d = true
  · obtain ⟨ps, rfl⟩ : ∃ ps, d = .tup ps := by cases d <;> first | exact ⟨_, rfl⟩ | cases c1
    have hl' : ps.length < 200 := hl
    have hx : ∀ p, p ∈ ps → Val 414 p := by cases v with | tup hx _ => exact hx
    have e1 : dB (dUn (isTy "tuple") (dVar 2)) [.bor (.lst st), .dat sd, .dat (.tup ps), .dat (.int 1), .un] = some (true, [.bor (.lst st), .dat sd, .dat (.tup ps), .dat (.int 1), .un]) := tv_b (ev_un rfl ht)
    by_cases c2 : (2 : Int) < ps.length
    · have e2 : dB (dOp dGt (dCall dLen (dCons (dVar 2) (dNil))) (dC (.int 2))) [.bor (.lst st), .dat sd, .dat (.tup ps), .dat (.int 1), .un] = some (true, [.bor (.lst st), .dat sd, .dat (.tup ps), .dat (.int 1), .un]) :=
        tv_b (ev_op (ev_call (ev_cons rfl rfl) rfl) rfl (by show some (D.bl (decide _)) = _; rw [decide_eq_true c2]))
      have e3 := all_ok (m := m__law_is_point) (p := isPtB) (ps := ps) (i := 4) (j := 2) (ρ := [.bor (.lst st), .dat sd, .dat (.tup ps), .dat (.int 1), .un]) rfl rfl (fun d hd => ispoint_ok (hx d hd)) (by omega)
      by_cases c3 : ps.all isPtB = true
      · rw [c3] at e3
        obtain ⟨st', d', e, hs', v', l'⟩ := spoilt_ok (n := 414) (k := ps.length) hs ⟨ps, rfl, rfl, fun p hp => pt_of (List.all_eq_true.mp c3 p hp) (hx p hp)⟩ (by omega) (by omega) (by omega)
        exact ⟨st', d', sv_ifT (tv_orF e0 (tv_andT e1 (tv_andT e2 (tv_b e3)))) (sv_asg (ev_callO rfl (ev_xown rfl (ev_xdat rfl rfl)) rfl rfl e) rfl), hs', v', by omega⟩
      · rw [Bool.eq_false_iff.mpr c3] at e3
        exact ⟨st, _, sv_ifF (tv_orF e0 (tv_andT e1 (tv_andT e2 (tv_b e3)))) rfl, hs, v.up (by decide), by omega⟩
    · have e2 : dB (dOp dGt (dCall dLen (dCons (dVar 2) (dNil))) (dC (.int 2))) [.bor (.lst st), .dat sd, .dat (.tup ps), .dat (.int 1), .un] = some (false, [.bor (.lst st), .dat sd, .dat (.tup ps), .dat (.int 1), .un]) :=
        tv_b (ev_op (ev_call (ev_cons rfl rfl) rfl) rfl (by show some (D.bl (decide _)) = _; rw [decide_eq_false c2]))
      exact ⟨st, _, sv_ifF (tv_orF e0 (tv_andT e1 (tv_andF e2))) rfl, hs, v.up (by decide), by omega⟩
  · have e1 : dB (dUn (isTy "tuple") (dVar 2)) [.bor (.lst st), .dat sd, .dat d, .dat (.int 1), .un] = some (false, [.bor (.lst st), .dat sd, .dat d, .dat (.int 1), .un]) := by
      rw [Bool.eq_false_iff.mpr c1] at ht
      exact tv_b (ev_un rfl ht)
    exact ⟨st, d, sv_ifF (tv_orF e0 (tv_andF e1)) rfl, hs, v.up (by decide), by omega⟩
end K18

set_option Elab.async false
set_option linter.all false
set_option maxRecDepth 100000
set_option maxHeartbeats 4000000
namespace K18
open PySem Dn
theorem FrameD.val {n k : Nat} {d : D} (h : FrameD n k d) (hk : k < 1000) : Val n d ∧ tlen d = k := by
  obtain ⟨ps, rfl, hl, hp⟩ := h
  exact ⟨.tup (fun x hx => Val.pt (hp x hx)) (by omega), hl⟩
theorem thing_ok {st : List D} (hs : HatOk st) : ∃ st' s' d, m__law_thing st [none] = some (st', .tup [.int s', d]) ∧ HatOk st' ∧ 3 ≤ s' ∧ s' ≤ 8 ∧ Val 1662 d ∧ tlen d < 500 := by
  obtain ⟨st1, r1, e1, hs1, p1, q1⟩ := draw_ok (many := 6) (n := 4) hs (by decide) (Sm.lit (by decide))
  obtain ⟨st2, fr, e2, hs2, f2⟩ := frame_ok (sides := 3 + r1) hs1 (by omega) (by omega)
  obtain ⟨st3, r3, e3, hs3, p3, q3⟩ := draw_ok (many := 4) (n := 4) hs2 (by decide) (Sm.lit (by decide))
  -- long or not
  obtain ⟨st4, fr4, h4, hs4, f4⟩ : ∃ st4 fr4, dIf (dB (dOp dEq (dCallO 0 m__law_draw (xOwn 0 (xDat (dC (.int 4)) (xNil)))) (dC (.int 0)))) (dAsg 2 (dCallO 0 m__law_long (xOwn 0 (xDat (dVar 2) (xNil))))) (dNext)
      [.bor (.lst st2), .dat (.int (3 + r1)), .dat fr, .un, .un] = some (.nx, [.bor (.lst st4), .dat (.int (3 + r1)), .dat fr4, .un, .un]) ∧ HatOk st4 ∧ FrameD 102 (3 + r1).toNat fr4 := by
    by_cases c : r3 = 0
    · obtain ⟨st4, fr4, e4, hs4, f4⟩ := long_ok hs3 f2 (by omega)
      refine ⟨st4, fr4, sv_ifT (tv_b (ev_op (ev_callO rfl (ev_xown rfl (ev_xdat rfl rfl)) rfl rfl e3) rfl ?_)) (sv_asg (ev_callO rfl (ev_xown rfl (ev_xdat rfl rfl)) rfl rfl e4) rfl), hs4, f4⟩
      rw [dEq_int, decide_eq_true c]
    · refine ⟨st3, fr, sv_ifF (tv_b (ev_op (ev_callO rfl (ev_xown rfl (ev_xdat rfl rfl)) rfl rfl e3) rfl ?_)) rfl, hs3, ?_⟩
      · rw [dEq_int, decide_eq_false c]
      · obtain ⟨ps, rfl, hl, hp⟩ := f2
        exact ⟨ps, rfl, hl, fun p h => (hp p h).up (by decide)⟩
  obtain ⟨st5, w, e5, hs5, hw⟩ := any_ok hs4 (xs := [.int 0, .int 0, .int 1, .int 1, .int 2]) (by simp) (by simp)
  have hk3 : 3 ≤ (3 + r1).toNat := by omega
  have hk8 : (3 + r1).toNat ≤ 8 := by omega
  obtain ⟨v4, l4⟩ := FrameD.val f4 (by omega)
  -- the loop
  obtain ⟨n, rfl, st6, d, s3, hloop, hs6, vd, ld⟩ : ∃ n : Nat, w = .int (n : Int) ∧ ∃ st6 d s3, forL (gSet 3) thB (rngD 0 n) [.bor (.lst st5), .dat (.int (3 + r1)), .dat fr4, .un, .un] = some (.nx, [.bor (.lst st6), .dat (.int (3 + r1)), .dat d, s3, .un]) ∧ HatOk st6 ∧ Val 1662 d ∧ tlen d < 500 := by
    obtain ⟨st6, d, h6, hs6, v6, l6⟩ := th0 (sd := .int (3 + r1)) hs5 f4 hk3 (by omega)
    obtain ⟨st7, d7, h7, hs7, v7, l7⟩ := th1 (sd := .int (3 + r1)) hs6 v6 (by omega)
    simp at hw
    rcases hw with rfl | rfl | rfl
    · exact ⟨0, rfl, st5, fr4, .un, rfl, hs5, v4.up (by decide), by omega⟩
    · exact ⟨1, rfl, st6, d, .dat (.int 0), for_nx (ρ1 := [.bor (.lst st5), .dat (.int (3 + r1)), .dat fr4, .dat (.int 0), .un]) rfl h6 rfl, hs6, v6.up (by decide), by omega⟩
    · exact ⟨2, rfl, st7, d7, .dat (.int 1), for_nx (ρ1 := [.bor (.lst st5), .dat (.int (3 + r1)), .dat fr4, .dat (.int 0), .un]) rfl h6 (for_nx (ρ1 := [.bor (.lst st6), .dat (.int (3 + r1)), .dat d, .dat (.int 1), .un]) rfl h7 rfl), hs7, v7, l7⟩
  have hm6 : dMod (.int (3 + r1)) (.int 6) = some (.int ((3 + r1) % 6)) := dMod_pos (by decide)
  obtain ⟨st8, z, e8, hs8, hz⟩ := any_ok hs6 (xs := [.int (3 + r1), .int (3 + r1), .int (3 + r1), .int (3 + r1), .int (3 + (3 + r1) % 6)]) (by simp) (by simp)
  obtain ⟨s', rfl, s3', s8'⟩ : ∃ s' : Int, z = .int s' ∧ 3 ≤ s' ∧ s' ≤ 8 := by
    simp at hz
    rcases hz with rfl | rfl
    · exact ⟨_, rfl, by omega, by omega⟩
    · exact ⟨_, rfl, by omega, by omega⟩
  refine ⟨st8, s', d, runB_of (ρ := [.bor (.lst st8), .dat (.int (3 + r1)), .dat d, s3, .un]) rfl rfl ?_ rfl, hs8, s3', s8', vd, ld⟩
  have hn : (n : Nat) < 1000000 := by
    simp at hw
    omega
  exact sv_seq (sv_asg (ev_op rfl (ev_callO rfl (ev_xown rfl (ev_xdat rfl rfl)) rfl rfl e1) rfl) rfl)
    (sv_seq (sv_asg (ev_callO rfl (ev_xown rfl (ev_xdat rfl rfl)) rfl rfl e2) rfl)
    (sv_seq h4 (sv_seq (sv_for (ev_rng1 (n := n) (ev_cons (ev_callO rfl (ev_xown rfl (ev_xdat (ev_lst rfl (by simp [lim])) rfl)) rfl rfl e5) rfl) hn) hloop)
    (sv_ret (ev_tup (ev_cons (ev_callO rfl (ev_xown rfl (ev_xdat (ev_lst (ev_cons rfl (ev_cons rfl (ev_cons rfl (ev_cons rfl (ev_cons (ev_op rfl (ev_op rfl rfl hm6) rfl) rfl))))) (by simp [lim])) rfl)) rfl rfl e8) (ev_cons rfl rfl)) (by simp [lim]))))))
end K18

set_option Elab.async false
set_option linter.all false
set_option maxRecDepth 100000
set_option maxHeartbeats 4000000
namespace Dn
open PySem
def ipairD (p : Int × Int) : D := .tup [.int p.1, .int p.2]
theorem atI_nat {xs : List D} {i : Nat} (h : i < xs.length) : L2.atI xs (i : Int) = some xs[i] := by
  unfold L2.atI L2.ixN
  rw [if_pos (by omega), if_pos (by omega)]
  exact List.getElem?_eq_getElem h
theorem atI_pred {xs : List D} {i : Nat} (h : i < xs.length) : L2.atI xs ((i : Int) - 1) = some (xs[(i + xs.length - 1) % xs.length]'(Nat.mod_lt _ (by omega))) := by
  unfold L2.atI L2.ixN
  by_cases c : i = 0
  · subst c
    rw [if_neg (by omega), if_pos (by omega)]
    have e : (((0 : Nat) : Int) - 1 + (xs.length : Int)).toNat = xs.length - 1 := by omega
    have e2 : (0 + xs.length - 1) % xs.length = xs.length - 1 := by rw [Nat.zero_add]; exact Nat.mod_eq_of_lt (by omega)
    show xs[(((0 : Nat) : Int) - 1 + (xs.length : Int)).toNat]? = _
    rw [e, List.getElem?_eq_getElem (by omega)]
    simp only [e2]
  · rw [if_pos (by omega), if_pos (by omega)]
    have e : ((i : Int) - 1).toNat = i - 1 := by omega
    have e2 : (i + xs.length - 1) % xs.length = i - 1 := by
      have : i + xs.length - 1 = (i - 1) + xs.length := by omega
      rw [this, Nat.add_mod_right]
      exact Nat.mod_eq_of_lt (by omega)
    show xs[((i : Int) - 1).toNat]? = _
    rw [e, List.getElem?_eq_getElem (by omega)]
    simp only [e2]
/-- a comprehension over a range: as a map -/
theorem lc_rng {k : FA} {f : FE} {i n : Nat} {ρ : DE} (F : Nat → D) (hk : k ρ = some ([.int (n : Int)], ρ)) (hn : n < 1000) (hi : ρ[i]? = some .un)
    (hf : ∀ j, j < n → f (ρ.set i (.dat (.int (j : Int)))) = some (F j, ρ.set i (.dat (.int (j : Int))))) : dLc (dRng1 k) (gSet i) (dYes) f [i] ρ = some (.lst ((List.range n).map F), ρ) := by
  have hil : i < ρ.length := (List.getElem?_eq_some_iff.mp hi).1
  have hstep : ∀ d, d ∈ rngD 0 n → ∃ ρ1 ρ3 y, gSet i d ρ = some ρ1 ∧ dYes ρ1 = some (true, ρ1) ∧ f ρ1 = some (y, ρ3) ∧ allDat ρ3 [i] = true ∧ wipeD ρ3 [i] = ρ ∧ y = (match d with | .int j => F j.toNat | _ => .non) := by
    intro d hd
    unfold rngD at hd
    obtain ⟨j, hj, rfl⟩ := List.mem_map.mp hd
    have hj := List.mem_range.mp hj
    have e0 : (0 + (j : Nat) : Int) = (j : Int) := by omega
    rw [e0]
    refine ⟨ρ.set i (.dat (.int (j : Int))), _, F j, ?_, rfl, hf j hj, ?_, ?_, rfl⟩
    · unfold gSet
      rw [hi]
      rfl
    · unfold allDat
      simp only [List.all_cons, List.all_nil, Bool.and_true]
      rw [List.getElem?_set_self hil]
      rfl
    · show (ρ.set i (.dat (.int (j : Int)))).set i .un = ρ
      rw [List.set_set, set_un hi]
  obtain ⟨ys, h1, h2, h3⟩ := lcL_all (P := fun d y => y = (match d with | .int j => F j.toNat | _ => .non)) (rngD 0 n) [] hstep (by simp [lim, rngD]; omega)
  rw [List.nil_append] at h1
  have hy := eq_map (F := fun d => (match d with | .int j => F j.toNat | _ => .non)) h2 h3
  have hy2 : ys = (List.range n).map F := by
    rw [hy]
    unfold rngD
    rw [List.map_map]
    apply List.map_congr_left
    intro j _
    show F (0 + (j : Nat) : Int).toNat = F j
    congr 1
    omega
  rw [hy2] at h1
  refine dLc_of (ev_rng1 hk (by omega)) ?_ (set_un hi) h1 ?_
  · unfold allDat
    simp only [List.all_cons, List.all_nil, Bool.and_true]
    rw [hi]
    rfl
  · show ρ.set i (ρ.getD i .un) = ρ
    rw [List.getD_eq_getElem?_getD, hi]
    exact set_un hi
end Dn
namespace K18
open PySem Dn
def subP (p q : Int × Int) : Int × Int := (p.1 - q.1, p.2 - q.2)
def crossP (p q : Int × Int) : Int := p.1 * q.2 - p.2 * q.1
theorem way_ok {W : List (Int × Int)} {i j : Nat} (hi : i < W.length) (hj : j < W.length) : m__law_way [.lst (W.map ipairD), .int (i : Int), .int (j : Int)] = some (ipairD (subP W[j] W[i])) := by
  have ei : L2.atI (W.map ipairD) (i : Int) = some (ipairD W[i]) := by rw [atI_nat (by simpa using hi)]; simp
  have ej : L2.atI (W.map ipairD) (j : Int) = some (ipairD W[j]) := by rw [atI_nat (by simpa using hj)]; simp
  refine run_of rfl (ρ := [.dat (.lst (W.map ipairD)), .dat (.int (i : Int)), .dat (.int (j : Int))]) ?_
  exact sv_ret (ev_tup (ev_cons (ev_op (ev_op (ev_op rfl rfl ej) rfl rfl) (ev_op (ev_op rfl rfl ei) rfl rfl) rfl) (ev_cons (ev_op (ev_op (ev_op rfl rfl ej) rfl rfl) (ev_op (ev_op rfl rfl ei) rfl rfl) rfl) rfl)) (by simp [lim]))
theorem cross_ok {p q : Int × Int} {n : Nat} (h1 : Sm n p.1) (h2 : Sm n p.2) (h3 : Sm n q.1) (h4 : Sm n q.2) (hn : n + n < 1000000) : m__law_cross [ipairD p, ipairD q] = some (.int (crossP p q)) := by
  have e1 := dMul_sm h1 h4 hn
  have e2 := dMul_sm h2 h3 hn
  refine run_of rfl (ρ := [.dat (ipairD p), .dat (ipairD q)]) ?_
  exact sv_ret (ev_op (ev_op (ev_op rfl rfl rfl) (ev_op rfl rfl rfl) e1) (ev_op (ev_op rfl rfl rfl) (ev_op rfl rfl rfl) e2) rfl)
end K18

set_option Elab.async false
set_option linter.all false
set_option maxRecDepth 100000
set_option maxHeartbeats 4000000
namespace Dn
open PySem
theorem lc_items {it : FE} {f : FE} {i : Nat} {ρ : DE} {xs : List D} (F : D → D) (hit : dItems it ρ = some (xs, ρ)) (hl : xs.length < 1000) (hi : ρ[i]? = some .un)
    (hf : ∀ d, d ∈ xs → f (ρ.set i (.dat d)) = some (F d, ρ.set i (.dat d))) : dLc (dItems it) (gSet i) (dYes) f [i] ρ = some (.lst (xs.map F), ρ) := by
  have hil : i < ρ.length := (List.getElem?_eq_some_iff.mp hi).1
  have hstep : ∀ d, d ∈ xs → ∃ ρ1 ρ3 y, gSet i d ρ = some ρ1 ∧ dYes ρ1 = some (true, ρ1) ∧ f ρ1 = some (y, ρ3) ∧ allDat ρ3 [i] = true ∧ wipeD ρ3 [i] = ρ ∧ y = F d := by
    intro d hd
    refine ⟨ρ.set i (.dat d), _, F d, ?_, rfl, hf d hd, ?_, ?_, rfl⟩
    · unfold gSet
      rw [hi]
      rfl
    · unfold allDat
      simp only [List.all_cons, List.all_nil, Bool.and_true]
      rw [List.getElem?_set_self hil]
      rfl
    · show (ρ.set i (.dat d)).set i .un = ρ
      rw [List.set_set, set_un hi]
  obtain ⟨ys, h1, h2, h3⟩ := lcL_all (P := fun d y => y = F d) xs [] hstep (by simp [lim]; omega)
  rw [List.nil_append, eq_map h2 h3] at h1
  refine dLc_of hit ?_ (set_un hi) h1 ?_
  · unfold allDat
    simp only [List.all_cons, List.all_nil, Bool.and_true]
    rw [hi]
    rfl
  · show ρ.set i (ρ.getD i .un) = ρ
    rw [List.getD_eq_getElem?_getD, hi]
    exact set_un hi
theorem lcL_if {g : FG} {t : FT} {f : FE} {vs : List Nat} {ρ : DE} {c : D → Bool} : ∀ (ds acc : List D), (∀ d, d ∈ ds → ∃ ρ1, g d ρ = some ρ1 ∧ t ρ1 = some (c d, ρ1) ∧ f ρ1 = some (d, ρ1) ∧ allDat ρ1 vs = true ∧ wipeD ρ1 vs = ρ) → acc.length + ds.length ≤ lim →
    lcL g t f vs ds ρ acc = some (acc ++ ds.filter c, ρ)
  | [], acc, _, _ => by rw [List.filter_nil, List.append_nil]; rfl
  | d :: ds, acc, h, hl => by
    obtain ⟨ρ1, h1, h2, h3, h4, h5⟩ := h d (by simp)
    unfold lcL
    rw [h1]
    dsimp only
    rw [h2]
    cases hc : c d with
    | true =>
      dsimp only
      rw [h3]
      dsimp only
      rw [if_pos ⟨h4, by simp at hl; omega⟩, h5, lcL_if ds (acc ++ [d]) (fun e he => h e (by simp [he])) (by simp at hl ⊢; omega)]
      simp [hc]
    | false =>
      dsimp only
      rw [if_pos h4, h5, lcL_if ds acc (fun e he => h e (by simp [he])) (by simp at hl ⊢; omega)]
      simp [hc]
theorem lc_rngIf {k : FA} {t : FT} {i n : Nat} {ρ : DE} (c : Nat → Bool) (hk : k ρ = some ([.int (n : Int)], ρ)) (hn : n < 1000) (hi : ρ[i]? = some .un)
    (ht : ∀ j, j < n → t (ρ.set i (.dat (.int (j : Int)))) = some (c j, ρ.set i (.dat (.int (j : Int))))) : dLc (dRng1 k) (gSet i) t (dVar i) [i] ρ = some (.lst (((List.range n).filter c).map fun j => .int (j : Nat)), ρ) := by
  have hil : i < ρ.length := (List.getElem?_eq_some_iff.mp hi).1
  have hstep : ∀ d, d ∈ rngD 0 n → ∃ ρ1, gSet i d ρ = some ρ1 ∧ t ρ1 = some ((match d with | .int j => c j.toNat | _ => false), ρ1) ∧ dVar i ρ1 = some (d, ρ1) ∧ allDat ρ1 [i] = true ∧ wipeD ρ1 [i] = ρ := by
    intro d hd
    unfold rngD at hd
    obtain ⟨j, hj, rfl⟩ := List.mem_map.mp hd
    have hj := List.mem_range.mp hj
    have e0 : (0 + (j : Nat) : Int) = (j : Int) := by omega
    rw [e0]
    refine ⟨ρ.set i (.dat (.int (j : Int))), ?_, ht j hj, ?_, ?_, ?_⟩
    · unfold gSet
      rw [hi]
      rfl
    · unfold dVar
      rw [List.getElem?_set_self hil]
    · unfold allDat
      simp only [List.all_cons, List.all_nil, Bool.and_true]
      rw [List.getElem?_set_self hil]
      rfl
    · show (ρ.set i (.dat (.int (j : Int)))).set i .un = ρ
      rw [List.set_set, set_un hi]
  have h1 := lcL_if (c := fun d => (match d with | .int j => c j.toNat | _ => false)) (rngD 0 n) [] hstep (by simp [lim, rngD]; omega)
  rw [List.nil_append] at h1
  have hy2 : (rngD 0 n).filter (fun d => (match d with | .int j => c j.toNat | _ => false)) = ((List.range n).filter c).map fun j => .int (j : Nat) := by
    unfold rngD
    rw [List.filter_map]
    have e1 : (List.range n).filter ((fun d => (match d with | D.int j => c j.toNat | _ => false)) ∘ fun i : Nat => D.int (0 + (i : Nat))) = (List.range n).filter c := by
      apply List.filter_congr
      intro j _
      show c (0 + (j : Nat) : Int).toNat = c j
      congr 1
      omega
    rw [e1]
    apply List.map_congr_left
    intro j _
    show D.int (0 + (j : Nat)) = D.int (j : Nat)
    congr 1
    omega
  rw [hy2] at h1
  refine dLc_of (ev_rng1 hk (by omega)) ?_ (set_un hi) h1 ?_
  · unfold allDat
    simp only [List.all_cons, List.all_nil, Bool.and_true]
    rw [hi]
    rfl
  · show ρ.set i (ρ.getD i .un) = ρ
    rw [List.getD_eq_getElem?_getD, hi]
    exact set_un hi
def pairPy (p : Int × Int) : PyData := .tuple [.int p.1, .int p.2]
theorem toPy_pairs (ws : List (Int × Int)) : toPyL (ws.map ipairD) = some (ws.map pairPy) := by
  induction ws with
  | nil => rfl
  | cons a r ih =>
    show (match toPy (ipairD a) with
      | some p => (match toPyL (r.map ipairD) with
        | some ps => some (p :: ps)
        | none => none)
      | none => none) = _
    rw [ih]
    rfl
theorem shaped_pairs (ws : List (Int × Int)) : SeqAt.shaped (.list (ws.map pairPy)) = true := by
  have h1 : PyData.canLayAll0 (ws.map pairPy) = true := by
    induction ws with
    | nil => rfl
    | cons a r ih =>
      show (PyData.canLay0 (pairPy a) && PyData.canLayAll0 (r.map pairPy)) = true
      rw [ih]
      rfl
  have h2 : PyData.depthAll (ws.map pairPy) ≤ 2 := by
    induction ws with
    | nil => exact Nat.zero_le _
    | cons a r ih =>
      have ih := ih (by
        have : (PyData.canLay0 (pairPy a) && PyData.canLayAll0 (r.map pairPy)) = true := h1
        exact (Bool.and_eq_true_iff.mp this).2)
      show max (PyData.depth (pairPy a)) (PyData.depthAll (r.map pairPy)) ≤ 2
      have : PyData.depth (pairPy a) ≤ 2 := by
        show max 0 (max 0 0) + 1 ≤ 2
        decide
      omega
  unfold SeqAt.shaped
  rw [Bool.and_eq_true]
  exact ⟨h1, decide_eq_true (show PyData.depthAll (ws.map pairPy) + 1 ≤ 64 by omega)⟩
theorem in_pairs (ws : List (Int × Int)) : dIn (ipairD (0, 0)) (.lst (ws.map ipairD)) = some (.bl (ws.any fun p => decide (p.1 = 0) && decide (p.2 = 0))) := by
  have e1 : toPy (ipairD (0, 0)) = some (pairPy (0, 0)) := rfl
  have e2 : toPy (.lst (ws.map ipairD)) = some (.list (ws.map pairPy)) := by
    show (match toPyL (ws.map ipairD) with
      | some ps => some (PyData.list ps)
      | none => none) = _
    rw [toPy_pairs]
  have e3 : SeqAt.shaped (pairPy (0, 0)) = true := by decide +kernel
  show (match toPy (ipairD (0, 0)), toPy (.lst (ws.map ipairD)) with
    | some p, some (.list ps) => if SeqAt.shaped p = true ∧ SeqAt.shaped (.list ps) = true then some (D.bl (ps.any fun z => PyData.eqv z p)) else none
    | _, _ => none) = _
  rw [e1, e2]
  dsimp only
  rw [if_pos ⟨e3, shaped_pairs ws⟩, List.any_map]
  congr 3
  funext p
  show ((p.1 == 0) && ((p.2 == 0) && true)) = _
  rw [Bool.and_true]
  rfl
end Dn
namespace K18
open PySem Dn
def upP (p : Int × Int) : Bool := decide (0 < p.2) || (decide (p.2 = 0) && decide (0 < p.1))
/-- how often a row of flags begins to be true, counted round -/
def begins (us : List Bool) : Nat := ((List.range us.length).filter fun i => us.getD i false && !us.getD ((i + us.length - 1) % us.length) false).length
theorem rounds_ok {ws : List (Int × Int)} (hl : ws.length < 1000) : m__law_rounds_once [.lst (ws.map ipairD)] = some (.bl (decide (begins (ws.map upP) = 1))) := by
  have h1 : dLc (dItems (dVar 0)) (gSet 2) (dYes) (dOrV (dOp dGt (dOp dIx (dVar 2) (dC (.int 1))) (dC (.int 0))) (dAndV (dOp dEq (dOp dIx (dVar 2) (dC (.int 1))) (dC (.int 0))) (dOp dGt (dOp dIx (dVar 2) (dC (.int 0))) (dC (.int 0))))) [2] [.dat (.lst (ws.map ipairD)), .un, .un, .un] =
      some (.lst ((ws.map ipairD).map fun d => (match d with | .tup [.int a, .int b] => .bl (upP (a, b)) | _ => .non)), [.dat (.lst (ws.map ipairD)), .un, .un, .un]) := by
    refine lc_items _ rfl (by simpa using hl) rfl fun d hd => ?_
    obtain ⟨p, _, rfl⟩ := List.mem_map.mp hd
    obtain ⟨a, b⟩ := p
    have e1 : dOp dGt (dOp dIx (dVar 2) (dC (.int 1))) (dC (.int 0)) [.dat (.lst (ws.map ipairD)), .un, .dat (ipairD (a, b)), .un] = some (.bl (decide (0 < b)), [.dat (.lst (ws.map ipairD)), .un, .dat (ipairD (a, b)), .un]) := ev_op (ev_op rfl rfl rfl) rfl rfl
    have e2 : dOp dEq (dOp dIx (dVar 2) (dC (.int 1))) (dC (.int 0)) [.dat (.lst (ws.map ipairD)), .un, .dat (ipairD (a, b)), .un] = some (.bl (decide (b = 0)), [.dat (.lst (ws.map ipairD)), .un, .dat (ipairD (a, b)), .un]) := ev_op (ev_op rfl rfl rfl) rfl (dEq_int b 0)
    have e3 : dOp dGt (dOp dIx (dVar 2) (dC (.int 0))) (dC (.int 0)) [.dat (.lst (ws.map ipairD)), .un, .dat (ipairD (a, b)), .un] = some (.bl (decide (0 < a)), [.dat (.lst (ws.map ipairD)), .un, .dat (ipairD (a, b)), .un]) := ev_op (ev_op rfl rfl rfl) rfl rfl
    show dOrV _ (dAndV _ _) [.dat (.lst (ws.map ipairD)), .un, .dat (ipairD (a, b)), .un] = some (.bl (upP (a, b)), _)
    unfold dOrV
    rw [e1]
    cases c1 : decide (0 < b) with
    | true => unfold upP; rw [c1]; rfl
    | false =>
      dsimp only
      unfold dAndV
      rw [e2]
      cases c2 : decide (b = 0) with
      | true => unfold upP; rw [c1, c2]; dsimp only; rw [e3]; rfl
      | false => unfold upP; rw [c1, c2]; rfl
  have e1 : (ws.map ipairD).map (fun d => (match d with | .tup [.int a, .int b] => .bl (upP (a, b)) | _ => .non)) = (ws.map upP).map D.bl := by
    rw [List.map_map, List.map_map]
    rfl
  rw [e1] at h1
  generalize hus : ws.map upP = us at *
  have lus : us.length < 1000 := by rw [← hus]; simpa using hl
  have h2 : dLc (dRng1 (dCons (dCall dLen (dCons (dVar 1) (dNil))) (dNil))) (gSet 3) (dAndT (dB (dOp dIx (dVar 1) (dVar 3))) (dNotT (dB (dOp dIx (dVar 1) (dOp dSub (dVar 3) (dC (.int 1))))))) (dVar 3) [3] [.dat (.lst (ws.map ipairD)), .dat (.lst (us.map D.bl)), .un, .un] =
      some (.lst (((List.range us.length).filter fun i => us.getD i false && !us.getD ((i + us.length - 1) % us.length) false).map fun j => .int (j : Nat)), [.dat (.lst (ws.map ipairD)), .dat (.lst (us.map D.bl)), .un, .un]) := by
    refine lc_rngIf (n := us.length) _ (ev_cons (ev_call (ev_cons rfl rfl) (by show some (D.int ((us.map D.bl).length : Nat)) = _; rw [List.length_map])) rfl) lus rfl fun j hj => ?_
    have g1 : us.getD j false = us[j] := by rw [List.getD_eq_getElem?_getD, List.getElem?_eq_getElem hj]; rfl
    have hp : (j + us.length - 1) % us.length < us.length := Nat.mod_lt _ (by omega)
    have g2 : us.getD ((j + us.length - 1) % us.length) false = us[(j + us.length - 1) % us.length] := by rw [List.getD_eq_getElem?_getD, List.getElem?_eq_getElem hp]; rfl
    have i1 : L2.atI (us.map D.bl) (j : Int) = some (.bl us[j]) := by rw [atI_nat (by simpa using hj)]; simp
    have i2 : L2.atI (us.map D.bl) ((j : Int) - 1) = some (.bl us[(j + us.length - 1) % us.length]) := by rw [atI_pred (by simpa using hj)]; simp
    rw [g1, g2]
    have k1 : dB (dOp dIx (dVar 1) (dVar 3)) [.dat (.lst (ws.map ipairD)), .dat (.lst (us.map D.bl)), .un, .dat (.int (j : Int))] = some (us[j], [.dat (.lst (ws.map ipairD)), .dat (.lst (us.map D.bl)), .un, .dat (.int (j : Int))]) := tv_b (ev_op rfl rfl i1)
    have k2 : dB (dOp dIx (dVar 1) (dOp dSub (dVar 3) (dC (.int 1)))) [.dat (.lst (ws.map ipairD)), .dat (.lst (us.map D.bl)), .un, .dat (.int (j : Int))] = some (us[(j + us.length - 1) % us.length], [.dat (.lst (ws.map ipairD)), .dat (.lst (us.map D.bl)), .un, .dat (.int (j : Int))]) := tv_b (ev_op rfl (ev_op rfl rfl rfl) i2)
    show dAndT _ _ [.dat (.lst (ws.map ipairD)), .dat (.lst (us.map D.bl)), .un, .dat (.int (j : Int))] = some (_, [.dat (.lst (ws.map ipairD)), .dat (.lst (us.map D.bl)), .un, .dat (.int (j : Int))])
    cases c : us[j] with
    | true => rw [c] at k1; exact tv_andT k1 (by rw [Bool.true_and]; exact tv_not k2)
    | false => rw [c] at k1; exact tv_andF k1
  refine run_of rfl (ρ := [.dat (.lst (ws.map ipairD)), .dat (.lst (us.map D.bl)), .un, .un]) ?_
  refine sv_seq (sv_asg h1 rfl) (sv_ret (ev_op (ev_call (ev_cons h2 rfl) rfl) rfl ?_))
  have hd : ∀ n : Nat, decide ((n : Int) = 1) = decide (n = 1) := fun n => by
    by_cases c : n = 1
    · rw [decide_eq_true c, decide_eq_true (by omega)]
    · rw [decide_eq_false c, decide_eq_false (by omega)]
  rw [dEq_int, hd, List.length_map]
  rfl
end K18

set_option Elab.async false
set_option linter.all false
set_option maxRecDepth 100000
set_option maxHeartbeats 4000000
namespace K18
open PySem Dn
def waysP (W : List (Int × Int)) : List (Int × Int) := (List.range W.length).map fun i => subP (W.getD ((i + 1) % W.length) (0, 0)) (W.getD i (0, 0))
def zeroP (p : Int × Int) : Bool := decide (p.1 = 0) && decide (p.2 = 0)
def leftP (ws : List (Int × Int)) : Bool := (List.range ws.length).all fun i => decide (0 < crossP (ws.getD ((i + ws.length - 1) % ws.length) (0, 0)) (ws.getD i (0, 0)))
def goesP (W : List (Int × Int)) : Bool := !(waysP W).any zeroP && (leftP (waysP W) && decide (begins ((waysP W).map upP) = 1))
theorem getD_of {α : Type} {l : List α} {i : Nat} {d : α} (h : i < l.length) : l.getD i d = l[i] := by rw [List.getD_eq_getElem?_getD, List.getElem?_eq_getElem h]; rfl
theorem goes_ok {W : List (Int × Int)} {M : Nat} (h0 : 0 < W.length) (hl : W.length < 1000) (hW : ∀ p, p ∈ W → Sm M p.1 ∧ Sm M p.2) (hM : M + M + 2 < 1000000) : m__law_goes_round [.lst (W.map ipairD)] = some (.bl (goesP W)) := by
  have h1 : dLc (dRng1 (dCons (dVar 1) (dNil))) (gSet 3) (dYes) (dCall m__law_way (dCons (dVar 0) (dCons (dVar 3) (dCons (dOp dMod (dOp dAdd (dVar 3) (dC (.int 1))) (dVar 1)) (dNil))))) [3] [.dat (.lst (W.map ipairD)), .dat (.int (W.length : Int)), .un, .un] =
      some (.lst ((List.range W.length).map fun i => ipairD (subP (W.getD ((i + 1) % W.length) (0, 0)) (W.getD i (0, 0)))), [.dat (.lst (W.map ipairD)), .dat (.int (W.length : Int)), .un, .un]) := by
    refine lc_rng (n := W.length) _ rfl hl rfl fun j hj => ?_
    have hq : (j + 1) % W.length < W.length := Nat.mod_lt _ h0
    rw [getD_of hj, getD_of hq]
    have em : dMod (.int ((j : Int) + 1)) (.int (W.length : Int)) = some (.int (((j + 1) % W.length : Nat) : Int)) := by
      rw [dMod_pos (by omega)]
      congr 2
    have hw := way_ok (W := W) hj hq
    exact ev_call (ev_cons rfl (ev_cons rfl (ev_cons (ev_op (ev_op rfl rfl rfl) rfl em) rfl))) hw
  have e1 : ((List.range W.length).map fun i => ipairD (subP (W.getD ((i + 1) % W.length) (0, 0)) (W.getD i (0, 0)))) = (waysP W).map ipairD := by
    unfold waysP
    rw [List.map_map]
    rfl
  rw [e1] at h1
  have lw : (waysP W).length = W.length := by unfold waysP; simp
  have sw : ∀ p, p ∈ waysP W → Sm (M + 1) p.1 ∧ Sm (M + 1) p.2 := fun p hp => by
    unfold waysP at hp
    obtain ⟨i, hi, rfl⟩ := List.mem_map.mp hp
    have hi := List.mem_range.mp hi
    have hq : (i + 1) % W.length < W.length := Nat.mod_lt _ h0
    rw [getD_of hi, getD_of hq]
    have a := hW _ (List.getElem_mem hi)
    have b := hW _ (List.getElem_mem hq)
    exact ⟨b.1.sub a.1, b.2.sub a.2⟩
  unfold goesP
  generalize waysP W = ws at *
  have h2 := in_pairs ws
  have h3 : dLc (dRng1 (dCons (dVar 1) (dNil))) (gSet 3) (dYes) (dOp dGt (dCall m__law_cross (dCons (dOp dIx (dVar 2) (dOp dSub (dVar 3) (dC (.int 1)))) (dCons (dOp dIx (dVar 2) (dVar 3)) (dNil)))) (dC (.int 0))) [3] [.dat (.lst (W.map ipairD)), .dat (.int (W.length : Int)), .dat (.lst (ws.map ipairD)), .un] =
      some (.lst ((List.range W.length).map fun i => .bl (decide (0 < crossP (ws.getD ((i + ws.length - 1) % ws.length) (0, 0)) (ws.getD i (0, 0))))), [.dat (.lst (W.map ipairD)), .dat (.int (W.length : Int)), .dat (.lst (ws.map ipairD)), .un]) := by
    refine lc_rng (n := W.length) _ rfl hl rfl fun j hj => ?_
    have hj2 : j < ws.length := by omega
    have hq : (j + ws.length - 1) % ws.length < ws.length := Nat.mod_lt _ (by omega)
    rw [getD_of hj2, getD_of hq]
    have i1 : L2.atI (ws.map ipairD) (j : Int) = some (ipairD ws[j]) := by rw [atI_nat (by simpa using hj2)]; simp
    have i2 : L2.atI (ws.map ipairD) ((j : Int) - 1) = some (ipairD ws[(j + ws.length - 1) % ws.length]) := by rw [atI_pred (by simpa using hj2)]; simp
    have a := sw _ (List.getElem_mem hj2)
    have b := sw _ (List.getElem_mem hq)
    have hc := cross_ok b.1 b.2 a.1 a.2 (by omega)
    exact ev_op (ev_call (ev_cons (ev_op rfl (ev_op rfl rfl rfl) i2) (ev_cons (ev_op rfl rfl i1) rfl)) hc) rfl rfl
  have h4 : dB (dCall (dFold fun bs => .bl (bs.all id)) (dCons (dLc (dRng1 (dCons (dVar 1) (dNil))) (gSet 3) (dYes) (dOp dGt (dCall m__law_cross (dCons (dOp dIx (dVar 2) (dOp dSub (dVar 3) (dC (.int 1)))) (dCons (dOp dIx (dVar 2) (dVar 3)) (dNil)))) (dC (.int 0))) [3]) (dNil))) [.dat (.lst (W.map ipairD)), .dat (.int (W.length : Int)), .dat (.lst (ws.map ipairD)), .un] =
      some (leftP ws, [.dat (.lst (W.map ipairD)), .dat (.int (W.length : Int)), .dat (.lst (ws.map ipairD)), .un]) := by
    refine tv_b (ev_call (ev_cons h3 rfl) ?_)
    have hm : (List.range W.length).map (fun i => D.bl (decide (0 < crossP (ws.getD ((i + ws.length - 1) % ws.length) (0, 0)) (ws.getD i (0, 0))))) = ((List.range W.length).map fun i => decide (0 < crossP (ws.getD ((i + ws.length - 1) % ws.length) (0, 0)) (ws.getD i (0, 0)))).map D.bl := by rw [List.map_map]; rfl
    rw [hm]
    show (match blsOf (List.map D.bl _) with
      | some bs => some ((fun bs : List Bool => D.bl (bs.all id)) bs)
      | none => none) = _
    rw [blsOf_map]
    unfold leftP
    rw [lw]
    simp
  have h5 := rounds_ok (ws := ws) (by omega)
  have hin : dB (dOp dIn2 (dTup (dCons (dC (.int 0)) (dCons (dC (.int 0)) (dNil)))) (dVar 2)) [.dat (.lst (W.map ipairD)), .dat (.int (W.length : Int)), .dat (.lst (ws.map ipairD)), .un] = some (ws.any zeroP, [.dat (.lst (W.map ipairD)), .dat (.int (W.length : Int)), .dat (.lst (ws.map ipairD)), .un]) := tv_b (ev_op (ev_tup (ev_cons rfl (ev_cons rfl rfl)) (by simp [lim])) rfl h2)
  refine run_of rfl (ρ := [.dat (.lst (W.map ipairD)), .dat (.int (W.length : Int)), .dat (.lst (ws.map ipairD)), .un]) ?_
  refine sv_seq (sv_asg (ev_call (ev_cons rfl rfl) (by show some (D.int ((W.map ipairD).length : Nat)) = some (D.int (W.length : Int)); rw [List.length_map])) rfl) (sv_seq (sv_asg h1 rfl) ?_)
  cases c1 : ws.any zeroP with
  | true =>
    rw [c1] at hin
    exact sv_seqR (sv_ifT (tv_orT hin) (sv_ret rfl))
  | false =>
    rw [c1] at hin
    cases c2 : leftP ws with
    | false =>
      rw [c2] at h4
      exact sv_seqR (sv_ifT (tv_orF hin (tv_not h4)) (sv_ret rfl))
    | true =>
      rw [c2] at h4
      refine sv_seq (sv_ifF (tv_orF hin (tv_not h4)) rfl) (sv_ret (ev_call (ev_cons rfl rfl) ?_))
      rw [h5]
      rfl
end K18

set_option Elab.async false
set_option linter.all false
set_option maxRecDepth 100000
set_option maxHeartbeats 4000000
namespace K18
open PySem Dn
/-- the four numbers of a point -/
def ptOf : D → Int × Int × Int × Int
  | .tup [.tup [.int a, .int b], .tup [.int c, .int e]] => (a, b, c, e)
  | _ => (0, 1, 0, 1)
def scl (S : Int) (d : D) : Int × Int := ((ptOf d).1 * (S / (ptOf d).2.1), (ptOf d).2.2.1 * (S / (ptOf d).2.2.2))
def whB : FS := dAsg 1 (dOp dMul (dOp dDiv (dVar 1) (dCall m__law_gcd (dCons (dVar 1) (dCons (dOp dIx (dVar 3) (dC (.int 1))) (dNil))))) (dOp dIx (dVar 3) (dC (.int 1))))
theorem lcm_step {S b : Int} {m n : Nat} (hS : 0 < S) (hb : 0 < b) (sS : Sm m S) (sb : Sm n b) (hn : n ≤ 2000) (hm : m + n < 1000000) :
    ∃ S', 0 < S' ∧ Sm (m + n) S' ∧ S ∣ S' ∧ b ∣ S' ∧ S' = S / (Int.gcd S b : Nat) * b ∧ m__law_gcd [.int S, .int b] = some (.int (Int.gcd S b : Nat)) ∧ dDiv (.int S) (.int (Int.gcd S b : Nat)) = some (.int (S / (Int.gcd S b : Nat))) ∧ dMul (.int (S / (Int.gcd S b : Nat))) (.int b) = some (.int (S / (Int.gcd S b : Nat) * b)) := by
  have hg := gcd_ok (a := S) (Int.le_of_lt hb) (sb.up hn)
  have gp : (0 : Int) < (Int.gcd S b : Nat) := by
    have := Int.gcd_pos_of_ne_zero_right S (show b ≠ 0 by omega)
    omega
  have gb : ((Int.gcd S b : Nat) : Int) ≤ b := Int.gcd_le_right S hb
  have d1 : ((Int.gcd S b : Nat) : Int) ∣ S := Int.gcd_dvd_left ..
  have d2 : ((Int.gcd S b : Nat) : Int) ∣ b := Int.gcd_dvd_right ..
  have sg : Sm n ((Int.gcd S b : Nat) : Int) := by unfold Sm at *; omega
  have e1 := dDiv_sm (i := S) gp (sg.up hn)
  have p1 : 0 < S / (Int.gcd S b : Nat) := Int.ediv_pos_of_pos_of_dvd hS (Int.le_of_lt gp) d1
  have s1 := sS.div gp
  have e2 := dMul_sm s1 sb hm
  refine ⟨_, Int.mul_pos p1 hb, s1.mul sb, ?_, ⟨_, Int.mul_comm _ _⟩, rfl, hg, e1, e2⟩
  obtain ⟨c, hc⟩ := d2
  refine ⟨c, ?_⟩
  have k1 : S / (Int.gcd S b : Nat) * (Int.gcd S b : Nat) = S := Int.ediv_mul_cancel d1
  generalize (Int.gcd S b : Nat) = G at *
  generalize S / (G : Int) = y at *
  rw [hc, ← Int.mul_assoc, k1]
theorem wh_loop {n : Nat} {all : D} (hn : n ≤ 2000) : ∀ (ps : List D) (m : Nat) (S : Int) (s2 s3 : Sl), isDat (some s2) = true → isDat (some s3) = true → 0 < S → Sm m S → m + 2 * n * ps.length < 1000000 → (∀ p, p ∈ ps → PtD n p) →
    ∃ S' s2' s3', forL (gSet 2) (dFor (dItems (dVar 2)) (gSet 3) whB) ps [.dat all, .dat (.int S), s2, s3, .un, .un] = some (.nx, [.dat all, .dat (.int S'), s2', s3', .un, .un]) ∧ 0 < S' ∧ Sm (m + 2 * n * ps.length) S' ∧ S ∣ S' ∧ ∀ p, p ∈ ps → (ptOf p).2.1 ∣ S' ∧ (ptOf p).2.2.2 ∣ S'
  | [], m, S, s2, s3, _, _, hS, sS, _, _ => ⟨S, s2, s3, rfl, hS, sS.up (by omega), ⟨1, by omega⟩, fun p hp => by simp at hp⟩
  | p :: ps, m, S, s2, s3, h2, h3, hS, sS, hm, hp => by
    have e0 : 2 * n * (p :: ps).length = 2 * n * ps.length + 2 * n := by rw [List.length_cons, Nat.mul_add, Nat.mul_one]
    rw [e0] at hm
    obtain ⟨f, g, rfl, ⟨a, b, rfl, b0, ab, sa, sb⟩, ⟨c, d, rfl, d0, cd, sc, sd⟩⟩ := hp p (by simp)
    obtain ⟨S1, p1, q1, dv1, bv1, eS1, g1, x1, y1⟩ := lcm_step hS b0 sS sb hn (by omega)
    rw [← eS1] at y1
    obtain ⟨S2, p2, q2, dv2, bv2, eS2, g2, x2, y2⟩ := lcm_step p1 d0 q1 sd hn (by omega)
    rw [← eS2] at y2
    obtain ⟨S3, t2, t3, hl, p3, q3, dv3, all3⟩ := wh_loop (all := all) hn ps (m + n + n) S2 (.dat (.tup [.tup [.int a, .int b], .tup [.int c, .int d]])) (.dat (.tup [.int c, .int d])) rfl rfl p2 q2 (by omega) (fun q hq => hp q (by simp [hq]))
    refine ⟨S3, t2, t3, ?_, p3, by rw [e0]; exact q3.up (by omega), Int.dvd_trans dv1 (Int.dvd_trans dv2 dv3), fun q hq => ?_⟩
    · have gs2 : gSet 2 (.tup [.tup [.int a, .int b], .tup [.int c, .int d]]) [.dat all, .dat (.int S), s2, s3, .un, .un] = some [.dat all, .dat (.int S), .dat (.tup [.tup [.int a, .int b], .tup [.int c, .int d]]), s3, .un, .un] := by
        unfold gSet
        exact if_pos h2
      have gs3 : gSet 3 (.tup [.int a, .int b]) [.dat all, .dat (.int S), .dat (.tup [.tup [.int a, .int b], .tup [.int c, .int d]]), s3, .un, .un] = some [.dat all, .dat (.int S), .dat (.tup [.tup [.int a, .int b], .tup [.int c, .int d]]), .dat (.tup [.int a, .int b]), .un, .un] := by
        unfold gSet
        exact if_pos h3
      refine for_nx gs2 (sv_for rfl (for_nx gs3 (sv_asg (ev_op (ev_op rfl (ev_call (ev_cons rfl (ev_cons (ev_op rfl rfl rfl) rfl)) g1) x1) (ev_op rfl rfl rfl) y1) rfl) (for_nx rfl (sv_asg (ev_op (ev_op rfl (ev_call (ev_cons rfl (ev_cons (ev_op rfl rfl rfl) rfl)) g2) x2) (ev_op rfl rfl rfl) y2) rfl) rfl))) hl
    · rcases List.mem_cons.mp hq with rfl | z
      · exact ⟨Int.dvd_trans bv1 (Int.dvd_trans dv2 dv3), Int.dvd_trans bv2 dv3⟩
      · exact all3 q z
theorem whole_ok {n : Nat} (hn : n ≤ 2000) {ps : List D} (hp : ∀ p, p ∈ ps → PtD n p) (hl : ps.length ≤ 100) :
    ∃ S, 0 < S ∧ (∀ p, p ∈ ps → (ptOf p).2.1 ∣ S ∧ (ptOf p).2.2.2 ∣ S) ∧ m__law_whole [.tup ps] = some (.lst ((ps.map (scl S)).map ipairD)) ∧ ∀ q, q ∈ ps.map (scl S) → Sm 410000 q.1 ∧ Sm 410000 q.2 := by
  have hb : 2 * n * ps.length ≤ 400000 := by
    have : 2 * n * ps.length ≤ 4000 * 100 := Nat.mul_le_mul (by omega) hl
    omega
  obtain ⟨S, s2, s3, h1, hS, sS, _, hd⟩ := wh_loop (all := .tup ps) hn ps 1 1 .un .un rfl rfl (by decide) (Sm.lit (by decide)) (by omega) hp
  have sS' : Sm 400001 S := sS.up (by omega)
  have bnd : ∀ p, p ∈ ps → Sm 410000 (scl S p).1 ∧ Sm 410000 (scl S p).2 := fun p hpp => by
    obtain ⟨f, g, rfl, ⟨a, b, rfl, b0, ab, sa, sb⟩, ⟨c, d, rfl, d0, cd, sc, sd⟩⟩ := hp p hpp
    exact ⟨(sa.mul (sS'.div b0)).up (by omega), (sc.mul (sS'.div d0)).up (by omega)⟩
  refine ⟨S, hS, hd, ?_, fun q hq => by obtain ⟨p, hpp, rfl⟩ := List.mem_map.mp hq; exact bnd p hpp⟩
  have hstep : ∀ d, d ∈ ps → ∃ ρ1 ρ3 y, gTupD (gsCons (gSet 4) (gsCons (gSet 5) (gsNil))) 2 d [.dat (.tup ps), .dat (.int S), s2, s3, .un, .un] = some ρ1 ∧ dYes ρ1 = some (true, ρ1) ∧
      dTup (dCons (dOp dMul (dOp dIx (dVar 4) (dC (.int 0))) (dOp dDiv (dVar 1) (dOp dIx (dVar 4) (dC (.int 1))))) (dCons (dOp dMul (dOp dIx (dVar 5) (dC (.int 0))) (dOp dDiv (dVar 1) (dOp dIx (dVar 5) (dC (.int 1))))) (dNil))) ρ1 = some (y, ρ3) ∧ allDat ρ3 [4, 5] = true ∧ wipeD ρ3 [4, 5] = [.dat (.tup ps), .dat (.int S), s2, s3, .un, .un] ∧ y = ipairD (scl S d) := by
    intro d hdd
    obtain ⟨f, g, rfl, ⟨a, b, rfl, b0, ab, sa, sb⟩, ⟨c, d, rfl, d0, cd, sc, sd⟩⟩ := hp d hdd
    have e1 := dDiv_sm (i := S) b0 (sb.up hn)
    have e2 := dDiv_sm (i := S) d0 (sd.up hn)
    have m1 := dMul_sm sa (sS'.div b0) (by omega)
    have m2 := dMul_sm sc (sS'.div d0) (by omega)
    exact ⟨[.dat (.tup ps), .dat (.int S), s2, s3, .dat (.tup [.int a, .int b]), .dat (.tup [.int c, .int d])], [.dat (.tup ps), .dat (.int S), s2, s3, .dat (.tup [.int a, .int b]), .dat (.tup [.int c, .int d])], _, rfl, rfl, ev_tup (ev_cons (ev_op (ev_op rfl rfl rfl) (ev_op rfl (ev_op rfl rfl rfl) e1) m1) (ev_cons (ev_op (ev_op rfl rfl rfl) (ev_op rfl (ev_op rfl rfl rfl) e2) m2) rfl)) (by simp [lim]), rfl, rfl, rfl⟩
  obtain ⟨ys, k1, k2, k3⟩ := lcL_all (P := fun d y => y = ipairD (scl S d)) ps [] hstep (by simp [lim]; omega)
  rw [List.nil_append, eq_map (F := fun d => ipairD (scl S d)) k2 k3] at k1
  refine run_of rfl (ρ := [.dat (.tup ps), .dat (.int S), s2, s3, .un, .un]) ?_
  refine sv_seq (sv_asg rfl rfl) (sv_seq (sv_for rfl h1) (sv_ret ?_))
  rw [List.map_map]
  exact dLc_of rfl rfl rfl k1 rfl
end K18

set_option Elab.async false
set_option linter.all false
set_option maxRecDepth 100000
set_option maxHeartbeats 4000000
namespace K18
open PySem Dn
def mulP (k : Int) (p : Int × Int) : Int × Int := (k * p.1, k * p.2)
theorem getD_map {W : List (Int × Int)} {k : Int} {i : Nat} : (W.map (mulP k)).getD i (0, 0) = mulP k (W.getD i (0, 0)) := by
  rw [List.getD_eq_getElem?_getD, List.getD_eq_getElem?_getD, List.getElem?_map]
  cases W[i]? with
  | none => show (0, 0) = mulP k (0, 0); unfold mulP; simp
  | some p => rfl
theorem ways_mul (W : List (Int × Int)) (k : Int) : waysP (W.map (mulP k)) = (waysP W).map (mulP k) := by
  unfold waysP
  rw [List.map_map, List.length_map]
  apply List.map_congr_left
  intro i _
  rw [getD_map, getD_map]
  show subP _ _ = mulP k (subP _ _)
  unfold subP mulP
  simp only [Int.mul_sub]
theorem zero_mul {k : Int} (hk : 0 < k) (p : Int × Int) : zeroP (mulP k p) = zeroP p := by
  unfold zeroP mulP
  have h : ∀ x : Int, decide (k * x = 0) = decide (x = 0) := fun x => by
    by_cases c : x = 0
    · rw [c]; simp
    · have : k * x ≠ 0 := Int.mul_ne_zero (by omega) c
      rw [decide_eq_false c, decide_eq_false this]
  rw [h, h]
theorem pos_mul {k : Int} (hk : 0 < k) (x : Int) : decide (0 < k * x) = decide (0 < x) := by
  by_cases c : 0 < x
  · rw [decide_eq_true c, decide_eq_true (Int.mul_pos hk c)]
  · rw [decide_eq_false c, decide_eq_false]
    intro h
    by_cases z : x = 0
    · rw [z] at h; simp at h
    · have : k * x < 0 := Int.mul_neg_of_pos_of_neg hk (by omega)
      omega
theorem up_mul {k : Int} (hk : 0 < k) (p : Int × Int) : upP (mulP k p) = upP p := by
  have h : decide (k * p.2 = 0) = decide (p.2 = 0) := by
    by_cases c : p.2 = 0
    · rw [c]; simp
    · have : k * p.2 ≠ 0 := Int.mul_ne_zero (by omega) c
      rw [decide_eq_false c, decide_eq_false this]
  show (decide (0 < k * p.2) || (decide (k * p.2 = 0) && decide (0 < k * p.1))) = _
  rw [pos_mul hk, pos_mul hk, h]
  rfl
theorem left_mul {k : Int} (hk : 0 < k) (ws : List (Int × Int)) : leftP (ws.map (mulP k)) = leftP ws := by
  unfold leftP
  rw [List.length_map]
  congr 1
  funext i
  rw [getD_map, getD_map]
  have e : ∀ p q : Int × Int, crossP (mulP k p) (mulP k q) = k * (k * crossP p q) := fun p q => by
    unfold crossP mulP
    simp only [Int.mul_sub]
    congr 1 <;> · simp only [Int.mul_assoc, Int.mul_left_comm]
  rw [e, pos_mul hk, pos_mul hk]
theorem goes_mul {k : Int} (hk : 0 < k) (W : List (Int × Int)) : goesP (W.map (mulP k)) = goesP W := by
  unfold goesP
  rw [ways_mul, left_mul hk]
  generalize waysP W = ws
  have e1 : (ws.map (mulP k)).any zeroP = ws.any zeroP := by
    rw [List.any_map]
    congr 1
    funext p
    exact zero_mul hk p
  have e2 : (ws.map (mulP k)).map upP = ws.map upP := by
    rw [List.map_map]
    apply List.map_congr_left
    intro p _
    exact up_mul hk p
  rw [e1, e2]
/-- a measure for all points -/
def Good (ps : List D) (S : Int) : Prop := 0 < S ∧ ∀ p, p ∈ ps → (ptOf p).2.1 ∣ S ∧ (ptOf p).2.2.2 ∣ S
theorem good_mul {ps : List D} {S k : Int} (h : Good ps S) (hk : 0 < k) : ps.map (scl (k * S)) = (ps.map (scl S)).map (mulP k) := by
  rw [List.map_map]
  apply List.map_congr_left
  intro p hp
  obtain ⟨h1, h2⟩ := h.2 p hp
  show scl (k * S) p = mulP k (scl S p)
  unfold scl mulP
  rw [Int.mul_ediv_assoc _ h1, Int.mul_ediv_assoc _ h2]
  congr 1 <;> exact Int.mul_left_comm ..
theorem good_same {ps : List D} {S T : Int} (h : Good ps S) (k : Good ps T) : goesP (ps.map (scl S)) = goesP (ps.map (scl T)) := by
  rw [← goes_mul k.1 (ps.map (scl S)), ← good_mul h k.1, ← goes_mul h.1 (ps.map (scl T)), ← good_mul k h.1, Int.mul_comm]
/-- the law's judgement -/
def Judge (s : Int) (d : D) (b : Bool) : Prop := (∃ ps, d = .tup ps ∧ (ps.length : Int) = s ∧ ps.all isPtB = true ∧ ∃ S, Good ps S ∧ b = goesP (ps.map (scl S))) ∨ ((¬ ∃ ps, d = .tup ps ∧ (ps.length : Int) = s ∧ ps.all isPtB = true) ∧ b = false)
theorem Judge.uniq {s : Int} {d : D} {b c : Bool} (h : Judge s d b) (k : Judge s d c) : b = c := by
  rcases h with ⟨ps, rfl, h1, h2, S, h3, rfl⟩ | ⟨h1, rfl⟩
  · rcases k with ⟨qs, e, k1, k2, T, k3, rfl⟩ | ⟨k1, rfl⟩
    · cases e
      exact good_same h3 k3
    · exact absurd ⟨ps, rfl, h1, h2⟩ k1
  · rcases k with ⟨qs, e, k1, k2, T, k3, rfl⟩ | ⟨k1, rfl⟩
    · exact absurd ⟨qs, e, k1, k2⟩ h1
    · rfl
theorem judge_ok {n : Nat} (hn : n ≤ 2000) {s : Int} {d : D} (v : Val n d) (h3 : 3 ≤ s) (h8 : s ≤ 8) (hl : tlen d < 500) : ∃ b, m__law_is_frame [.int s, d] = some (.bl b) ∧ Judge s d b := by
  have ht := isTy_tup v
  by_cases c1 : isTupB d = true
  · obtain ⟨ps, rfl⟩ : ∃ ps, d = .tup ps := by cases d <;> first | exact ⟨_, rfl⟩ | cases c1
    have hl' : ps.length < 500 := hl
    have hx : ∀ p, p ∈ ps → Val n p := by cases v with | tup hx _ => exact hx
    have e1 : dNotT (dB (dUn (isTy "tuple") (dVar 1))) [.dat (.int s), .dat (.tup ps), .un] = some (false, [.dat (.int s), .dat (.tup ps), .un]) := tv_not (b := true) (tv_b (ev_un rfl ht))
    by_cases c2 : (ps.length : Int) = s
    · have e2 : dB (dOp dNe (dCall dLen (dCons (dVar 1) (dNil))) (dVar 0)) [.dat (.int s), .dat (.tup ps), .un] = some (false, [.dat (.int s), .dat (.tup ps), .un]) := tv_b (ev_op (ev_call (ev_cons rfl rfl) rfl) rfl (by rw [dNe_int, decide_eq_true c2]; rfl))
      have e3 := all_ok (m := m__law_is_point) (p := isPtB) (ps := ps) (i := 2) (j := 1) (ρ := [.dat (.int s), .dat (.tup ps), .un]) rfl rfl (fun d hd => ispoint_ok (hx d hd) hn) (by omega)
      by_cases c3 : ps.all isPtB = true
      · rw [c3] at e3
        have hp : ∀ p, p ∈ ps → PtD n p := fun p hp => pt_of (List.all_eq_true.mp c3 p hp) (hx p hp)
        obtain ⟨S, hS, hd, hw, hb⟩ := whole_ok hn hp (by omega)
        have hg := goes_ok (W := ps.map (scl S)) (M := 410000) (by rw [List.length_map]; omega) (by rw [List.length_map]; omega) hb (by decide)
        refine ⟨goesP (ps.map (scl S)), run_of rfl (ρ := [.dat (.int s), .dat (.tup ps), .un]) (sv_seq (sv_ifF (tv_orF e1 (tv_orF e2 (tv_not (b := true) (tv_b e3)))) rfl) (sv_ret (ev_call (ev_cons (ev_call (ev_cons rfl rfl) hw) rfl) hg))), .inl ⟨ps, rfl, c2, c3, S, ⟨hS, hd⟩, rfl⟩⟩
      · have c3' := Bool.eq_false_iff.mpr c3
        rw [c3'] at e3
        refine ⟨false, run_of rfl (ρ := [.dat (.int s), .dat (.tup ps), .un]) (sv_seqR (sv_ifT (tv_orF e1 (tv_orF e2 (tv_not (b := false) (tv_b e3)))) (sv_ret rfl))), .inr ⟨fun ⟨qs, e, _, k⟩ => ?_, rfl⟩⟩
        cases e
        exact c3 k
    · have e2 : dB (dOp dNe (dCall dLen (dCons (dVar 1) (dNil))) (dVar 0)) [.dat (.int s), .dat (.tup ps), .un] = some (true, [.dat (.int s), .dat (.tup ps), .un]) := tv_b (ev_op (ev_call (ev_cons rfl rfl) rfl) rfl (by rw [dNe_int, decide_eq_false c2]; rfl))
      refine ⟨false, run_of rfl (ρ := [.dat (.int s), .dat (.tup ps), .un]) (sv_seqR (sv_ifT (tv_orF e1 (tv_orT e2)) (sv_ret rfl))), .inr ⟨fun ⟨qs, e, k, _⟩ => ?_, rfl⟩⟩
      cases e
      exact c2 k
  · have c1' := Bool.eq_false_iff.mpr c1
    rw [c1'] at ht
    refine ⟨false, run_of rfl (ρ := [.dat (.int s), .dat d, .un]) (sv_seqR (sv_ifT (tv_orT (tv_not (b := false) (tv_b (ev_un rfl ht)))) (sv_ret rfl))), .inr ⟨fun ⟨qs, e, _, _⟩ => ?_, rfl⟩⟩
    subst e
    exact c1 rfl
end K18

set_option Elab.async false
set_option linter.all false
set_option maxRecDepth 100000
set_option maxHeartbeats 4000000
namespace K18
open PySem Dn
/-! ### what the law asks of the program -/
def plainD (s : Int) : D := .tup ((List.range s.toNat).map fun j => .tup [.tup [.int (j : Nat), .int 1], .tup [.int ((j : Nat) * (j : Nat)), .int 1]])
def isSidesB : D → Bool
  | .int i => decide (3 ≤ i) && decide (i ≤ 8)
  | _ => false
structure Prog : Prop where
  frame : ∀ (s : Int) (d : D), 3 ≤ s → s ≤ 8 → Val 1662 d → tlen d < 500 → ∃ b, m_is_frame [.int s, d] = some (.bl b) ∧ Judge s d b
  plain : ∀ s : Int, 3 ≤ s → s ≤ 8 → m_plain_frame [.int s] = some (plainD s)
  refuse : ∀ d, Val 1662 d → isSidesB d = false → mE_plain_frame [d] = some (.er "NoSides" none)
/-! ### same -/
theorem same_int (k : Nat) (i : Int) : r__law_same (k + 1) [.int i, .int i] = some (.bl true) := by
  have e : dEq (.int i) (.int i) = some (.bl true) := by rw [dEq_int]; simp
  refine run_of rfl (ρ := [.dat (.int i), .dat (.int i), .un, .un]) ?_
  refine sv_seq (sv_ifF (tv_b (ev_un rfl rfl)) rfl) (sv_seq (sv_ifF (tv_b (ev_op rfl rfl rfl)) rfl) (sv_seq (sv_ifF (tv_b (ev_un rfl rfl)) rfl) (sv_ret ?_)))
  have h1 : dUn (isTy "int") (dVar 0) [.dat (.int i), .dat (.int i), .un, .un] = some (.bl true, [.dat (.int i), .dat (.int i), .un, .un]) := ev_un rfl rfl
  have h2 : dNotV (dUn (isTy "bool") (dVar 0)) [.dat (.int i), .dat (.int i), .un, .un] = some (.bl true, [.dat (.int i), .dat (.int i), .un, .un]) := rfl
  have h3 : dOp dEq (dVar 0) (dVar 1) [.dat (.int i), .dat (.int i), .un, .un] = some (.bl true, [.dat (.int i), .dat (.int i), .un, .un]) := ev_op rfl rfl e
  show dAndV (dUn (isTy "int") (dVar 0)) (dAndV (dNotV (dUn (isTy "bool") (dVar 0))) (dOp dEq (dVar 0) (dVar 1))) [.dat (.int i), .dat (.int i), .un, .un] = _
  unfold dAndV
  rw [h1]
  dsimp only
  rw [h2]
  exact h3
def sameB (rec : List D → Option D) : FS := dIf (dNotT (dB (dCall rec (dCons (dVar 2) (dCons (dVar 3) (dNil)))))) (dRet (dC (.bl false))) (dNext)
theorem same_loop {k : Nat} {a b : Sl} : ∀ (xs : List D) (s2 s3 : Sl), isDat (some s2) = true → isDat (some s3) = true → (∀ x, x ∈ xs → r__law_same k [x, x] = some (.bl true)) →
    ∃ t2 t3, forL (gTupD (gsCons (gSet 2) (gsCons (gSet 3) (gsNil))) 2) (sameB (r__law_same k)) (zipD xs xs) [a, b, s2, s3] = some (.nx, [a, b, t2, t3])
  | [], s2, s3, _, _, _ => ⟨s2, s3, rfl⟩
  | x :: xs, s2, s3, h2, h3, h => by
    obtain ⟨t2, t3, hl⟩ := same_loop (k := k) (a := a) (b := b) xs (.dat x) (.dat x) rfl rfl (fun y hy => h y (by simp [hy]))
    refine ⟨t2, t3, ?_⟩
    have hz : zipD (x :: xs) (x :: xs) = .tup [x, x] :: zipD xs xs := rfl
    have g : gTupD (gsCons (gSet 2) (gsCons (gSet 3) (gsNil))) 2 (.tup [x, x]) [a, b, s2, s3] = some [a, b, .dat x, .dat x] := by
      have g2 : gSet 2 x [a, b, s2, s3] = some [a, b, .dat x, s3] := by unfold gSet; exact if_pos h2
      have g3 : gSet 3 x [a, b, .dat x, s3] = some [a, b, .dat x, .dat x] := by unfold gSet; exact if_pos h3
      unfold gTupD
      show (if [x, x].length = 2 then gsCons (gSet 2) (gsCons (gSet 3) gsNil) [x, x] [a, b, s2, s3] else none) = _
      rw [if_pos (show [x, x].length = 2 from rfl)]
      unfold gsCons
      dsimp only
      rw [g2]
      dsimp only
      rw [g3]
      rfl
    rw [hz]
    exact for_nx g (sv_ifF (tv_not (b := true) (tv_b (ev_call (ev_cons rfl (ev_cons rfl rfl)) (h x (by simp))))) rfl) hl
theorem same_tup (k : Nat) {xs : List D} (h : ∀ x, x ∈ xs → r__law_same k [x, x] = some (.bl true)) : r__law_same (k + 1) [.tup xs, .tup xs] = some (.bl true) := by
  obtain ⟨t2, t3, hl⟩ := same_loop (a := .dat (.tup xs)) (b := .dat (.tup xs)) xs .un .un rfl rfl h
  refine run_of rfl (ρ := [.dat (.tup xs), .dat (.tup xs), t2, t3]) ?_
  refine sv_seqR (sv_ifT (tv_b (ev_un rfl rfl)) (sv_seq (sv_ifF (tv_orF (tv_not (b := true) (tv_b (ev_un rfl rfl))) (tv_b (ev_op (ev_call (ev_cons rfl rfl) rfl) (ev_call (ev_cons rfl rfl) rfl) ?_))) rfl) (sv_seq (sv_for rfl hl) (sv_ret rfl))))
  rw [dNe_int]
  simp
theorem same_plain (s : Int) : m__law_same [plainD s, plainD s] = some (.bl true) := by
  refine same_tup 5 fun x hx => ?_
  obtain ⟨j, _, rfl⟩ := List.mem_map.mp hx
  refine same_tup 4 fun x hx => ?_
  simp only [List.mem_cons, List.not_mem_nil, or_false] at hx
  rcases hx with rfl | rfl
  · refine same_tup 3 fun x hx => ?_
    simp only [List.mem_cons, List.not_mem_nil, or_false] at hx
    rcases hx with rfl | rfl <;> exact same_int 2 _
  · refine same_tup 3 fun x hx => ?_
    simp only [List.mem_cons, List.not_mem_nil, or_false] at hx
    rcases hx with rfl | rfl <;> exact same_int 2 _
/-! ### the plain frame is one -/
theorem plain_val (s : Int) (h3 : 3 ≤ s) (h8 : s ≤ 8) : Val 1662 (plainD s) ∧ tlen (plainD s) < 500 := by
  refine ⟨.tup (fun x hx => ?_) (by simp; omega), by simp [plainD, tlen]; omega⟩
  obtain ⟨j, hj, rfl⟩ := List.mem_map.mp hx
  have hj := List.mem_range.mp hj
  have s1 : Sm 4 ((j : Nat) : Int) := Sm.of (by omega) (by omega)
  have one : Val 1662 (.int 1) := .int (Sm.up (n := 2) (Sm.lit (by decide)) (by decide))
  exact .tup2 (.tup2 (.int (s1.up (by decide))) one) (.tup2 (.int ((s1.mul s1).up (by decide))) one)
theorem plain_judge {s : Int} {b : Bool} (h3 : 3 ≤ s) (h8 : s ≤ 8) (h : Judge s (plainD s) b) : b = true := by
  have hc : s = 3 ∨ s = 4 ∨ s = 5 ∨ s = 6 ∨ s = 7 ∨ s = 8 := by omega
  have key : Judge s (plainD s) true := by
    refine .inl ⟨_, rfl, ?_, ?_, 1, ⟨by decide, ?_⟩, ?_⟩
    · rcases hc with rfl | rfl | rfl | rfl | rfl | rfl <;> decide
    · rcases hc with rfl | rfl | rfl | rfl | rfl | rfl <;> decide +kernel
    · intro p hp
      obtain ⟨j, _, rfl⟩ := List.mem_map.mp hp
      exact ⟨⟨1, rfl⟩, ⟨1, rfl⟩⟩
    · rcases hc with rfl | rfl | rfl | rfl | rfl | rfl <;> decide +kernel
  exact h.uniq key
end K18

set_option Elab.async false
set_option linter.all false
set_option maxRecDepth 100000
set_option maxHeartbeats 4000000
namespace K18
open PySem PySem.Spec PyProof.Rows L2 Dn
noncomputable section
def loose0 : List Str := ["__name__", "StrokeError", "NoSides", "NoFrame", "NoWeights", "is_integer", "is_row", "FEWEST_SIDES", "MOST_SIDES", "are_sides", "is_fraction", "is_point", "are_points", "over_one_bottom", "stretched", "turn", "is_frame", "is_side", "plain_frame", "_law_hat", "_law_draw", "_law_same", "_law_any", "_law_gcd", "_law_fraction", "_law_frame", "_law_whole", "_law_way", "_law_cross", "_law_rounds_once"]
def loose1 : List Str := ["_law_goes_round", "_law_is_int", "_law_is_fraction", "_law_is_point", "_law_is_frame", "_law_middle", "_law_long", "_law_bad_fraction", "_law_spoilt", "_law_refused", "_law_plain_right", "_law_thing"]
def loose : List Str := loose0 ++ loose1
abbrev R : PySem.W.OpenRow := PySem.W.OpenLaw.row PySem.Challenge.rw_threeexits_k18_frames_judged
abbrev hk : PySem.W.Hook := hookX 4 fa fn xs
def ob (s : PySem.W.SharedT) : He.AlD × Bool := obsXG 4 fa fn xs (HandSHeadRun.getT s)
theorem ob_eq (s : PySem.W.SharedT) : ob s = hk.obs s.abs := obsXG_eq (HandSHeadRun.getT_eq s)
theorem toprun (w : World) : HandSHeadRun.RunEqI R (PySem.W.view R.prog [0, 48]) hk ob 20000 loose w := by
  unfold HandSHeadRun.RunEqI
  kernel_rfl
end
end K18
section
open PySem PySem.W PySem.Calls PyProof.Rows
theorem K18.holds (pure : ∀ (K : PySem.W.Frag) (ns : List Int), ns.length ≤ 63 → K18.m_law K [.frl K ns] = some (.bl true)) : PySem.Challenge.rw_threeexits_k18_frames_judged.Holds := by
  w_on; o_law
  refine HandSHeadRun.head_imp (r := OpenLaw.row PySem.Challenge.rw_threeexits_k18_frames_judged) (q := view (OpenLaw.row PySem.Challenge.rw_threeexits_k18_frames_judged).prog [0, 48]) (H := K18.hk) (ob := K18.ob) (M := 20000) (loose := K18.loose) (d := HandSHeadRun.topDef (OpenLaw.row PySem.Challenge.rw_threeexits_k18_frames_judged).prog 48) (kwd := []) K18.ob_eq
    K18.toprun (by kernel_rfl) (by kernel_rfl) (by kernel_rfl) (by rfl) (by first | assumption | decide +kernel) (by decide +kernel) ⟨rfl, rfl, rfl, rfl, rfl, by decide +kernel⟩ ?hw ?hc
  case hw => w_witness2
  case hc =>
    refine L2.walk_ofE (l := PySem.Challenge.rw_threeexits_k18_frames_judged) (n := 63) (k := 9) (x := "_law_script") (CX := L2.CX0) rfl (by decide) (by kernel_rfl) ⟨rfl, by decide, by decide⟩ ?F (fun _ _ _ _ z => z)
    intro w mg fa h Y G hmg0
    obtain ⟨K, KX, c, e⟩ := Y
    have hmg : mg ("law" : PySem.Str) = some (.ref fa) := by
      have e : (HandSHeadRun.topDef (OpenLaw.row PySem.Challenge.rw_threeexits_k18_frames_judged).prog 48).name = ("law" : PySem.Str) := by kernel_rfl
      rw [← e]
      exact hmg0
    obtain ⟨f, fd, hf, hb, hF⟩ := K18.law_of (P := (PySem.Challenge.rw_threeexits_k18_frames_judged).prog) (w := w) KX G c e
    rw [hmg] at hf
    cases hf
    exact ⟨K, fd, _, KX, hb, fun H a ns hl hO hS => Dn.law_sp hO hS (pure K ns hl), fun base _ _ => hF base⟩
end

set_option Elab.async false
set_option linter.all false
set_option maxRecDepth 100000
set_option maxHeartbeats 4000000
namespace Dn
open PySem
theorem sv_try {i : Nat} {ca : Str → Option Bool} {b : FS} {hd : Str → Option (List (Str × D)) → FS} {ρ ρ1 ρ2 ρ3 ρ4 : DE} {c : Str} (h1 : b ρ = some (.ex c none, ρ1)) (h2 : ca c = some true) (h3 : unAt i ρ1 = some ρ2) (h4 : hd c none ρ2 = some (.nx, ρ3)) (h5 : unAt i ρ3 = some ρ4) : dTryAs i ca b hd ρ = some (.nx, ρ4) := by
  unfold dTryAs
  rw [h1]
  dsimp only
  rw [h2]
  dsimp only
  rw [if_pos (show plainX none = true from rfl), h3]
  dsimp only
  rw [h4]
  show (match unAt i ρ3 with
    | some ρ' => some (Fl.nx, ρ')
    | none => none) = _
  rw [h5]
end Dn
namespace K18
open PySem Dn
theorem refused_ok (Pg : Prog) {d : D} (v : Val 1662 d) (h : isSidesB d = false) : m__law_refused [d] = some (.lst [.bl true, .bl false, .bl false, .bl true]) := by
  have h1 := Pg.refuse d v h
  have hb : dExE mE_plain_frame (dCons (dVar 0) (dNil)) [.dat d, .dat .non, .un] = some (.ex "NoSides" none, [.dat d, .dat .non, .un]) := by
    unfold dExE
    rw [show dCons (dVar 0) dNil [.dat d, .dat .non, .un] = some ([d], [.dat d, .dat .non, .un]) from rfl]
    dsimp only
    rw [h1]
  have hca : caL [("NoSides", true)] "NoSides" = some true := by decide +kernel
  refine run_of rfl (ρ := [.dat d, .dat (.lst [.bl true, .bl false, .bl false, .bl true]), .un]) ?_
  have hh : ∀ g : FS, (if (PySem.Str.ofString "NoSides") = (PySem.Str.ofString "NoSides") then g else dNever) = g := fun g => if_pos rfl
  refine sv_seq (sv_asg rfl rfl) (sv_seq (sv_try (ρ2 := [.dat d, .dat .non, .un]) (ρ3 := [.dat d, .dat (.lst [.bl true, .bl false, .bl false, .bl true]), .un]) (ρ4 := [.dat d, .dat (.lst [.bl true, .bl false, .bl false, .bl true]), .un]) hb hca rfl ?_ rfl) (sv_ret rfl))
  dsimp only
  rw [hh]
  exact sv_asg (ev_lst rfl (by simp [lim])) rfl
theorem plain_right_ok (Pg : Prog) {st : List D} (hs : HatOk st) : ∃ st', m__law_plain_right st [none] = some (st', .bl true) ∧ HatOk st' := by
  obtain ⟨P, eP, sP⟩ : ∃ P : Int, dPow (.int 10) (.int 29) = some (.int P) ∧ Sm 100 P ∧ 8 < P := ⟨10 ^ 29, dPow_of (by decide), Sm.lit (by decide +kernel), by decide +kernel⟩
  obtain ⟨sP, pP⟩ := sP
  obtain ⟨st', d, e, hs', hd⟩ := any_ok hs (xs := [.int 2, .int 9, .int (-3), .int 0, .bl true, .non, .str (PySem.Str.ofString "4"), .tup [.int 4], .lst [.int 4], .int P, .int 3, .int 4, .int 5, .int 6, .int 7, .int 8]) (by simp) (by simp)
  have hg : dCallO 0 m__law_any (xOwn 0 (xDat (dLst (dCons (dC (.int 2)) (dCons (dC (.int 9)) (dCons (dUn dNeg (dC (.int 3))) (dCons (dC (.int 0)) (dCons (dC (.bl true)) (dCons (dC .non) (dCons (dC (.str (PySem.Str.ofString "4"))) (dCons (dTup (dCons (dC (.int 4)) (dNil))) (dCons (dLst (dCons (dC (.int 4)) (dNil))) (dCons (dOp dPow (dC (.int 10)) (dC (.int 29))) (dCons (dC (.int 3)) (dCons (dC (.int 4)) (dCons (dC (.int 5)) (dCons (dC (.int 6)) (dCons (dC (.int 7)) (dCons (dC (.int 8)) (dNil)))))))))))))))))) (xNil))) [.bor (.lst st), .un, .un, .un] = some (d, [.bor (.lst st'), .un, .un, .un]) :=
    ev_callO (ρ1 := [.bor (.lst st), .un, .un, .un]) (i := 0) rfl (ev_xown rfl (ev_xdat (ev_lst (ev_cons rfl (ev_cons rfl (ev_cons rfl (ev_cons rfl (ev_cons rfl (ev_cons rfl (ev_cons rfl (ev_cons (ev_tup rfl (by simp [lim])) (ev_cons (ev_lst rfl (by simp [lim])) (ev_cons (ev_op rfl rfl eP) rfl)))))))))) (by simp [lim])) rfl)) rfl rfl e
  have vd : Val 1662 d := by
    have z : ∀ i : Int, decide (i.natAbs < 2 ^ 8) = true → Val 1662 (.int i) := fun i h => .int (Sm.up (n := 8) (Sm.lit h) (by decide))
    simp at hd
    rcases hd with rfl | rfl | rfl | rfl | rfl | rfl | rfl | rfl | rfl | rfl | rfl | rfl | rfl | rfl | rfl | rfl
    · exact z _ (by decide)
    · exact z _ (by decide)
    · exact z _ (by decide)
    · exact z _ (by decide)
    · exact .bl _
    · exact .non
    · exact .str _
    · exact .tup1 (z _ (by decide))
    · exact .lst (fun x hx => by simp at hx; subst hx; exact z _ (by decide)) (by simp)
    · exact .int (sP.up (by decide))
    · exact z _ (by decide)
    · exact z _ (by decide)
    · exact z _ (by decide)
    · exact z _ (by decide)
    · exact z _ (by decide)
    · exact z _ (by decide)
  by_cases c : isSidesB d = true
  · obtain ⟨s, rfl⟩ : ∃ s, d = .int s := by cases d <;> first | exact ⟨_, rfl⟩ | cases c
    obtain ⟨c1, c2⟩ := Bool.and_eq_true_iff.mp (show (decide (3 ≤ s) && decide (s ≤ 8)) = true from c)
    have h3 := of_decide_eq_true c1
    have h8 := of_decide_eq_true c2
    have hch : dB (dChain dLe dLe (dC (.int 3)) (dVar 1) (dC (.int 8))) [.bor (.lst st'), .dat (.int s), .un, .un] = some (true, [.bor (.lst st'), .dat (.int s), .un, .un]) := by
      refine tv_b ?_
      show (match some (D.bl (decide ((3 : Int) ≤ s))) with
        | some (.bl true) => (match some (D.bl (decide (s ≤ 8))) with
          | some d => some (d, [Sl.bor (.lst st'), .dat (.int s), .un, .un])
          | none => none)
        | some (.bl false) => some (.bl false, [Sl.bor (.lst st'), .dat (.int s), .un, .un])
        | _ => none) = _
      rw [c1, c2]
    have hlc : dLc (dRng1 (dCons (dVar 1) (dNil))) (gSet 3) (dYes) (dTup (dCons (dTup (dCons (dVar 3) (dCons (dC (.int 1)) (dNil)))) (dCons (dTup (dCons (dOp dMul (dVar 3) (dVar 3)) (dCons (dC (.int 1)) (dNil)))) (dNil)))) [3] [.bor (.lst st'), .dat (.int s), .un, .un] =
        some (.lst ((List.range s.toNat).map fun j => .tup [.tup [.int (j : Nat), .int 1], .tup [.int ((j : Nat) * (j : Nat)), .int 1]]), [.bor (.lst st'), .dat (.int s), .un, .un]) := by
      refine lc_rng (n := s.toNat) _ (by rw [Int.toNat_of_nonneg (by omega)]; rfl) (by omega) rfl fun j hj => ?_
      have sj : Sm 4 (j : Int) := Sm.of (by omega) (by omega)
      exact ev_tup (ev_cons (ev_tup (ev_cons rfl (ev_cons rfl rfl)) (by simp [lim])) (ev_cons (ev_tup (ev_cons (ev_op rfl rfl (dMul_sm sj sj)) (ev_cons rfl rfl)) (by simp [lim])) rfl)) (by simp [lim])
    obtain ⟨vp, lp⟩ := plain_val s h3 h8
    obtain ⟨b, hb, hj⟩ := Pg.frame s (plainD s) h3 h8 vp lp
    have hb1 := plain_judge h3 h8 hj
    subst hb1
    have hr : dAndV (dCall m__law_same (dCons (dCall m_plain_frame (dCons (dVar 1) (dNil))) (dCons (dVar 2) (dNil)))) (dOp dIsB (dCall m_is_frame (dCons (dVar 1) (dCons (dVar 2) (dNil)))) (dC (.bl true))) [.bor (.lst st'), .dat (.int s), .dat (plainD s), .un] = some (.bl true, [.bor (.lst st'), .dat (.int s), .dat (plainD s), .un]) := by
      have k1 : dCall m__law_same (dCons (dCall m_plain_frame (dCons (dVar 1) (dNil))) (dCons (dVar 2) (dNil))) [.bor (.lst st'), .dat (.int s), .dat (plainD s), .un] = some (.bl true, [.bor (.lst st'), .dat (.int s), .dat (plainD s), .un]) :=
        ev_call (ev_cons (ev_call (ev_cons rfl rfl) (Pg.plain s h3 h8)) (ev_cons rfl rfl)) (same_plain s)
      have k2 : dOp dIsB (dCall m_is_frame (dCons (dVar 1) (dCons (dVar 2) (dNil)))) (dC (.bl true)) [.bor (.lst st'), .dat (.int s), .dat (plainD s), .un] = some (.bl true, [.bor (.lst st'), .dat (.int s), .dat (plainD s), .un]) :=
        ev_op (ev_call (ev_cons rfl (ev_cons rfl rfl)) hb) rfl rfl
      unfold dAndV
      rw [k1]
      exact k2
    refine ⟨st', runB_of (ρ := [.bor (.lst st'), .dat (.int s), .dat (plainD s), .un]) rfl rfl (sv_seq (sv_asg hg rfl) (sv_seq (sv_ifF (tv_orF (tv_not (b := true) (tv_b (ev_un rfl rfl))) (tv_orF (tv_b (ev_un rfl rfl)) (tv_not (b := true) hch))) rfl) (sv_seq (sv_asg (ev_call (ev_cons hlc rfl) rfl) rfl) (sv_ret hr)))) rfl, hs'⟩
  · have c' := Bool.eq_false_iff.mpr c
    have hr := refused_ok Pg vd c'
    have he : dEq (.lst [.bl true, .bl false, .bl false, .bl true]) (.lst [.bl true, .bl false, .bl false, .bl true]) = some (.bl true) := by
      have e1 : SeqAt.shaped (.list [.bool true, .bool false, .bool false, .bool true]) = true := by decide +kernel
      have e2 : PyData.eqv (.list [.bool true, .bool false, .bool false, .bool true]) (.list [.bool true, .bool false, .bool false, .bool true]) = true := by decide +kernel
      show (if SeqAt.shaped (.list [.bool true, .bool false, .bool false, .bool true]) = true ∧ SeqAt.shaped (.list [.bool true, .bool false, .bool false, .bool true]) = true then some (D.bl (PyData.eqv (.list [.bool true, .bool false, .bool false, .bool true]) (.list [.bool true, .bool false, .bool false, .bool true]))) else none) = _
      rw [if_pos ⟨e1, e1⟩, e2]
    have hret : dRet (dOp dEq (dCall m__law_refused (dCons (dVar 1) (dNil))) (dLst (dCons (dC (.bl true)) (dCons (dC (.bl false)) (dCons (dC (.bl false)) (dCons (dC (.bl true)) (dNil))))))) [.bor (.lst st'), .dat d, .un, .un] = some (.rt (.bl true), [.bor (.lst st'), .dat d, .un, .un]) :=
      sv_ret (ev_op (ev_call (ev_cons rfl rfl) hr) (ev_lst rfl (by simp [lim])) he)
    have htest : (dOrT (dNotT (dB (dUn (isTy "int") (dVar 1)))) (dOrT (dB (dUn (isTy "bool") (dVar 1))) (dNotT (dB (dChain dLe dLe (dC (.int 3)) (dVar 1) (dC (.int 8))))))) [.bor (.lst st'), .dat d, .un, .un] = some (true, [.bor (.lst st'), .dat d, .un, .un]) := by
      cases vd with
      | non => exact tv_orT (tv_not (b := false) (tv_b (ev_un rfl rfl)))
      | str s => exact tv_orT (tv_not (b := false) (tv_b (ev_un rfl rfl)))
      | tup h _ => exact tv_orT (tv_not (b := false) (tv_b (ev_un rfl rfl)))
      | lst h _ => exact tv_orT (tv_not (b := false) (tv_b (ev_un rfl rfl)))
      | bl b => exact tv_orF (tv_not (b := true) (tv_b (ev_un rfl rfl))) (tv_orT (tv_b (ev_un rfl rfl)))
      | @int s hs =>
        refine tv_orF (tv_not (b := true) (tv_b (ev_un rfl rfl))) (tv_orF (tv_b (ev_un rfl rfl)) (tv_not (b := false) (tv_b ?_)))
        show (match some (D.bl (decide ((3 : Int) ≤ s))) with
          | some (.bl true) => (match some (D.bl (decide (s ≤ 8))) with
            | some d => some (d, [Sl.bor (.lst st'), .dat (.int s), .un, .un])
            | none => none)
          | some (.bl false) => some (.bl false, [Sl.bor (.lst st'), .dat (.int s), .un, .un])
          | _ => none) = _
        have c2 : (decide ((3 : Int) ≤ s) && decide (s ≤ 8)) = false := c'
        cases c3 : decide ((3 : Int) ≤ s) with
        | false => rfl
        | true =>
          rw [c3, Bool.true_and] at c2
          rw [c2]
    exact ⟨st', runB_of (ρ := [.bor (.lst st'), .dat d, .un, .un]) rfl rfl (sv_seq (sv_asg hg rfl) (sv_seqR (sv_ifT htest hret))) rfl, hs'⟩
/-! ### the law -/
noncomputable def lawB : FS := dSeq (dOwnCall 3 m__law_hat (dCons (dVar 2) (dCons (dVar 1) (dNil)))) (dSeq (dIf (dNotT (dB (dCallO 3 m__law_plain_right (xOwn 3 (xNil))))) (dRet (dC (.bl false))) (dNext)) (dSeq (dAsgG (dCallO 3 m__law_thing (xOwn 3 (xNil))) (gTupD (gsCons (gSet 4) (gsCons (gSet 5) (gsNil))) 2)) (dSeq (dAsg 6 (dCall m_is_frame (dCons (dVar 4) (dCons (dVar 5) (dNil))))) (dIf (dOrT (dNotT (dB (dUn (isTy "bool") (dVar 6)))) (dB (dOp dNe (dVar 6) (dCall m__law_is_frame (dCons (dVar 4) (dCons (dVar 5) (dNil))))))) (dRet (dC (.bl false))) (dNext)))))
theorem sv_ownCall {i : Nat} {m : List D → Option D} {k : FA} {ρ ρ1 ρ2 : DE} {ds st : List D} (h1 : k ρ = some (ds, ρ1)) (h2 : pureL ds = true) (h3 : m ds = some (.lst st)) (h4 : pureL st = true) (h5 : setOwn ρ1 i (.lst st) = some ρ2) : dOwnCall i m k ρ = some (.nx, ρ2) := by
  unfold dOwnCall
  rw [h1]
  dsimp only
  rw [if_pos h2, h3]
  dsimp only
  rw [if_pos h4, h5]
theorem law_loop (Pg : Prog) {A : Sl} : ∀ (ds : List D) (s1 s2 s3 s4 s5 s6 : Sl), isDat (some s1) = true → isDat (some s2) = true → (∀ o, s3 ≠ .bor o) → isDat (some s4) = true → isDat (some s5) = true → isDat (some s6) = true → (∀ d, d ∈ ds → ∃ k c : Int, d = .tup [.int k, .int c] ∧ 0 ≤ k ∧ k < 100000) →
    ∃ ρ', forL (gTupD (gsCons (gSet 1) (gsCons (gSet 2) (gsNil))) 2) lawB ds [A, s1, s2, s3, s4, s5, s6] = some (.nx, ρ')
  | [], s1, s2, s3, s4, s5, s6, _, _, _, _, _, _, _ => ⟨_, rfl⟩
  | d :: ds, s1, s2, s3, s4, s5, s6, i1, i2, i3, i4, i5, i6, h => by
    obtain ⟨k, c, rfl, k0, k1⟩ := h d (by simp)
    obtain ⟨st, e1, hs, ps⟩ := hat_ok c k ⟨k0, k1⟩
    obtain ⟨st1, e2, hs1⟩ := plain_right_ok Pg hs
    obtain ⟨st2, s', d', e3, hs2, a3, a8, v, l⟩ := thing_ok hs1
    obtain ⟨b, e4, j4⟩ := Pg.frame s' d' a3 a8 v l
    obtain ⟨b2, e5, j5⟩ := judge_ok (by decide) v a3 a8 l
    have hb := j4.uniq j5
    subst hb
    obtain ⟨ρ', hl⟩ := law_loop Pg (A := A) ds (.dat (.int k)) (.dat (.int c)) (.own (.lst st2)) (.dat (.int s')) (.dat d') (.dat (.bl b)) rfl rfl (fun o => by intro z; cases z) rfl rfl rfl (fun e he => h e (by simp [he]))
    refine ⟨ρ', ?_⟩
    have g : gTupD (gsCons (gSet 1) (gsCons (gSet 2) (gsNil))) 2 (.tup [.int k, .int c]) [A, s1, s2, s3, s4, s5, s6] = some [A, .dat (.int k), .dat (.int c), s3, s4, s5, s6] := by
      have g1 : gSet 1 (.int k) [A, s1, s2, s3, s4, s5, s6] = some [A, .dat (.int k), s2, s3, s4, s5, s6] := by unfold gSet; exact if_pos i1
      have g2 : gSet 2 (.int c) [A, .dat (.int k), s2, s3, s4, s5, s6] = some [A, .dat (.int k), .dat (.int c), s3, s4, s5, s6] := by unfold gSet; exact if_pos i2
      show (if [D.int k, D.int c].length = 2 then gsCons (gSet 1) (gsCons (gSet 2) gsNil) [.int k, .int c] [A, s1, s2, s3, s4, s5, s6] else none) = _
      rw [if_pos (show [D.int k, D.int c].length = 2 from rfl)]
      unfold gsCons
      dsimp only
      rw [g1]
      dsimp only
      rw [g2]
      rfl
    have o3 : setOwn [A, .dat (.int k), .dat (.int c), s3, s4, s5, s6] 3 (.lst st) = some [A, .dat (.int k), .dat (.int c), .own (.lst st), s4, s5, s6] := by
      cases s3 with
      | un => rfl
      | dat d => rfl
      | own o => rfl
      | bor o => exact absurd rfl (i3 o)
    have g45 : gTupD (gsCons (gSet 4) (gsCons (gSet 5) (gsNil))) 2 (.tup [.int s', d']) [A, .dat (.int k), .dat (.int c), .own (.lst st2), s4, s5, s6] = some [A, .dat (.int k), .dat (.int c), .own (.lst st2), .dat (.int s'), .dat d', s6] := by
      have g1 : gSet 4 (.int s') [A, .dat (.int k), .dat (.int c), .own (.lst st2), s4, s5, s6] = some [A, .dat (.int k), .dat (.int c), .own (.lst st2), .dat (.int s'), s5, s6] := by unfold gSet; exact if_pos i4
      have g2 : gSet 5 d' [A, .dat (.int k), .dat (.int c), .own (.lst st2), .dat (.int s'), s5, s6] = some [A, .dat (.int k), .dat (.int c), .own (.lst st2), .dat (.int s'), .dat d', s6] := by unfold gSet; exact if_pos i5
      show (if [D.int s', d'].length = 2 then gsCons (gSet 4) (gsCons (gSet 5) gsNil) [.int s', d'] [A, .dat (.int k), .dat (.int c), .own (.lst st2), s4, s5, s6] else none) = _
      rw [if_pos (show [D.int s', d'].length = 2 from rfl)]
      unfold gsCons
      dsimp only
      rw [g1]
      dsimp only
      rw [g2]
      rfl
    have s6' : setDat [A, .dat (.int k), .dat (.int c), .own (.lst st2), .dat (.int s'), .dat d', s6] 6 (.bl b) = some [A, .dat (.int k), .dat (.int c), .own (.lst st2), .dat (.int s'), .dat d', .dat (.bl b)] := by
      cases s6 with
      | un => rfl
      | dat d => rfl
      | own o => cases i6
      | bor o => cases i6
    have hne : dNe (.bl b) (.bl b) = some (.bl false) := by
      have hsh : SeqAt.shaped (PyData.bool b) = true := by cases b <;> rfl
      have heq : (!PyData.eqv (.bool b) (.bool b)) = false := by cases b <;> rfl
      show (if SeqAt.shaped (PyData.bool b) = true ∧ SeqAt.shaped (PyData.bool b) = true then some (D.bl (!PyData.eqv (.bool b) (.bool b))) else none) = _
      rw [if_pos ⟨hsh, hsh⟩, heq]
    have hc1 : dCallO 3 m__law_plain_right (xOwn 3 (xNil)) [A, .dat (.int k), .dat (.int c), .own (.lst st), s4, s5, s6] = some (.bl true, [A, .dat (.int k), .dat (.int c), .own (.lst st1), s4, s5, s6]) := ev_callO (ρ1 := [A, .dat (.int k), .dat (.int c), .own (.lst st), s4, s5, s6]) (i := 3) rfl (ev_xown rfl rfl) rfl rfl e2
    have hc2 : dCallO 3 m__law_thing (xOwn 3 (xNil)) [A, .dat (.int k), .dat (.int c), .own (.lst st1), s4, s5, s6] = some (.tup [.int s', d'], [A, .dat (.int k), .dat (.int c), .own (.lst st2), s4, s5, s6]) := ev_callO (ρ1 := [A, .dat (.int k), .dat (.int c), .own (.lst st1), s4, s5, s6]) (i := 3) rfl (ev_xown rfl rfl) rfl rfl e3
    exact for_nx g (sv_seq (sv_ownCall (ev_cons rfl (ev_cons rfl rfl)) rfl e1 ps o3) (sv_seq (sv_ifF (tv_not (b := true) (tv_b hc1)) rfl) (sv_seq (sv_asgG hc2 g45) (sv_seq (sv_asg (ev_call (ev_cons rfl (ev_cons rfl rfl)) e4) s6')
      (sv_ifF (tv_orF (tv_not (b := true) (tv_b (ev_un rfl rfl))) (tv_b (ev_op rfl (ev_call (ev_cons rfl (ev_cons rfl rfl)) e5) hne))) rfl))))) hl
theorem law_pure (Pg : Prog) (K : PySem.W.Frag) (ns : List Int) (hl : ns.length ≤ 63) : m_law K [.frl K ns] = some (.bl true) := by
  have hL : dListF K [.frl K ns] = some (.lst (ns.map D.int)) := by
    unfold dListF
    exact if_pos rfl
  have hm : ∀ d, d ∈ enumD (ns.map D.int ++ [.int 3, .int 15, .int 42]) → ∃ k c : Int, d = .tup [.int k, .int c] ∧ 0 ≤ k ∧ k < 100000 := by
    intro d hd
    unfold enumD at hd
    rw [List.mem_mapIdx] at hd
    obtain ⟨i, hi, rfl⟩ := hd
    have e : ns.map D.int ++ [.int 3, .int 15, .int 42] = (ns ++ [3, 15, 42]).map D.int := by simp
    have hi2 : i < (ns ++ [3, 15, 42]).length := by simpa using hi
    refine ⟨i, (ns ++ [3, 15, 42])[i], ?_, by omega, by simp at hi; omega⟩
    congr 2
    simp only [e, List.getElem_map]
  obtain ⟨ρ', h⟩ := law_loop Pg (A := .dat (.frl K ns)) (enumD (ns.map D.int ++ [.int 3, .int 15, .int 42])) .un .un .un .un .un .un rfl rfl (fun o => by intro z; cases z) rfl rfl rfl hm
  have hen : dEnum (dCons (dOp dAdd (dCall (dListF K) (dCons (dVar 0) (dNil))) (dLst (dCons (dC (.int 3)) (dCons (dC (.int 15)) (dCons (dC (.int 42)) (dNil)))))) (dNil)) [.dat (.frl K ns), .un, .un, .un, .un, .un, .un] = some (enumD (ns.map D.int ++ [.int 3, .int 15, .int 42]), [.dat (.frl K ns), .un, .un, .un, .un, .un, .un]) := by
    have : dCons (dOp dAdd (dCall (dListF K) (dCons (dVar 0) (dNil))) (dLst (dCons (dC (.int 3)) (dCons (dC (.int 15)) (dCons (dC (.int 42)) (dNil)))))) (dNil) [.dat (.frl K ns), .un, .un, .un, .un, .un, .un] = some ([.lst (ns.map D.int ++ [.int 3, .int 15, .int 42])], [.dat (.frl K ns), .un, .un, .un, .un, .un, .un]) :=
      ev_cons (ev_op (ev_call (ev_cons rfl rfl) hL) (ev_lst rfl (by simp [lim])) (add_lst (by simp [lim]; omega))) rfl
    unfold dEnum
    rw [this]
  refine run_of rfl (ρ := ρ') ?_
  exact sv_seq (sv_for hen h) (sv_ret rfl)
end K18
theorem K18.holds2 (Pg : K18.Prog) : PySem.Challenge.rw_threeexits_k18_frames_judged.Holds := K18.holds (K18.law_pure Pg)

set_option Elab.async false
set_option linter.all false
set_option maxRecDepth 100000
/-! Rounds walked from another start. -/
namespace K18
theorem count_shift1 (n : Nat) (g : Nat → Bool) : (List.range n).countP (fun i => g ((i + 1) % n)) = (List.range n).countP g := by
  cases n with
  | zero => rfl
  | succ m =>
    have e1 : (List.range (m + 1)).countP (fun i => g ((i + 1) % (m + 1))) = (List.range m).countP (fun i => g (i + 1)) + (if g 0 = true then 1 else 0) := by
      rw [List.range_succ, List.countP_append]
      congr 1
      · apply List.countP_congr
        intro i hi
        have := List.mem_range.mp hi
        rw [Nat.mod_eq_of_lt (by omega)]
      · rw [List.countP_cons, List.countP_nil, Nat.mod_self]
        simp
    have e2 : (List.range (m + 1)).countP g = (List.range m).countP (fun i => g (i + 1)) + (if g 0 = true then 1 else 0) := by
      rw [List.range_succ_eq_map, List.countP_cons, List.countP_map]
      rfl
    rw [e1, e2]
theorem count_shift (n : Nat) (g : Nat → Bool) : ∀ c : Nat, (List.range n).countP (fun i => g ((i + c) % n)) = (List.range n).countP g
  | 0 => by
    apply List.countP_congr
    intro i hi
    have := List.mem_range.mp hi
    rw [Nat.add_zero, Nat.mod_eq_of_lt this]
  | c + 1 => by
    rw [← count_shift n g c, ← count_shift1 n (fun i => g ((i + c) % n))]
    apply List.countP_congr
    intro i hi
    have hn := List.mem_range.mp hi
    have e : (i + (c + 1)) % n = ((i + 1) % n + c) % n := by
      rw [Nat.mod_add_mod]
      congr 1
      omega
    rw [e]
theorem all_shift (n : Nat) (g : Nat → Bool) (c : Nat) : (List.range n).all (fun i => g ((i + c) % n)) = (List.range n).all g := by
  have h : ∀ f : Nat → Bool, (List.range n).all f = decide ((List.range n).countP f = n) := fun f => by
    by_cases q : (List.range n).all f = true
    · rw [q, eq_comm, decide_eq_true_eq]
      have := List.countP_eq_length.mpr (fun a ha => List.all_eq_true.mp q a ha)
      rw [List.length_range] at this
      exact this
    · rw [Bool.eq_false_iff.mpr q, eq_comm, decide_eq_false_iff_not]
      intro k
      apply q
      rw [List.all_eq_true]
      have : (List.range n).countP f = (List.range n).length := by rw [List.length_range]; exact k
      exact fun a ha => List.countP_eq_length.mp this a ha
  rw [h, h, count_shift]
/-- flags of a round begun elsewhere begin as often -/
theorem begins_eq (us : List Bool) : begins us = (List.range us.length).countP (fun i => us.getD i false && !us.getD ((i + us.length - 1) % us.length) false) := by
  unfold begins
  rw [List.countP_eq_length_filter]
/-- by a way of counting: u i the flag of way i, n ways, counted round -/
def beginsF (n : Nat) (u : Nat → Bool) : Nat := (List.range n).countP fun i => u i && !u ((i + n - 1) % n)
theorem beginsF_shift (n : Nat) (u : Nat → Bool) (hu : ∀ i, u (i % n) = u i) (c : Nat) : beginsF n (fun i => u (i + c)) = beginsF n u := by
  cases n with
  | zero => rfl
  | succ m =>
    unfold beginsF
    rw [← count_shift (m + 1) (fun i => u i && !u ((i + (m + 1) - 1) % (m + 1))) c]
    apply List.countP_congr
    intro i hi
    have e1 : u ((i + c) % (m + 1)) = u (i + c) := hu _
    have e2 : u (((i + c) % (m + 1) + (m + 1) - 1) % (m + 1)) = u ((i + (m + 1) - 1) % (m + 1) + c) := by
      rw [hu, ← hu ((i + (m + 1) - 1) % (m + 1) + c), Nat.mod_add_mod, ← hu ((i + c) % (m + 1) + (m + 1) - 1)]
      congr 1
      have k1 : (i + c) % (m + 1) + (m + 1) - 1 = (i + c) % (m + 1) + m := by omega
      have k2 : i + (m + 1) - 1 + c = (i + c) + m := by omega
      rw [k1, k2, Nat.mod_add_mod]
    rw [e1, e2]
/-- the sign of a cross of ways, told in fractions: S * t = D * b each -/
theorem cross_sign {S rt rb ot ob ut ub nt nb R O U N : Int} (hS : 0 < S) (b1 : 0 < rb) (b2 : 0 < ob) (b3 : 0 < ub) (b4 : 0 < nb) (h1 : S * rt = R * rb) (h2 : S * ot = O * ob) (h3 : S * ut = U * ub) (h4 : S * nt = N * nb) :
    decide (0 < rt * ot * (ub * nb) - ut * nt * (rb * ob)) = decide (0 < R * O - U * N) := by
  have e : S * (S * (rt * ot * (ub * nb) - ut * nt * (rb * ob))) = (rb * ob * (ub * nb)) * (R * O - U * N) := by
    have a1 : S * (S * (rt * ot * (ub * nb))) = (S * rt) * (S * ot) * (ub * nb) := by grind
    have a2 : S * (S * (ut * nt * (rb * ob))) = (S * ut) * (S * nt) * (rb * ob) := by grind
    rw [Int.mul_sub, Int.mul_sub, a1, a2, h1, h2, h3, h4]
    grind
  have hp : 0 < rb * ob * (ub * nb) := Int.mul_pos (Int.mul_pos b1 b2) (Int.mul_pos b3 b4)
  rw [← pos_mul hS, ← pos_mul hS, e, pos_mul hp]
end K18

set_option Elab.async false
set_option linter.all false
set_option maxRecDepth 100000
/-! The law's judgement in the form that any walk round can be brought to. -/
namespace K18
/-- the way from corner i to the next one, counted round -/
def wayF (W : List (Int × Int)) (i : Nat) : Int × Int := subP (W.getD ((i + 1) % W.length) (0, 0)) (W.getD (i % W.length) (0, 0))
theorem wayF_mod (W : List (Int × Int)) (i : Nat) : wayF W (i % W.length) = wayF W i := by
  unfold wayF
  rw [Nat.mod_mod, Nat.mod_add_mod]
theorem waysP_eq (W : List (Int × Int)) : waysP W = (List.range W.length).map (wayF W) := by
  unfold waysP
  apply List.map_congr_left
  intro i hi
  have := List.mem_range.mp hi
  unfold wayF
  rw [Nat.mod_eq_of_lt this]
theorem waysP_len (W : List (Int × Int)) : (waysP W).length = W.length := by rw [waysP_eq]; simp
theorem waysP_get {W : List (Int × Int)} {i : Nat} (h : i < W.length) : (waysP W).getD i (0, 0) = wayF W i := by
  rw [waysP_eq, List.getD_eq_getElem?_getD, List.getElem?_map, List.getElem?_range h]
  rfl
theorem left_nf (W : List (Int × Int)) : leftP (waysP W) = (List.range W.length).all fun i => decide (0 < crossP (wayF W i) (wayF W (i + 1))) := by
  by_cases h0 : W.length = 0
  · unfold leftP
    rw [waysP_len, h0]
    rfl
  · have e : leftP (waysP W) = (List.range W.length).all fun i => decide (0 < crossP (wayF W ((i + (W.length - 1)) % W.length)) (wayF W ((i + (W.length - 1)) % W.length + 1))) := by
      unfold leftP
      rw [waysP_len]
      rw [Bool.eq_iff_iff, List.all_eq_true, List.all_eq_true]
      have hq : ∀ i, i ∈ List.range W.length → (decide (0 < crossP ((waysP W).getD ((i + W.length - 1) % W.length) (0, 0)) ((waysP W).getD i (0, 0))) = decide (0 < crossP (wayF W ((i + (W.length - 1)) % W.length)) (wayF W ((i + (W.length - 1)) % W.length + 1)))) := fun i hi => by
        have hi := List.mem_range.mp hi
        have hp : (i + W.length - 1) % W.length < W.length := Nat.mod_lt _ (by omega)
        rw [waysP_get hi, waysP_get hp]
        have e1 : i + W.length - 1 = i + (W.length - 1) := by omega
        have e2 : wayF W ((i + (W.length - 1)) % W.length + 1) = wayF W i := by
          rw [← wayF_mod W ((i + (W.length - 1)) % W.length + 1), Nat.mod_add_mod]
          have : i + (W.length - 1) + 1 = i + W.length := by omega
          rw [this, Nat.add_mod_right, wayF_mod]
        rw [e1, e2]
      exact ⟨fun h i hi => (hq i hi) ▸ h i hi, fun h i hi => (hq i hi).symm ▸ h i hi⟩
    rw [e, all_shift W.length (fun j => decide (0 < crossP (wayF W j) (wayF W (j + 1)))) (W.length - 1)]
theorem begins_nf (W : List (Int × Int)) : begins ((waysP W).map upP) = beginsF W.length fun i => upP (wayF W i) := by
  rw [begins_eq, List.length_map, waysP_len]
  unfold beginsF
  apply List.countP_congr
  intro i hi
  have hi := List.mem_range.mp hi
  have hp : (i + W.length - 1) % W.length < W.length := Nat.mod_lt _ (by omega)
  have g : ∀ j, j < W.length → ((waysP W).map upP).getD j false = upP (wayF W j) := fun j hj => by
    rw [waysP_eq, List.map_map, List.getD_eq_getElem?_getD, List.getElem?_map, List.getElem?_range hj]
    rfl
  rw [g i hi, g _ hp]
theorem goes_nf (W : List (Int × Int)) : goesP W = ((List.range W.length).all (fun i => decide (0 < crossP (wayF W i) (wayF W (i + 1)))) && decide (beginsF W.length (fun i => upP (wayF W i)) = 1)) := by
  unfold goesP
  rw [begins_nf, ← left_nf]
  cases hz : (waysP W).any zeroP with
  | false => rfl
  | true =>
    obtain ⟨p, hp, hz⟩ := List.any_eq_true.mp hz
    rw [waysP_eq] at hp
    obtain ⟨i, hi, rfl⟩ := List.mem_map.mp hp
    have hl : leftP (waysP W) = false := by
      rw [left_nf]
      rw [Bool.eq_false_iff]
      intro h
      have := of_decide_eq_true (List.all_eq_true.mp h i hi)
      unfold zeroP at hz
      rw [Bool.and_eq_true] at hz
      have z1 := of_decide_eq_true hz.1
      have z2 := of_decide_eq_true hz.2
      unfold crossP at this
      rw [z1, z2] at this
      simp at this
    rw [hl]
    rfl
end K18

set_option Elab.async false
set_option linter.all false
/-! Closed walks that turn left at each corner and go once round are just those in which each side has all other corners to its left. -/
namespace Poly
abbrev V2 := Int × Int
def cr (p q : V2) : Int := p.1 * q.2 - p.2 * q.1
def sb (p q : V2) : V2 := (p.1 - q.1, p.2 - q.2)
def ng (p : V2) : V2 := (-p.1, -p.2)
def Up (p : V2) : Prop := 0 < p.2 ∨ (p.2 = 0 ∧ 0 < p.1)
theorem Up.ge {p : V2} (h : Up p) : 0 ≤ p.2 := by unfold Up at h; omega
theorem up_or {p : V2} (h : ¬ Up p) (z : p.1 ≠ 0 ∨ p.2 ≠ 0) : Up (ng p) := by
  unfold Up at *
  unfold ng
  dsimp only
  omega
theorem Up.not {p : V2} (h : Up p) : ¬ Up (ng p) := by
  unfold Up at *
  unfold ng
  dsimp only
  omega
theorem Up.add {p q : V2} (h : Up p) (k : Up q) : Up (p.1 + q.1, p.2 + q.2) := by
  unfold Up at *
  dsimp only
  omega
theorem pos_of_mul {a b : Int} (ha : 0 < a) (h : 0 < a * b) : 0 < b := by
  by_cases c : 0 < b
  · exact c
  · have : a * b ≤ 0 := Int.mul_nonpos_of_nonneg_of_nonpos (by omega) (by omega)
    omega
/-- angles within a half turn -/
theorem trans {u v w : V2} (hu : Up u) (hv : Up v) (hw : Up w) (h1 : 0 ≤ cr u v) (h2 : 0 < cr v w) : 0 < cr u w := by
  have e : v.2 * cr u w = u.2 * cr v w + w.2 * cr u v := by unfold cr; grind
  have gu := hu.ge
  have gv := hv.ge
  have gw := hw.ge
  by_cases c : 0 < v.2
  · have w2 : 0 < w.2 := by
      by_cases z : w.2 = 0
      · exfalso
        have w1 : 0 < w.1 := by unfold Up at hw; omega
        unfold cr at h2
        rw [z, Int.mul_zero] at h2
        have := Int.mul_pos c w1
        omega
      · omega
    apply pos_of_mul c
    rw [e]
    by_cases z : u.2 = 0
    · have u1 : 0 < u.1 := by unfold Up at hu; omega
      have k : 0 < cr u v := by
        unfold cr
        rw [z, Int.zero_mul]
        have := Int.mul_pos u1 c
        omega
      have := Int.mul_pos w2 k
      rw [z, Int.zero_mul]
      omega
    · have := Int.mul_pos (show 0 < u.2 by omega) h2
      have := Int.mul_nonneg gw h1
      omega
  · have v2 : v.2 = 0 := by omega
    have v1 : 0 < v.1 := by unfold Up at hv; omega
    have k1 : cr u v = -(u.2 * v.1) := by unfold cr; rw [v2]; omega
    have u2 : u.2 = 0 := by
      by_cases z : u.2 = 0
      · exact z
      · have := Int.mul_pos (show 0 < u.2 by omega) v1
        omega
    have u1 : 0 < u.1 := by unfold Up at hu; omega
    have k2 : cr v w = v.1 * w.2 := by unfold cr; rw [v2]; omega
    rw [k2] at h2
    have w2 := pos_of_mul v1 h2
    unfold cr
    rw [u2, Int.zero_mul]
    have := Int.mul_pos u1 w2
    omega
theorem cr_ng (u v : V2) : cr (ng u) (ng v) = cr u v := by unfold cr ng; grind
theorem cr_ngr (u v : V2) : cr u (ng v) = - cr u v := by unfold cr ng; grind
theorem cr_swap (u v : V2) : cr u v = - cr v u := by unfold cr; grind
/-- a closed walk -/
structure Walk (n : Nat) (w P : Nat → V2) : Prop where
  three : 3 ≤ n
  way : ∀ i, w i = sb (P (i + 1)) (P i)
  per : ∀ i, P (i + n) = P i
theorem Walk.wper {n : Nat} {w P : Nat → V2} (W : Walk n w P) (i : Nat) : w (i + n) = w i := by
  rw [W.way, W.way, show i + n + 1 = (i + 1) + n by omega, W.per, W.per]
def AllLeft (n : Nat) (w P : Nat → V2) : Prop := ∀ i d, 2 ≤ d → d < n → 0 < cr (w i) (sb (P (i + d)) (P i))
def Turns (w : Nat → V2) : Prop := ∀ i, 0 < cr (w i) (w (i + 1))
theorem nz {w : Nat → V2} (T : Turns w) (i : Nat) : (w i).1 ≠ 0 ∨ (w i).2 ≠ 0 := by
  have := T i
  by_cases c : (w i).1 = 0
  · by_cases d : (w i).2 = 0
    · unfold cr at this
      rw [c, d] at this
      simp at this
    · exact .inr d
  · exact .inl c
theorem sums {g f : Nat → Int} {a : Nat} (h : ∀ d, f (d + 1) = f d + g d) : ∀ k, (∀ e, a ≤ e → e < a + k → 0 < g e) → f a ≤ f (a + k) ∧ (0 < k → f a < f (a + k))
  | 0, _ => ⟨Int.le_refl _, fun z => absurd z (by omega)⟩
  | k + 1, hg => by
    have ih := sums h k (fun e e1 e2 => hg e e1 (by omega))
    have := hg (a + k) (by omega) (by omega)
    have e := h (a + k)
    rw [show a + (k + 1) = a + k + 1 by omega]
    omega
theorem sumsN {g f : Nat → Int} {a : Nat} (h : ∀ d, f (d + 1) = f d + g d) : ∀ k, (∀ e, a ≤ e → e < a + k → g e < 0) → f (a + k) ≤ f a ∧ (0 < k → f (a + k) < f a)
  | 0, _ => ⟨Int.le_refl _, fun z => absurd z (by omega)⟩
  | k + 1, hg => by
    have ih := sumsN h k (fun e e1 e2 => hg e e1 (by omega))
    have := hg (a + k) (by omega) (by omega)
    have e := h (a + k)
    rw [show a + (k + 1) = a + k + 1 by omega]
    omega
/-- one hump -/
theorem hump {g f : Nat → Int} {n : Nat} (h : ∀ d, f (d + 1) = f d + g d) (f1 : f 1 = 0) (fn : f n = 0) (hg : ∀ d d', 1 ≤ d → d < d' → d' < n → g d ≤ 0 → g d' < 0) {d : Nat} (d2 : 2 ≤ d) (dn : d < n) : 0 < f d := by
  by_cases c : 0 < g (d - 1)
  · have : ∀ e, 1 ≤ e → e < 1 + (d - 1) → 0 < g e := fun e e1 e2 => by
      by_cases q : e = d - 1
      · rw [q]; exact c
      · by_cases z : 0 < g e
        · exact z
        · have := hg e (d - 1) e1 (by omega) (by omega) (by omega)
          omega
    have := (sums h (d - 1) this).2 (by omega)
    rw [show 1 + (d - 1) = d by omega] at this
    omega
  · have : ∀ e, d ≤ e → e < d + (n - d) → g e < 0 := fun e e1 e2 => hg (d - 1) e (by omega) (by omega) (by omega) (by omega)
    have := (sumsN h (n - d) this).2 (by omega)
    rw [show d + (n - d) = n by omega] at this
    omega
/-- ups first, then downs: what an up sees -/
theorem arc {n : Nat} {w P : Nat → V2} (W : Walk n w P) (T : Turns w) {c m : Nat} (m0 : 0 < m) (mn : m < n) (hu : ∀ j, j < m → Up (w (c + j))) (hd : ∀ j, m ≤ j → j < n → Up (ng (w (c + j)))) {j : Nat} (hj : j < m) {d : Nat} (d2 : 2 ≤ d) (dn : d < n) :
    0 < cr (w (c + j)) (sb (P (c + j + d)) (P (c + j))) := by
  have up2 : ∀ i k, i < k → k < m → 0 < cr (w (c + i)) (w (c + k)) := fun i k hik => by
    induction k with
    | zero => omega
    | succ k ih =>
      intro hk
      have t := T (c + k)
      by_cases q : i = k
      · rw [q]; exact t
      · exact trans (hu i (by omega)) (hu k (by omega)) (hu (k + 1) hk) (by have := ih (by omega) (by omega); omega) t
  have dn2 : ∀ i k, m ≤ i → i < k → k < n → 0 < cr (ng (w (c + i))) (ng (w (c + k))) := fun i k hi hik => by
    induction k with
    | zero => omega
    | succ k ih =>
      intro hk
      have t := T (c + k)
      rw [← cr_ng] at t
      by_cases q : i = k
      · rw [q]; exact t
      · exact trans (hd i hi (by omega)) (hd k (by omega) (by omega)) (hd (k + 1) (by omega) hk) (by have := ih (by omega) (by omega); omega) t
  have per : ∀ d, n ≤ j + d → w (c + j + d) = w (c + (j + d - n)) := fun d h => by
    rw [show c + j + d = c + (j + d - n) + n by omega, W.wper]
  refine hump (f := fun d => cr (w (c + j)) (sb (P (c + j + d)) (P (c + j)))) (g := fun d => cr (w (c + j)) (w (c + j + d))) (n := n) ?_ ?_ ?_ ?_ d2 dn
  · intro d
    rw [W.way (c + j + d), show c + j + (d + 1) = c + j + d + 1 by omega]
    unfold cr sb
    dsimp only
    grind
  · rw [← W.way (c + j)]
    unfold cr
    grind
  · rw [W.per]
    unfold cr sb
    dsimp only
    grind
  · intro d d' h1 h2 h3 h4
    have back : ∀ e, n ≤ j + e → e < n → cr (w (c + j)) (w (c + j + e)) < 0 := fun e e1 e2 => by
      rw [per e e1, cr_swap]
      have := up2 (j + e - n) j (by omega) hj
      omega
    by_cases a1 : j + d < m
    · have := up2 j (j + d) (by omega) a1
      rw [← Nat.add_assoc] at this
      omega
    · by_cases a2 : j + d < n
      · by_cases a3 : j + d' < n
        · have k1 := dn2 (j + d) (j + d') (by omega) (by omega) a3
          rw [← Nat.add_assoc, ← Nat.add_assoc] at k1
          have u1 := hd (j + d) (by omega) a2
          have u2 := hd (j + d') (by omega) a3
          rw [← Nat.add_assoc] at u1 u2
          have := trans (hu j hj) u1 u2 (by rw [cr_ngr]; omega) k1
          rw [cr_ngr] at this
          omega
        · exact back d' (by omega) h3
      · exact back d' (by omega) h3
/-- begins: up here, not up ahead -/
def Beg (n : Nat) (w : Nat → V2) (i : Nat) : Prop := Up (w i) ∧ ¬ Up (w (i + n - 1))
theorem allLeft_of {n : Nat} {w P : Nat → V2} (W : Walk n w P) (T : Turns w) {c : Nat} (hb : Beg n w c) (hu : ∀ d, 1 ≤ d → d < n → ¬ Beg n w (c + d)) : AllLeft n w P := by
  have n3 := W.three
  -- where the ups end
  obtain ⟨m, m0, mn, mu, md⟩ : ∃ m, 0 < m ∧ m < n ∧ (∀ j, j < m → Up (w (c + j))) ∧ ∀ j, m ≤ j → j < n → ¬ Up (w (c + j)) := by
    have ex : ∀ k, k < n → (∀ j, j ≤ k → Up (w (c + j))) ∨ ∃ m, 0 < m ∧ m ≤ k ∧ (∀ j, j < m → Up (w (c + j))) ∧ ∀ j, m ≤ j → j ≤ k → ¬ Up (w (c + j)) := by
      intro k
      induction k with
      | zero => exact fun _ => .inl fun j hj => by rw [show j = 0 by omega]; exact hb.1
      | succ k ih =>
        intro hk
        rcases ih (by omega) with h | ⟨m, m0, mk, h1, h2⟩
        · by_cases c1 : Up (w (c + (k + 1)))
          · exact .inl fun j hj => by
              by_cases q : j = k + 1
              · rw [q]; exact c1
              · exact h j (by omega)
          · exact .inr ⟨k + 1, by omega, by omega, fun j hj => h j (by omega), fun j j1 j2 => by rw [show j = k + 1 by omega]; exact c1⟩
        · refine .inr ⟨m, m0, by omega, h1, fun j j1 j2 => ?_⟩
          by_cases q : j = k + 1
          · rw [q]
            intro h3
            refine hu (k + 1) (by omega) hk ⟨h3, ?_⟩
            have := h2 k (by omega) (by omega)
            rw [show c + (k + 1) + n - 1 = c + k + n by omega, W.wper]
            exact this
          · exact h2 j j1 (by omega)
    rcases ex (n - 1) (by omega) with h | ⟨m, m0, mk, h1, h2⟩
    · have := h (n - 1) (by omega)
      have k := hb.2
      rw [show c + n - 1 = c + (n - 1) by omega] at k
      exact absurd this k
    · exact ⟨m, m0, by omega, h1, fun j j1 j2 => h2 j j1 (by omega)⟩
  have md' : ∀ j, m ≤ j → j < n → Up (ng (w (c + j))) := fun j j1 j2 => up_or (md j j1 j2) (nz T _)
  -- any index is one of the n behind c, some rounds on
  have key : ∀ j, j < n → ∀ d, 2 ≤ d → d < n → 0 < cr (w (c + j)) (sb (P (c + j + d)) (P (c + j))) := by
    intro j hj d d2 dn
    by_cases q : j < m
    · exact arc W T m0 mn mu md' q d2 dn
    · have W' : Walk n (fun i => ng (w i)) (fun i => ng (P i)) := ⟨W.three, fun i => by
        show ng (w i) = sb (ng (P (i + 1))) (ng (P i))
        rw [W.way i]
        unfold ng sb
        dsimp only
        congr 1 <;> omega, fun i => by show ng (P (i + n)) = ng (P i); rw [W.per]⟩
      have T' : Turns (fun i => ng (w i)) := fun i => by
        show 0 < cr (ng (w i)) (ng (w (i + 1)))
        rw [cr_ng]
        exact T i
      have nn : ∀ p : V2, ng (ng p) = p := fun p => by unfold ng; dsimp only; rw [Int.neg_neg, Int.neg_neg]
      have := arc W' T' (c := c + m) (m := n - m) (by omega) (by omega) (fun i hi => by
          rw [Nat.add_assoc]; exact md' (m + i) (by omega) (by omega))
        (fun i h1 h2 => by
          show Up (ng (ng (w (c + m + i))))
          rw [nn, show c + m + i = c + (m + i - n) + n by omega, W.wper]
          exact mu _ (by omega)) (j := j - m) (by omega) d2 dn
      rw [show c + m + (j - m) = c + j by omega] at this
      have e : sb (ng (P (c + j + d))) (ng (P (c + j))) = ng (sb (P (c + j + d)) (P (c + j))) := by
        unfold ng sb
        dsimp only
        congr 1 <;> omega
      rw [show cr (ng (w (c + j))) (sb (ng (P (c + j + d))) (ng (P (c + j)))) = cr (w (c + j)) (sb (P (c + j + d)) (P (c + j))) by rw [e, cr_ng]] at this
      exact this
  have perK : ∀ k i, w (i + n * k) = w i ∧ P (i + n * k) = P i := by
    intro k
    induction k with
    | zero => intro i; exact ⟨rfl, rfl⟩
    | succ k ih =>
      intro i
      rw [Nat.mul_succ, ← Nat.add_assoc, W.wper, W.per]
      exact ih i
  intro i d d2 dn
  -- i + n * c = c + j + n * k
  have hj : (i + n * c - c) % n < n := Nat.mod_lt _ (by omega)
  have hc : c ≤ n * c := Nat.le_mul_of_pos_left c (by omega)
  have e : i + n * c = c + (i + n * c - c) % n + n * ((i + n * c - c) / n) := by
    have := Nat.mod_add_div (i + n * c - c) n
    omega
  have k1 := key _ hj d d2 dn
  rw [← (perK ((i + n * c - c) / n) (c + (i + n * c - c) % n)).1, ← (perK ((i + n * c - c) / n) (c + (i + n * c - c) % n)).2, ← (perK ((i + n * c - c) / n) (c + (i + n * c - c) % n + d)).2] at k1
  rw [show c + (i + n * c - c) % n + d + n * ((i + n * c - c) / n) = i + d + n * c by omega, ← e, (perK c i).1, (perK c i).2, (perK c (i + d)).2] at k1
  exact k1
theorem turns_of {n : Nat} {w P : Nat → V2} (W : Walk n w P) (A : AllLeft n w P) : Turns w := fun i => by
  have n3 := W.three
  have := A i 2 (by omega) (by omega)
  have e1 := W.way i
  have e2 := W.way (i + 1)
  have : cr (w i) (w (i + 1)) = cr (w i) (sb (P (i + 2)) (P i)) := by
    rw [e2, e1]
    unfold cr sb
    dsimp only
    rw [show i + 1 + 1 = i + 2 by omega]
    grind
  omega
/-- from a begin all other corners lie ahead -/
theorem ahead {n : Nat} {w P : Nat → V2} (W : Walk n w P) (A : AllLeft n w P) {i d : Nat} (hb : Beg n w i) (d1 : 1 ≤ d) (dn : d < n) : Up (sb (P (i + d)) (P i)) := by
  have n3 := W.three
  have T := turns_of W A
  have ei := W.way i
  have ej : w (i + n - 1) = sb (P i) (P (i + n - 1)) := by
    rw [W.way (i + n - 1), show i + n - 1 + 1 = i + n by omega, W.per]
  have u1 := hb.1
  have u2 := up_or hb.2 (nz T _)
  have hD : 0 < cr (w (i + n - 1)) (w i) := by
    have := T (i + n - 1)
    rw [show i + n - 1 + 1 = i + n by omega, W.wper] at this
    exact this
  have hα : 0 ≤ cr (w i) (sb (P (i + d)) (P i)) ∧ (2 ≤ d → 0 < cr (w i) (sb (P (i + d)) (P i))) := by
    by_cases q : d = 1
    · subst q
      rw [← ei]
      exact ⟨by unfold cr; grind, fun h => absurd h (by omega)⟩
    · have := A i d (by omega) dn
      exact ⟨by omega, fun _ => this⟩
  have hβ : 0 ≤ cr (w (i + n - 1)) (sb (P (i + d)) (P i)) ∧ (d + 1 < n → 0 < cr (w (i + n - 1)) (sb (P (i + d)) (P i))) := by
    by_cases q : d + 1 = n
    · rw [show i + d = i + n - 1 by omega]
      refine ⟨?_, fun h => absurd h (by omega)⟩
      rw [ej]
      unfold cr sb
      dsimp only
      grind
    · have := A (i + n - 1) (d + 1) (by omega) (by omega)
      rw [show i + n - 1 + (d + 1) = i + d + n by omega, W.per] at this
      have e : cr (w (i + n - 1)) (sb (P (i + d)) (P (i + n - 1))) = cr (w (i + n - 1)) (sb (P (i + d)) (P i)) := by
        rw [ej]
        unfold cr sb
        dsimp only
        grind
      rw [e] at this
      exact ⟨by omega, fun _ => this⟩
  generalize sb (P (i + d)) (P i) = q at *
  generalize w (i + n - 1) = y at *
  generalize w i = x at *
  -- D q = β x + α (- y)
  have e1 : cr y x * q.1 = cr y q * x.1 + cr x q * (ng y).1 := by unfold cr ng; dsimp only; grind
  have e2 : cr y x * q.2 = cr y q * x.2 + cr x q * (ng y).2 := by unfold cr ng; dsimp only; grind
  generalize ng y = z at *
  have gx := u1.ge
  have gz := u2.ge
  have p1 := Int.mul_nonneg hβ.1 gx
  have p2 := Int.mul_nonneg hα.1 gz
  have q2 : 0 ≤ q.2 := by
    by_cases c : 0 ≤ q.2
    · exact c
    · have : cr y x * q.2 < 0 := Int.mul_neg_of_pos_of_neg hD (by omega)
      omega
  by_cases c : 0 < q.2
  · exact .inl c
  · have z2 : q.2 = 0 := by omega
    rw [z2, Int.mul_zero] at e2
    have a1 : cr y q * x.2 = 0 := by omega
    have a2 : cr x q * z.2 = 0 := by omega
    have t1 : 0 ≤ cr y q * x.1 ∧ (d + 1 < n → 0 < cr y q * x.1) := by
      by_cases s : cr y q = 0
      · rw [s, Int.zero_mul]
        exact ⟨Int.le_refl _, fun h => by have := hβ.2 h; omega⟩
      · have hx2 : x.2 = 0 := (Int.mul_eq_zero.mp a1).resolve_left s
        have x1 : 0 < x.1 := by unfold Up at u1; omega
        have := Int.mul_pos (show 0 < cr y q by omega) x1
        exact ⟨by omega, fun _ => this⟩
    have t2 : 0 ≤ cr x q * z.1 ∧ (2 ≤ d → 0 < cr x q * z.1) := by
      by_cases s : cr x q = 0
      · rw [s, Int.zero_mul]
        exact ⟨Int.le_refl _, fun h => by have := hα.2 h; omega⟩
      · have hz2 : z.2 = 0 := (Int.mul_eq_zero.mp a2).resolve_left s
        have z1 : 0 < z.1 := by unfold Up at u2; omega
        have := Int.mul_pos (show 0 < cr x q by omega) z1
        exact ⟨by omega, fun _ => this⟩
    refine .inr ⟨z2, pos_of_mul hD ?_⟩
    rw [e1]
    by_cases s : 2 ≤ d
    · have := t2.2 s
      omega
    · have := t1.2 (by omega)
      omega
theorem beg_one {n : Nat} {w P : Nat → V2} (W : Walk n w P) (A : AllLeft n w P) {i d : Nat} (hb : Beg n w i) (d1 : 1 ≤ d) (dn : d < n) : ¬ Beg n w (i + d) := fun hc => by
  have h1 := ahead W A hb d1 dn
  have h2 := ahead W A hc (d := n - d) (by omega) (by omega)
  rw [show i + d + (n - d) = i + n by omega, W.per] at h2
  refine h1.not ?_
  have : ng (sb (P (i + d)) (P i)) = sb (P i) (P (i + d)) := by unfold ng sb; dsimp only; congr 1 <;> omega
  rw [this]
  exact h2
theorem beg_ex {n : Nat} {w P : Nat → V2} (W : Walk n w P) (T : Turns w) : ∃ i, i < n ∧ Beg n w i := by
  have n3 := W.three
  have stp : ∀ k, P (k + 1) = ((P k).1 + (w k).1, (P k).2 + (w k).2) := fun k => by
    rw [W.way]
    unfold sb
    dsimp only
    apply Prod.ext <;> dsimp only <;> omega
  have sumU : ∀ (Q : Nat → V2) (v : Nat → V2), (∀ k, Q (k + 1) = ((Q k).1 + (v k).1, (Q k).2 + (v k).2)) → (∀ k, k < n → Up (v k)) → Up (sb (Q n) (Q 0)) := by
    intro Q v hq hv
    have : ∀ k, k < n → Up (sb (Q (k + 1)) (Q 0)) := by
      intro k
      induction k with
      | zero =>
        intro h
        have := hv 0 h
        rw [hq]
        unfold sb
        dsimp only
        unfold Up at *
        dsimp only
        omega
      | succ k ih =>
        intro h
        have a := ih (by omega)
        have b := hv (k + 1) h
        rw [hq]
        unfold sb at *
        dsimp only
        unfold Up at *
        dsimp only at *
        omega
    have := this (n - 1) (by omega)
    rw [show n - 1 + 1 = n by omega] at this
    exact this
  have z : ∀ Q : Nat → V2, Q n = Q 0 → ¬ Up (sb (Q n) (Q 0)) := fun Q h => by
    rw [h]
    unfold sb Up
    dsimp only
    omega
  have p0 : P n = P 0 := by have := W.per 0; rwa [Nat.zero_add] at this
  by_cases c : ∃ i, i < n ∧ Beg n w i
  · exact c
  exfalso
  have no : ∀ i, i < n → Up (w i) → Up (w (i + n - 1)) := fun i hi h => by
    by_cases q : Up (w (i + n - 1))
    · exact q
    · exact absurd ⟨i, hi, h, q⟩ c
  by_cases a : ∃ i, i < n ∧ Up (w i)
  · obtain ⟨i, hi, h⟩ := a
    -- back from i, round and round
    have dn : ∀ k, k ≤ i → Up (w (i - k)) := by
      intro k
      induction k with
      | zero => exact fun _ => h
      | succ k ih =>
        intro hk
        have := no (i - k) (by omega) (ih (by omega))
        rw [show i - k + n - 1 = i - (k + 1) + n by omega, W.wper] at this
        exact this
    have h0 : Up (w 0) := by have := dn i (Nat.le_refl _); rwa [Nat.sub_self] at this
    have top := no 0 (by omega) h0
    have dn2 : ∀ k, k ≤ n - 1 → Up (w (n - 1 - k)) := by
      intro k
      induction k with
      | zero => intro _; rw [show n - 1 - 0 = 0 + n - 1 by omega]; exact top
      | succ k ih =>
        intro hk
        have := no (n - 1 - k) (by omega) (ih (by omega))
        rw [show n - 1 - k + n - 1 = n - 1 - (k + 1) + n by omega, W.wper] at this
        exact this
    refine z P p0 (sumU P w stp fun k hk => ?_)
    have := dn2 (n - 1 - k) (by omega)
    rwa [show n - 1 - (n - 1 - k) = k by omega] at this
  · refine z (fun i => ng (P i)) (by rw [p0]) (sumU (fun i => ng (P i)) (fun i => ng (w i)) (fun k => ?_) fun k hk => up_or (fun h => a ⟨k, hk, h⟩) (nz T k))
    rw [stp]
    unfold ng
    dsimp only
    apply Prod.ext <;> dsimp only <;> omega
/-- counted: just one begins -/
theorem count_one {n : Nat} {p : Nat → Bool} : (List.range n).countP p = 1 ↔ ∃ c, c < n ∧ p c = true ∧ ∀ j, j < n → p j = true → j = c := by
  induction n with
  | zero => simp
  | succ n ih =>
    rw [List.range_succ, List.countP_append]
    have e : List.countP p [n] = if p n = true then 1 else 0 := by simp [List.countP_cons]
    rw [e]
    by_cases c : p n = true
    · rw [if_pos c]
      constructor
      · intro h
        refine ⟨n, by omega, c, fun j hj pj => ?_⟩
        by_cases q : j = n
        · exact q
        · have : 0 < (List.range n).countP p := List.countP_pos_iff.mpr ⟨j, List.mem_range.mpr (by omega), pj⟩
          omega
      · intro ⟨k, hk, pk, hu⟩
        have : (List.range n).countP p = 0 := by
          rw [List.countP_eq_zero]
          intro j hj pj
          have hj := List.mem_range.mp hj
          have a := hu j (by omega) pj
          have b := hu n (by omega) c
          omega
        omega
    · rw [if_neg c, Nat.add_zero, ih]
      constructor
      · intro ⟨k, hk, pk, hu⟩
        refine ⟨k, by omega, pk, fun j hj pj => ?_⟩
        by_cases q : j = n
        · rw [q] at pj; exact absurd pj c
        · exact hu j (by omega) pj
      · intro ⟨k, hk, pk, hu⟩
        refine ⟨k, ?_, pk, fun j hj pj => hu j (by omega) pj⟩
        by_cases q : k = n
        · rw [q] at pk; exact absurd pk c
        · omega
theorem main {n : Nat} {w P : Nat → V2} (W : Walk n w P) {p : Nat → Bool} (hp : ∀ i, p i = true ↔ Beg n w i) : AllLeft n w P ↔ (Turns w ∧ (List.range n).countP p = 1) := by
  rw [count_one]
  constructor
  · intro A
    have T := turns_of W A
    refine ⟨T, ?_⟩
    obtain ⟨i, hi, hb⟩ := beg_ex W T
    refine ⟨i, hi, (hp i).mpr hb, fun j hj pj => ?_⟩
    have hj2 := (hp j).mp pj
    by_cases q : j = i
    · exact q
    · exfalso
      by_cases r : i < j
      · have := beg_one W A hb (d := j - i) (by omega) (by omega)
        rw [show i + (j - i) = j by omega] at this
        exact this hj2
      · have := beg_one W A hj2 (d := i - j) (by omega) (by omega)
        rw [show j + (i - j) = i by omega] at this
        exact this hb
  · intro ⟨T, c, hc, pc, hu⟩
    refine allLeft_of W T ((hp c).mp pc) fun d d1 dn hb => ?_
    have hd : ∀ i, Beg n w (i + n) → Beg n w i := fun i h => by
      have n3 := W.three
      refine ⟨by have := h.1; rwa [W.wper] at this, ?_⟩
      have := h.2
      rwa [show i + n + n - 1 = i + n - 1 + n by omega, W.wper] at this
    by_cases q : c + d < n
    · have := hu (c + d) q ((hp _).mpr hb)
      omega
    · rw [show c + d = c + d - n + n by omega] at hb
      have := hu (c + d - n) (by omega) ((hp _).mpr (hd _ hb))
      omega
end Poly

set_option Elab.async false
set_option linter.all false
set_option maxRecDepth 100000
set_option maxHeartbeats 4000000
/-! The program's own words on frames. -/
namespace Dn
open PySem
section
variable {ρ ρ1 : DE} {f g : FE}
theorem ev_andT {r : Option (D × DE)} (h1 : f ρ = some (.bl true, ρ1)) (h2 : g ρ1 = r) : dAndV f g ρ = r := by unfold dAndV; rw [h1]; exact h2
theorem ev_andF (h1 : f ρ = some (.bl false, ρ1)) : dAndV f g ρ = some (.bl false, ρ1) := by unfold dAndV; rw [h1]
end
/-- a comprehension with a test -/
theorem lcL_fm {g : FG} {t : FT} {f : FE} {vs : List Nat} {ρ : DE} {c : D → Bool} {F : D → D} : ∀ (ds acc : List D), (∀ d, d ∈ ds → ∃ ρ1, g d ρ = some ρ1 ∧ t ρ1 = some (c d, ρ1) ∧ f ρ1 = some (F d, ρ1) ∧ allDat ρ1 vs = true ∧ wipeD ρ1 vs = ρ) → acc.length + ds.length ≤ lim →
    lcL g t f vs ds ρ acc = some (acc ++ (ds.filter c).map F, ρ)
  | [], acc, _, _ => by rw [List.filter_nil, List.map_nil, List.append_nil]; rfl
  | d :: ds, acc, h, hl => by
    obtain ⟨ρ1, h1, h2, h3, h4, h5⟩ := h d (by simp)
    unfold lcL
    rw [h1]
    dsimp only
    rw [h2]
    cases hc : c d with
    | true =>
      dsimp only
      rw [h3]
      dsimp only
      rw [if_pos ⟨h4, by simp at hl; omega⟩, h5, lcL_fm ds (acc ++ [F d]) (fun e he => h e (by simp [he])) (by simp at hl ⊢; omega)]
      simp [hc]
    | false =>
      dsimp only
      rw [if_pos h4, h5, lcL_fm ds acc (fun e he => h e (by simp [he])) (by simp at hl ⊢; omega)]
      simp [hc]
theorem dec_nat (m n : Nat) : decide ((m : Int) = (n : Int)) = decide (m = n) := by
  by_cases c : m = n
  · rw [decide_eq_true c, decide_eq_true (by omega)]
  · rw [decide_eq_false c, decide_eq_false (by omega)]
theorem all_fold {ds : List D} {p : D → Bool} : dFold (fun bs => .bl (bs.all id)) [.lst (ds.map fun d => .bl (p d))] = some (.bl (ds.all p)) := by
  show (match blsOf (ds.map fun d => .bl (p d)) with
    | some bs => some ((fun bs : List Bool => D.bl (bs.all id)) bs)
    | none => none) = _
  rw [blsOf_mapP]
  simp
end Dn
namespace K18
open PySem Dn
def isRowB : D → Bool
  | .tup xs => xs.all isIntB
  | _ => false
theorem prow_ok {n : Nat} {d : D} (h : Val n d) : m_is_row [d] = some (.bl (isRowB d)) := by
  have ht := isTy_tup h
  have e1 : dUn (isTy "tuple") (dVar 0) [.dat d, .un] = some (.bl (isTupB d), [.dat d, .un]) := ev_un rfl ht
  refine run_of rfl (ρ := [.dat d, .un]) (sv_ret ?_)
  by_cases c : isTupB d = true
  · obtain ⟨ps, rfl⟩ : ∃ ps, d = .tup ps := by cases d <;> first | exact ⟨_, rfl⟩ | cases c
    cases h with
    | tup hx hl => exact ev_andT e1 (all_ok (p := isIntB) rfl rfl (fun d hd => isint_ok (hx d hd)) hl)
  · rw [Bool.eq_false_iff.mpr c] at e1
    have : isRowB d = false := by cases d <;> first | rfl | exact absurd rfl c
    rw [this]
    exact ev_andF e1
theorem pfrac_ok {n : Nat} {d : D} (h : Val n d) : m_is_fraction [d] = some (.bl (isFracB d)) := by
  have hr := prow_ok h
  have e1 : dCall m_is_row (dCons (dVar 0) (dNil)) [.dat d] = some (.bl (isRowB d), [.dat d]) := ev_call (ev_cons rfl rfl) hr
  refine run_of rfl (ρ := [.dat d]) (sv_ret ?_)
  by_cases c : isRowB d = true
  · obtain ⟨ps, rfl⟩ : ∃ ps, d = .tup ps := by cases d <;> first | exact ⟨_, rfl⟩ | cases c
    rw [c] at e1
    have e2 : dOp dEq (dCall dLen (dCons (dVar 0) (dNil))) (dC (.int 2)) [.dat (.tup ps)] = some (.bl (decide (ps.length = 2)), [.dat (.tup ps)]) := ev_op (ev_call (ev_cons rfl rfl) rfl) rfl (by rw [dEq_int]; exact congrArg (fun b => some (D.bl b)) (dec_nat ps.length 2))
    by_cases c2 : ps.length = 2
    · rw [decide_eq_true c2] at e2
      match ps, c2, c, e1, e2 with
      | [a, b], _, c, e1, e2 =>
        have c' : (isIntB a && (isIntB b && true)) = true := c
        rw [Bool.and_true, Bool.and_eq_true] at c'
        obtain ⟨t, rfl⟩ : ∃ t, a = .int t := by cases a <;> first | exact ⟨_, rfl⟩ | cases c'.1
        obtain ⟨u, rfl⟩ : ∃ t, b = .int t := by cases b <;> first | exact ⟨_, rfl⟩ | cases c'.2
        have e3 : dOp dGe (dOp dIx (dVar 0) (dC (.int 1))) (dC (.int 1)) [.dat (.tup [.int t, .int u])] = some (.bl (decide (1 ≤ u)), [.dat (.tup [.int t, .int u])]) := ev_op (ev_op rfl rfl rfl) rfl rfl
        refine ev_andT e1 (ev_andT e2 ?_)
        show _ = some (D.bl (decide (1 ≤ u) && decide (Int.gcd t u = 1)), _)
        by_cases c3 : 1 ≤ u
        · rw [decide_eq_true c3] at e3
          rw [decide_eq_true c3, Bool.true_and]
          exact ev_andT e3 (ev_op (ev_call (ev_cons (ev_op rfl rfl rfl) (ev_cons (ev_op rfl rfl rfl) rfl)) rfl) rfl (by rw [dEq_int]; exact congrArg (fun b => some (D.bl b)) (dec_nat (Int.gcd t u) 1)))
        · rw [decide_eq_false c3] at e3
          rw [decide_eq_false c3, Bool.false_and]
          exact ev_andF e3
    · rw [decide_eq_false c2] at e2
      have : isFracB (.tup ps) = false := by
        unfold isFracB
        split
        · rename_i e; cases e; exact absurd rfl c2
        · rfl
      rw [this]
      exact ev_andT e1 (ev_andF e2)
  · rw [Bool.eq_false_iff.mpr c] at e1
    have : isFracB d = false := by
      unfold isFracB
      split
      · exact absurd rfl c
      · rfl
    rw [this]
    exact ev_andF e1
theorem ppoint_ok {n : Nat} {d : D} (h : Val n d) : m_is_point [d] = some (.bl (isPtB d)) := by
  have ht := isTy_tup h
  have e1 : dUn (isTy "tuple") (dVar 0) [.dat d] = some (.bl (isTupB d), [.dat d]) := ev_un rfl ht
  refine run_of rfl (ρ := [.dat d]) (sv_ret ?_)
  by_cases c : isTupB d = true
  · obtain ⟨ps, rfl⟩ : ∃ ps, d = .tup ps := by cases d <;> first | exact ⟨_, rfl⟩ | cases c
    rw [c] at e1
    have e2 : dOp dEq (dCall dLen (dCons (dVar 0) (dNil))) (dC (.int 2)) [.dat (.tup ps)] = some (.bl (decide (ps.length = 2)), [.dat (.tup ps)]) := ev_op (ev_call (ev_cons rfl rfl) rfl) rfl (by rw [dEq_int]; exact congrArg (fun b => some (D.bl b)) (dec_nat ps.length 2))
    by_cases c2 : ps.length = 2
    · rw [decide_eq_true c2] at e2
      match ps, c2, h, e1, e2 with
      | [a, b], _, .tup hx _, e1, e2 =>
        have fa := pfrac_ok (hx a (by simp))
        have fb := pfrac_ok (hx b (by simp))
        refine ev_andT e1 (ev_andT e2 ?_)
        show _ = some (D.bl (isFracB a && isFracB b), _)
        have e3 : dCall m_is_fraction (dCons (dOp dIx (dVar 0) (dC (.int 0))) (dNil)) [.dat (.tup [a, b])] = some (.bl (isFracB a), [.dat (.tup [a, b])]) := ev_call (ev_cons (ev_op rfl rfl rfl) rfl) fa
        have e4 : dCall m_is_fraction (dCons (dOp dIx (dVar 0) (dC (.int 1))) (dNil)) [.dat (.tup [a, b])] = some (.bl (isFracB b), [.dat (.tup [a, b])]) := ev_call (ev_cons (ev_op rfl rfl rfl) rfl) fb
        cases c3 : isFracB a with
        | true => rw [c3] at e3; rw [Bool.true_and]; exact ev_andT e3 e4
        | false => rw [c3] at e3; rw [Bool.false_and]; exact ev_andF e3
    · rw [decide_eq_false c2] at e2
      have : isPtB (.tup ps) = false := by
        unfold isPtB
        split
        · rename_i e; cases e; exact absurd rfl c2
        · rfl
      rw [this]
      exact ev_andT e1 (ev_andF e2)
  · rw [Bool.eq_false_iff.mpr c] at e1
    have : isPtB d = false := by
      unfold isPtB
      split
      · exact absurd rfl c
      · rfl
    rw [this]
    exact ev_andF e1
def arePtsB (s : Int) : D → Bool
  | .tup ps => decide ((ps.length : Int) = s) && ps.all isPtB
  | _ => false
theorem ppoints_ok {n : Nat} {d : D} (h : Val n d) (s : Int) : m_are_points [d, .int s] = some (.bl (arePtsB s d)) := by
  have ht := isTy_tup h
  have e1 : dUn (isTy "tuple") (dVar 0) [.dat d, .dat (.int s), .un] = some (.bl (isTupB d), [.dat d, .dat (.int s), .un]) := ev_un rfl ht
  refine run_of rfl (ρ := [.dat d, .dat (.int s), .un]) (sv_ret ?_)
  by_cases c : isTupB d = true
  · obtain ⟨ps, rfl⟩ : ∃ ps, d = .tup ps := by cases d <;> first | exact ⟨_, rfl⟩ | cases c
    rw [c] at e1
    have e2 : dOp dEq (dCall dLen (dCons (dVar 0) (dNil))) (dVar 1) [.dat (.tup ps), .dat (.int s), .un] = some (.bl (decide ((ps.length : Int) = s)), [.dat (.tup ps), .dat (.int s), .un]) := ev_op (ev_call (ev_cons rfl rfl) rfl) rfl (dEq_int _ _)
    cases h with
    | tup hx hl =>
      refine ev_andT e1 ?_
      show _ = some (D.bl (decide ((ps.length : Int) = s) && ps.all isPtB), _)
      have e3 := all_ok (m := m_is_point) (p := isPtB) (ps := ps) (i := 2) (j := 0) (ρ := [.dat (.tup ps), .dat (.int s), .un]) rfl rfl (fun d hd => ppoint_ok (hx d hd)) hl
      by_cases c2 : (ps.length : Int) = s
      · rw [decide_eq_true c2] at e2
        rw [decide_eq_true c2, Bool.true_and]
        exact ev_andT e2 e3
      · rw [decide_eq_false c2] at e2
        rw [decide_eq_false c2, Bool.false_and]
        exact ev_andF e2
  · rw [Bool.eq_false_iff.mpr c] at e1
    have : arePtsB s d = false := by cases d <;> first | rfl | exact absurd rfl c
    rw [this]
    exact ev_andF e1
/-! ### one bottom -/
def frT : D → Int × Int
  | .tup [.int a, .int b] => (a, b)
  | _ => (0, 1)
def lcmL : List D → Int → Int
  | [], L => L
  | f :: r, L => lcmL r (Int.lcm L (frT f).2 : Nat)
theorem lcmL_ok {n : Nat} : ∀ (fs : List D) (m : Nat) (L : Int), 0 < L → Sm m L → (∀ f, f ∈ fs → FracD n f) → 0 < lcmL fs L ∧ Sm (m + n * fs.length) (lcmL fs L) ∧ L ∣ lcmL fs L ∧ ∀ f, f ∈ fs → (frT f).2 ∣ lcmL fs L
  | [], m, L, hL, sL, _ => ⟨hL, by show Sm (m + n * 0) L; rw [Nat.mul_zero, Nat.add_zero]; exact sL, ⟨1, by simp [lcmL]⟩, fun f hf => by simp at hf⟩
  | f :: fs, m, L, hL, sL, hf => by
    obtain ⟨a, b, rfl, b0, g1, sa, sb⟩ := hf f (by simp)
    have hp : 0 < ((Int.lcm L b : Nat) : Int) := by
      have : 0 < Int.lcm L b := Nat.lcm_pos (m := L.natAbs) (n := b.natAbs) (by omega) (by omega)
      omega
    have hs : Sm (m + n) ((Int.lcm L b : Nat) : Int) := by
      have h1 : Int.lcm L b ≤ L.natAbs * b.natAbs := lcm_le L.natAbs b.natAbs
      have h2 := sL.mul sb
      unfold Sm at *
      rw [Int.natAbs_mul] at h2
      rw [Int.natAbs_natCast]
      omega
    obtain ⟨h1, h2, h3, h4⟩ := lcmL_ok fs (m + n) _ hp hs (fun f hf' => hf f (by simp [hf']))
    refine ⟨h1, h2.up (by rw [List.length_cons, Nat.mul_add]; omega), Int.dvd_trans (Int.dvd_lcm_left ..) h3, fun g hg => ?_⟩
    rcases List.mem_cons.mp hg with rfl | z
    · exact Int.dvd_trans (Int.dvd_lcm_right ..) h3
    · exact h4 g z
theorem lcm_loop {n : Nat} (hn : n ≤ 1662) {all : D} {t o : Sl} : ∀ (fs : List D) (m : Nat) (L : Int) (s2 : Sl), isDat (some s2) = true → 0 < L → Sm m L → m + n * fs.length ≤ 13300 → (∀ f, f ∈ fs → FracD n f) →
    ∃ s2', forL (gSet 2) (dAsg 1 (dCall dLcm (dCons (dVar 1) (dCons (dOp dIx (dVar 2) (dC (.int 1))) (dNil))))) fs [.dat all, .dat (.int L), s2, t, o] = some (.nx, [.dat all, .dat (.int (lcmL fs L)), s2', t, o]) ∧ isDat (some s2') = true
  | [], m, L, s2, h2, hL, sL, hm, hf => ⟨s2, rfl, h2⟩
  | f :: fs, m, L, s2, h2, hL, sL, hm, hf => by
    obtain ⟨a, b, rfl, b0, g1, sa, sb⟩ := hf f (by simp)
    have e0 : n * (.tup [.int a, .int b] :: fs).length = n * fs.length + n := by rw [List.length_cons, Nat.mul_add, Nat.mul_one]
    rw [e0] at hm
    obtain ⟨hp, hs, _, _⟩ := lcmL_ok [.tup [.int a, .int b]] m L hL sL (fun f hf' => by simp at hf'; subst hf'; exact ⟨a, b, rfl, b0, g1, sa, sb⟩)
    obtain ⟨s2', hl, hd⟩ := lcm_loop hn (all := all) (t := t) (o := o) fs (m + n) (Int.lcm L b : Nat) (.dat (.tup [.int a, .int b])) rfl hp ((show Sm (m + n * 1) ((Int.lcm L b : Nat) : Int) from hs).up (by omega)) (by omega) (fun f hf' => hf f (by simp [hf']))
    have g2 : gSet 2 (.tup [.int a, .int b]) [.dat all, .dat (.int L), s2, t, o] = some [.dat all, .dat (.int L), .dat (.tup [.int a, .int b]), t, o] := by
      unfold gSet
      exact if_pos h2
    have hc : dLcm [.int L, .int b] = some (.int (Int.lcm L b : Nat)) := by
      have := sL.log
      have := sb.log
      exact if_pos ⟨by omega, by omega⟩
    exact ⟨s2', for_nx g2 (sv_asg (ev_call (ev_cons rfl (ev_cons (ev_op rfl rfl rfl) rfl)) hc) rfl) hl, hd⟩
def scF (L : Int) (f : D) : D := .int ((frT f).1 * (L / (frT f).2))
theorem onebot_ok {n : Nat} (hn : n ≤ 1662) {fs : List D} (hl : fs.length ≤ 8) (hf : ∀ f, f ∈ fs → FracD n f) : m_over_one_bottom [.lst fs] = some (.tup [.int (lcmL fs 1), .lst (fs.map (scF (lcmL fs 1)))]) := by
  have hb : 1 + n * fs.length ≤ 13300 := by
    have : n * fs.length ≤ 1662 * 8 := Nat.mul_le_mul hn hl
    omega
  obtain ⟨s2, h1, hd⟩ := lcm_loop hn (all := .lst fs) (t := .un) (o := .un) fs 1 1 .un rfl (by decide) (Sm.lit (by decide)) hb hf
  obtain ⟨hp, hs, _, hdv⟩ := lcmL_ok fs 1 1 (by decide) (Sm.lit (by decide)) hf
  generalize lcmL fs 1 = L at *
  have hstep : ∀ d, d ∈ fs → ∃ ρ1 ρ3 y, gTupD (gsCons (gSet 3) (gsCons (gSet 4) (gsNil))) 2 d [.dat (.lst fs), .dat (.int L), s2, .un, .un] = some ρ1 ∧ dYes ρ1 = some (true, ρ1) ∧
      dOp dMul (dVar 3) (dOp dDiv (dVar 1) (dVar 4)) ρ1 = some (y, ρ3) ∧ allDat ρ3 [3, 4] = true ∧ wipeD ρ3 [3, 4] = [.dat (.lst fs), .dat (.int L), s2, .un, .un] ∧ y = scF L d := by
    intro d hdd
    obtain ⟨a, b, rfl, b0, g1, sa, sb⟩ := hf d hdd
    have e1 := dDiv_sm (i := L) b0 (sb.up hn)
    have m1 := dMul_sm sa (hs.div b0) (by omega)
    exact ⟨[.dat (.lst fs), .dat (.int L), s2, .dat (.int a), .dat (.int b)], [.dat (.lst fs), .dat (.int L), s2, .dat (.int a), .dat (.int b)], _, rfl, rfl, ev_op rfl (ev_op rfl rfl e1) m1, rfl, rfl, rfl⟩
  obtain ⟨ys, k1, k2, k3⟩ := lcL_all (P := fun d y => y = scF L d) fs [] hstep (by simp [lim]; omega)
  rw [List.nil_append, eq_map (F := scF L) k2 k3] at k1
  exact run_of rfl (ρ := [.dat (.lst fs), .dat (.int L), s2, .un, .un]) (sv_seq (sv_asg rfl rfl) (sv_seq (sv_for rfl h1) (sv_ret (ev_tup (ev_cons rfl (ev_cons (dLc_of rfl rfl rfl k1 rfl) rfl)) (by simp [lim])))))
/-! ### two measures -/
def ptX : D → D
  | .tup [f, _] => f
  | _ => .non
def ptY : D → D
  | .tup [_, g] => g
  | _ => .non
def scl2 (S T : Int) (d : D) : Int × Int := ((ptOf d).1 * (S / (ptOf d).2.1), (ptOf d).2.2.1 * (T / (ptOf d).2.2.2))
def Good2 (ps : List D) (S T : Int) : Prop := 0 < S ∧ 0 < T ∧ ∀ p, p ∈ ps → (ptOf p).2.1 ∣ S ∧ (ptOf p).2.2.2 ∣ T
theorem zip_pts {L M : Int} : ∀ {ps : List D} {n : Nat}, (∀ p, p ∈ ps → PtD n p) → zipD ((ps.map ptX).map (scF L)) ((ps.map ptY).map (scF M)) = (ps.map (scl2 L M)).map ipairD
  | [], _, _ => rfl
  | p :: ps, n, h => by
    obtain ⟨f, g, rfl, ⟨a, b, rfl, b0, ab, sa, sb⟩, ⟨c, d, rfl, d0, cd, sc, sd⟩⟩ := h p (by simp)
    have := zip_pts (L := L) (M := M) (ps := ps) (n := n) (fun q hq => h q (by simp [hq]))
    show D.tup [_, _] :: zipD ((ps.map ptX).map (scF L)) ((ps.map ptY).map (scF M)) = _ :: _
    rw [this]
    rfl
theorem stretched_ok {n : Nat} (hn : n ≤ 1662) {ps : List D} (hl : ps.length ≤ 8) (hp : ∀ p, p ∈ ps → PtD n p) : ∃ S T z, Good2 ps S T ∧ m_stretched [.tup ps] = some (.tup [.int z, .lst ((ps.map (scl2 S T)).map ipairD)]) ∧ ∀ q, q ∈ ps.map (scl2 S T) → Sm 20000 q.1 ∧ Sm 20000 q.2 := by
  have fx : ∀ f, f ∈ ps.map ptX → FracD n f := fun f hf => by
    obtain ⟨p, hpp, rfl⟩ := List.mem_map.mp hf
    obtain ⟨f, g, rfl, h1, h2⟩ := hp p hpp
    exact h1
  have fy : ∀ f, f ∈ ps.map ptY → FracD n f := fun f hf => by
    obtain ⟨p, hpp, rfl⟩ := List.mem_map.mp hf
    obtain ⟨f, g, rfl, h1, h2⟩ := hp p hpp
    exact h2
  have e1 := onebot_ok hn (fs := ps.map ptX) (by simpa using hl) fx
  have e2 := onebot_ok hn (fs := ps.map ptY) (by simpa using hl) fy
  obtain ⟨p1, s1, _, d1⟩ := lcmL_ok (ps.map ptX) 1 1 (by decide) (Sm.lit (by decide)) fx
  obtain ⟨p2, s2, _, d2⟩ := lcmL_ok (ps.map ptY) 1 1 (by decide) (Sm.lit (by decide)) fy
  have hb : n * ps.length ≤ 1662 * 8 := Nat.mul_le_mul hn hl
  have s1 : Sm 13300 (lcmL (ps.map ptX) 1) := s1.up (by rw [List.length_map]; omega)
  have s2 : Sm 13300 (lcmL (ps.map ptY) 1) := s2.up (by rw [List.length_map]; omega)
  generalize lcmL (ps.map ptX) 1 = S at *
  generalize lcmL (ps.map ptY) 1 = T at *
  have hx : ∀ p, p ∈ ps → (ptOf p).2.1 ∣ S ∧ (ptOf p).2.2.2 ∣ T ∧ Sm 20000 (scl2 S T p).1 ∧ Sm 20000 (scl2 S T p).2 := fun p hpp => by
    have q1 := d1 (ptX p) (List.mem_map.mpr ⟨p, hpp, rfl⟩)
    have q2 := d2 (ptY p) (List.mem_map.mpr ⟨p, hpp, rfl⟩)
    obtain ⟨f, g, rfl, ⟨a, b, rfl, b0, ab, sa, sb⟩, ⟨c, d, rfl, d0, cd, sc, sd⟩⟩ := hp p hpp
    exact ⟨q1, q2, (sa.mul (s1.div b0)).up (by omega), (sc.mul (s2.div d0)).up (by omega)⟩
  refine ⟨S, T, S * T, ⟨p1, p2, fun p h => ⟨(hx p h).1, (hx p h).2.1⟩⟩, ?_, fun q hq => by obtain ⟨p, h, rfl⟩ := List.mem_map.mp hq; exact (hx p h).2.2⟩
  have c1 : dLc (dItems (dVar 0)) (gSet 5) (dYes) (dOp dIx (dVar 5) (dC (.int 0))) [5] [.dat (.tup ps), .un, .un, .un, .un, .un] = some (.lst (ps.map ptX), [.dat (.tup ps), .un, .un, .un, .un, .un]) := by
    refine lc_items ptX rfl (by omega) rfl fun d hd => ?_
    obtain ⟨f, g, rfl, h1, h2⟩ := hp d hd
    exact ev_op rfl rfl rfl
  have c2 : dLc (dItems (dVar 0)) (gSet 5) (dYes) (dOp dIx (dVar 5) (dC (.int 1))) [5] [.dat (.tup ps), .dat (.int S), .dat (.lst ((ps.map ptX).map (scF S))), .un, .un, .un] = some (.lst (ps.map ptY), [.dat (.tup ps), .dat (.int S), .dat (.lst ((ps.map ptX).map (scF S))), .un, .un, .un]) := by
    refine lc_items ptY rfl (by omega) rfl fun d hd => ?_
    obtain ⟨f, g, rfl, h1, h2⟩ := hp d hd
    exact ev_op rfl rfl rfl
  have c3 : dZipL [.lst ((ps.map ptX).map (scF S)), .lst ((ps.map ptY).map (scF T))] = some (.lst ((ps.map (scl2 S T)).map ipairD)) := by
    rw [← zip_pts hp]
    show (if ((ps.map ptX).map (scF S)).length = ((ps.map ptY).map (scF T)).length then some (D.lst (zipD ((ps.map ptX).map (scF S)) ((ps.map ptY).map (scF T)))) else none) = _
    rw [if_pos (by simp)]
  exact run_of rfl (ρ := [.dat (.tup ps), .dat (.int S), .dat (.lst ((ps.map ptX).map (scF S))), .dat (.int T), .dat (.lst ((ps.map ptY).map (scF T))), .un]) (sv_seq (sv_asgG (ev_call (ev_cons c1 rfl) e1) rfl) (sv_seq (sv_asgG (ev_call (ev_cons c2 rfl) e2) rfl) (sv_ret (ev_tup (ev_cons (ev_op rfl rfl (dMul_sm s1 s2)) (ev_cons (ev_call (ev_cons rfl (ev_cons rfl rfl)) c3) rfl)) (by simp [lim])))))
/-! ### the turn -/
def turnP (p q r : Int × Int) : Int := (q.1 - p.1) * (r.2 - q.2) - (q.2 - p.2) * (r.1 - q.1)
theorem turn_ok {p q r : Int × Int} (h1 : Sm 20000 p.1) (h2 : Sm 20000 p.2) (h3 : Sm 20000 q.1) (h4 : Sm 20000 q.2) (h5 : Sm 20000 r.1) (h6 : Sm 20000 r.2) : m_turn [ipairD p, ipairD q, ipairD r] = some (.int (turnP p q r)) := by
  have e1 := dMul_sm (h3.sub h1) (h6.sub h4)
  have e2 := dMul_sm (h4.sub h2) (h5.sub h3)
  exact run_of rfl (ρ := [.dat (ipairD p), .dat (ipairD q), .dat (ipairD r)]) (sv_ret (ev_op (ev_op (ev_op (ev_op rfl rfl rfl) (ev_op rfl rfl rfl) rfl) (ev_op (ev_op rfl rfl rfl) (ev_op rfl rfl rfl) rfl) e1) (ev_op (ev_op (ev_op rfl rfl rfl) (ev_op rfl rfl rfl) rfl) (ev_op (ev_op rfl rfl rfl) (ev_op rfl rfl rfl) rfl) e2) rfl))
def pt (C : List (Int × Int)) (i : Nat) : Int × Int := C.getD (i % C.length) (0, 0)
def oth (n at_ : Nat) : List Nat := (List.range n).filter fun k => decide (k ≠ at_) && decide (k ≠ (at_ + n - 1) % n)
def sideB (C : List (Int × Int)) (at_ : Nat) : Bool := (oth C.length at_).all fun k => decide (0 < turnP (pt C (at_ + C.length - 1)) (pt C at_) (pt C k))
theorem pt_get {C : List (Int × Int)} {i : Nat} (h : i < C.length) : pt C i = C[i] := by
  unfold pt
  rw [Nat.mod_eq_of_lt h, getD_of h]
theorem pt_mod (C : List (Int × Int)) (i : Nat) : pt C (i % C.length) = pt C i := by unfold pt; rw [Nat.mod_mod]
theorem enumD_map (C : List (Int × Int)) : enumD (C.map ipairD) = (List.range C.length).map fun i => .tup [.int (i : Nat), ipairD (pt C i)] := by
  apply List.ext_getElem?
  intro i
  unfold enumD
  by_cases hi : i < C.length
  · rw [List.getElem?_mapIdx, List.getElem?_map, List.getElem?_eq_getElem hi, List.getElem?_map, List.getElem?_range hi]
    simp [pt_get hi]
  · rw [List.getElem?_eq_none (by simp; omega), List.getElem?_eq_none (by simp; omega)]
theorem side_ok {C : List (Int × Int)} (hl : C.length < 100) (hC : ∀ q, q ∈ C → Sm 20000 q.1 ∧ Sm 20000 q.2) {at_ : Nat} (ha : at_ < C.length) : m_is_side [.lst (C.map ipairD), .int (at_ : Int)] = some (.bl (sideB C at_)) := by
  have n0 : 0 < C.length := by omega
  have hm : (at_ + C.length - 1) % C.length < C.length := Nat.mod_lt _ n0
  have i1 : L2.atI (C.map ipairD) ((at_ : Int) - 1) = some (ipairD (pt C (at_ + C.length - 1))) := by
    rw [atI_pred (by simpa using ha)]
    rw [← pt_mod, pt_get hm]
    simp
  have i2 : L2.atI (C.map ipairD) (at_ : Int) = some (ipairD (pt C at_)) := by
    rw [atI_nat (by simpa using ha), pt_get ha]
    simp
  have em : dMod (.int ((at_ : Int) - 1)) (.int (C.length : Int)) = some (.int (((at_ + C.length - 1) % C.length : Nat) : Int)) := by
    rw [dMod_pos (by omega)]
    have : ((at_ + C.length - 1 : Nat) : Int) = ((at_ : Int) - 1) + C.length := by omega
    rw [Int.natCast_emod, this, Int.add_emod_right]
  have en : dEnum (dCons (dVar 0) dNil) [.dat (.lst (C.map ipairD)), .dat (.int (at_ : Int)), .dat (ipairD (pt C (at_ + C.length - 1))), .dat (ipairD (pt C at_)), .un, .un, .un, .un] = some ((List.range C.length).map fun i => .tup [.int (i : Nat), ipairD (pt C i)], [.dat (.lst (C.map ipairD)), .dat (.int (at_ : Int)), .dat (ipairD (pt C (at_ + C.length - 1))), .dat (ipairD (pt C at_)), .un, .un, .un, .un]) := by
    rw [← enumD_map]
    rfl
  have hlc := lcL_fm (g := gTupD (gsCons (gSet 5) (gsCons (gSet 6) (gsNil))) 2) (t := dB (dOp dNotIn2 (dVar 5) (dTup (dCons (dVar 1) (dCons (dOp dMod (dOp dSub (dVar 1) (dC (.int 1))) (dCall dLen (dCons (dVar 0) (dNil)))) (dNil)))))) (f := dVar 6) (vs := [5, 6])
    (ρ := [.dat (.lst (C.map ipairD)), .dat (.int (at_ : Int)), .dat (ipairD (pt C (at_ + C.length - 1))), .dat (ipairD (pt C at_)), .un, .un, .un, .un])
    (c := fun d => match d with | .tup [.int k, _] => decide (k.toNat ≠ at_) && decide (k.toNat ≠ (at_ + C.length - 1) % C.length) | _ => false) (F := ptY)
    ((List.range C.length).map fun i => .tup [.int (i : Nat), ipairD (pt C i)]) [] (fun d hd => by
      obtain ⟨i, hi, rfl⟩ := List.mem_map.mp hd
      have hi := List.mem_range.mp hi
      refine ⟨[.dat (.lst (C.map ipairD)), .dat (.int (at_ : Int)), .dat (ipairD (pt C (at_ + C.length - 1))), .dat (ipairD (pt C at_)), .un, .dat (.int (i : Nat)), .dat (ipairD (pt C i)), .un], rfl, ?_, rfl, rfl, rfl⟩
      refine tv_b (ev_op rfl (ev_tup (ev_cons rfl (ev_cons (ev_op (ev_op rfl rfl rfl) (ev_call (ev_cons rfl rfl) (by show some (D.int ((C.map ipairD).length : Nat)) = some (D.int (C.length : Int)); rw [List.length_map])) em) rfl)) (by simp [lim])) ?_)
      show some (D.bl (!([(at_ : Int), (((at_ + C.length - 1) % C.length : Nat) : Int)].any fun z => z == ((i : Nat) : Int)))) = some (D.bl _)
      congr 2
      show (!(((at_ : Int) == (i : Int)) || (((((at_ + C.length - 1) % C.length : Nat) : Int) == (i : Int)) || false))) = (decide ((i : Int).toNat ≠ at_) && decide ((i : Int).toNat ≠ (at_ + C.length - 1) % C.length))
      rw [Int.toNat_natCast]
      generalize (at_ + C.length - 1) % C.length = m
      have b1 : ∀ x y : Nat, ((x : Int) == (y : Int)) = decide (y = x) := fun x y => by
        by_cases q : y = x
        · subst q; simp
        · rw [decide_eq_false q]; simp; omega
      rw [b1, b1, Bool.or_false, Bool.not_or]
      by_cases q1 : i = at_ <;> by_cases q2 : i = m <;> simp [q1, q2]) (by simp [lim]; omega)
  rw [List.nil_append] at hlc
  have hfl : (((List.range C.length).map fun i => D.tup [.int (i : Nat), ipairD (pt C i)]).filter fun d => match d with | .tup [.int k, _] => decide (k.toNat ≠ at_) && decide (k.toNat ≠ (at_ + C.length - 1) % C.length) | _ => false).map ptY = (oth C.length at_).map fun k => ipairD (pt C k) := by
    rw [List.filter_map, List.map_map]
    unfold oth
    congr 1
  rw [hfl] at hlc
  have lo : (oth C.length at_).length ≤ C.length := by
    unfold oth
    have := List.length_filter_le (fun k => decide (k ≠ at_) && decide (k ≠ (at_ + C.length - 1) % C.length)) (List.range C.length)
    rwa [List.length_range] at this
  have sP : ∀ k, Sm 20000 (pt C k).1 ∧ Sm 20000 (pt C k).2 := fun k => by
    have hk : k % C.length < C.length := Nat.mod_lt _ n0
    rw [← pt_mod, pt_get hk]
    exact hC _ (List.getElem_mem hk)
  have c2 : dLc (dItems (dVar 4)) (gSet 7) (dYes) (dOp dGt (dCall m_turn (dCons (dVar 2) (dCons (dVar 3) (dCons (dVar 7) (dNil))))) (dC (.int 0))) [7] [.dat (.lst (C.map ipairD)), .dat (.int (at_ : Int)), .dat (ipairD (pt C (at_ + C.length - 1))), .dat (ipairD (pt C at_)), .dat (.lst ((oth C.length at_).map fun k => ipairD (pt C k))), .un, .un, .un] =
      some (.lst (((oth C.length at_).map fun k => ipairD (pt C k)).map fun d => .bl (match d with | .tup [.int a, .int b] => decide (0 < turnP (pt C (at_ + C.length - 1)) (pt C at_) (a, b)) | _ => false)), [.dat (.lst (C.map ipairD)), .dat (.int (at_ : Int)), .dat (ipairD (pt C (at_ + C.length - 1))), .dat (ipairD (pt C at_)), .dat (.lst ((oth C.length at_).map fun k => ipairD (pt C k))), .un, .un, .un]) := by
    refine lc_items _ rfl (by rw [List.length_map]; omega) rfl fun d hd => ?_
    obtain ⟨k, _, rfl⟩ := List.mem_map.mp hd
    exact ev_op (ev_call (ev_cons rfl (ev_cons rfl (ev_cons rfl rfl))) (turn_ok (sP _).1 (sP _).2 (sP _).1 (sP _).2 (sP k).1 (sP k).2)) rfl rfl
  refine run_of rfl (ρ := [.dat (.lst (C.map ipairD)), .dat (.int (at_ : Int)), .dat (ipairD (pt C (at_ + C.length - 1))), .dat (ipairD (pt C at_)), .dat (.lst ((oth C.length at_).map fun k => ipairD (pt C k))), .un, .un, .un]) ?_
  refine sv_seq (sv_asgG (ev_tup (ev_cons (ev_op rfl (ev_op rfl rfl rfl) i1) (ev_cons (ev_op rfl rfl i2) rfl)) (by simp [lim])) rfl) (sv_seq (sv_asg (dLc_of en rfl rfl hlc rfl) rfl) (sv_ret (ev_call (ev_cons c2 rfl) ?_)))
  rw [all_fold]
  congr 2
  unfold sideB
  rw [List.all_map]
  rfl
/-! ### all corners to the left of each side, told by the walk -/
def frameB (C : List (Int × Int)) : Bool := (List.range C.length).all (sideB C)
theorem walk {C : List (Int × Int)} (h : 3 ≤ C.length) : Poly.Walk C.length (wayF C) (pt C) := ⟨h, fun i => rfl, fun i => by unfold pt; rw [Nat.add_mod_right]⟩
theorem turn_cr (C : List (Int × Int)) (i k : Nat) : turnP (pt C i) (pt C (i + 1)) (pt C k) = Poly.cr (wayF C i) (Poly.sb (pt C k) (pt C i)) := by
  show turnP (pt C i) (pt C (i + 1)) (pt C k) = Poly.cr (Poly.sb (pt C (i + 1)) (pt C i)) (Poly.sb (pt C k) (pt C i))
  unfold turnP Poly.cr Poly.sb
  dsimp only
  grind
theorem mod_add {n i k : Nat} (hi : i < n) (hk : k < n) : (i + k) % n = if i + k < n then i + k else i + k - n := by
  split
  · exact Nat.mod_eq_of_lt (by assumption)
  · rw [Nat.mod_eq_sub_mod (by omega), Nat.mod_eq_of_lt (by omega)]
theorem frameB_left {C : List (Int × Int)} (h3 : 3 ≤ C.length) : frameB C = true ↔ Poly.AllLeft C.length (wayF C) (pt C) := by
  have W := walk h3
  unfold frameB
  rw [List.all_eq_true]
  constructor
  · intro h i d d2 dn
    rw [← turn_cr]
    have hi : i % C.length < C.length := Nat.mod_lt _ (by omega)
    have e1 : (i + 1) % C.length = if i % C.length + 1 < C.length then i % C.length + 1 else i % C.length + 1 - C.length := by rw [← Nat.mod_add_mod, mod_add hi (by omega)]
    have e2 : (i + d) % C.length = if i % C.length + d < C.length then i % C.length + d else i % C.length + d - C.length := by rw [← Nat.mod_add_mod, mod_add hi dn]
    have hp : ((i + 1) % C.length + C.length - 1) % C.length = i % C.length := by
      rw [e1]
      split
      · rw [show i % C.length + 1 + C.length - 1 = i % C.length + C.length by omega, Nat.add_mod_right, Nat.mod_mod]
      · rw [show i % C.length + 1 - C.length + C.length - 1 = i % C.length by omega, Nat.mod_mod]
    have := h ((i + 1) % C.length) (List.mem_range.mpr (Nat.mod_lt _ (by omega)))
    unfold sideB at this
    rw [List.all_eq_true] at this
    have := this ((i + d) % C.length) (by
      unfold oth
      rw [List.mem_filter]
      refine ⟨List.mem_range.mpr (Nat.mod_lt _ (by omega)), ?_⟩
      rw [hp, Bool.and_eq_true, decide_eq_true_eq, decide_eq_true_eq, e1, e2]
      constructor <;> (repeat' split) <;> omega)
    have := of_decide_eq_true this
    rw [← pt_mod C ((i + 1) % C.length + C.length - 1), hp, pt_mod, pt_mod, pt_mod] at this
    exact this
  · intro A at_ ha
    have ha := List.mem_range.mp ha
    unfold sideB
    rw [List.all_eq_true]
    intro k hk
    unfold oth at hk
    rw [List.mem_filter, Bool.and_eq_true, decide_eq_true_eq, decide_eq_true_eq] at hk
    obtain ⟨hk, k1, k2⟩ := hk
    have hk := List.mem_range.mp hk
    apply decide_eq_true
    -- the side begins at i
    obtain ⟨i, hi, hi1⟩ : ∃ i, i < C.length ∧ ((i + 1 = at_) ∨ (at_ = 0 ∧ i + 1 = C.length)) := by
      by_cases z : at_ = 0
      · exact ⟨C.length - 1, by omega, .inr ⟨z, by omega⟩⟩
      · exact ⟨at_ - 1, by omega, .inl (by omega)⟩
    have e1 : pt C (at_ + C.length - 1) = pt C i := by
      rcases hi1 with z | ⟨z1, z2⟩
      · rw [show at_ + C.length - 1 = i + C.length by omega, W.per]
      · rw [show at_ + C.length - 1 = i by omega]
    have e2 : pt C at_ = pt C (i + 1) := by
      rcases hi1 with z | ⟨z1, z2⟩
      · rw [z]
      · rw [z1, show i + 1 = 0 + C.length by omega, W.per]
    have e3 : (at_ + C.length - 1) % C.length = i := by
      rcases hi1 with z | ⟨z1, z2⟩
      · rw [show at_ + C.length - 1 = i + C.length by omega, Nat.add_mod_right, Nat.mod_eq_of_lt hi]
      · rw [show at_ + C.length - 1 = i by omega, Nat.mod_eq_of_lt hi]
    rw [e3] at k2
    rw [e1, e2, turn_cr]
    by_cases q : i < k
    · have := A i (k - i) (by omega) (by omega)
      rwa [show i + (k - i) = k by omega] at this
    · have := A i (k + C.length - i) (by omega) (by omega)
      rwa [show i + (k + C.length - i) = k + C.length by omega, W.per] at this
theorem frameB_goes {C : List (Int × Int)} (h3 : 3 ≤ C.length) : frameB C = goesP C := by
  have W := walk h3
  have up_iff : ∀ p, upP p = true ↔ Poly.Up p := fun p => by
    unfold upP Poly.Up
    rw [Bool.or_eq_true, Bool.and_eq_true, decide_eq_true_eq, decide_eq_true_eq, decide_eq_true_eq]
  have hm := Poly.main W (p := fun i => upP (wayF C i) && !upP (wayF C ((i + C.length - 1) % C.length))) (fun i => by
    rw [Bool.and_eq_true, wayF_mod, Bool.not_eq_true', ← Bool.not_eq_true, up_iff, up_iff]
    exact Iff.rfl)
  rw [Bool.eq_iff_iff, frameB_left h3, hm, goes_nf, Bool.and_eq_true, decide_eq_true_eq, List.all_eq_true]
  refine and_congr ⟨fun T i _ => decide_eq_true (T i), fun h i => ?_⟩ Iff.rfl
  have := of_decide_eq_true (h (i % C.length) (List.mem_range.mpr (Nat.mod_lt _ (by omega))))
  rw [wayF_mod, ← wayF_mod C (i % C.length + 1), Nat.mod_add_mod, wayF_mod] at this
  exact this
/-! ### in one measure, in two -/
theorem frame_scale {ps : List D} {S T M : Int} (h : Good2 ps S T) (g : Good ps M) : frameB (ps.map (scl2 S T)) = frameB (ps.map (scl M)) := by
  have hc : ∀ i, ps ≠ [] → M * (pt (ps.map (scl2 S T)) i).1 = S * (pt (ps.map (scl M)) i).1 ∧ M * (pt (ps.map (scl2 S T)) i).2 = T * (pt (ps.map (scl M)) i).2 := fun i hne => by
    have hk : i % ps.length < ps.length := Nat.mod_lt _ (by cases ps with | nil => exact absurd rfl hne | cons a r => simp)
    have l1 : (ps.map (scl2 S T)).length = ps.length := List.length_map _
    have l2 : (ps.map (scl M)).length = ps.length := List.length_map _
    rw [← pt_mod, ← pt_mod (ps.map (scl M)), l1, l2, pt_get (by rw [l1]; exact hk), pt_get (by rw [l2]; exact hk), List.getElem_map, List.getElem_map]
    obtain ⟨⟨a, ea⟩, ⟨b, eb⟩⟩ := h.2.2 _ (List.getElem_mem hk)
    obtain ⟨⟨c, ec⟩, ⟨d, ed⟩⟩ := g.2 _ (List.getElem_mem hk)
    generalize ps[i % ps.length] = p at *
    have pS := h.1
    have pT := h.2.1
    have pM := g.1
    have n1 : (ptOf p).2.1 ≠ 0 := fun z => by rw [z] at ea; omega
    have n2 : (ptOf p).2.2.2 ≠ 0 := fun z => by rw [z] at eb; omega
    unfold scl2 scl
    dsimp only
    rw [ea, eb]
    have q1 : M / (ptOf p).2.1 = c := by rw [ec, Int.mul_ediv_cancel_left _ n1]
    have q2 : M / (ptOf p).2.2.2 = d := by rw [ed, Int.mul_ediv_cancel_left _ n2]
    rw [q1, q2, Int.mul_ediv_cancel_left _ n1, Int.mul_ediv_cancel_left _ n2]
    constructor
    · rw [ec]; grind
    · rw [ed]; grind
  unfold frameB
  rw [List.length_map, List.length_map]
  by_cases hne : ps = []
  · subst hne; rfl
  congr 1
  funext at_
  unfold sideB
  rw [List.length_map, List.length_map]
  congr 1
  funext k
  obtain ⟨x1, y1⟩ := hc (at_ + ps.length - 1) hne
  obtain ⟨x2, y2⟩ := hc at_ hne
  obtain ⟨x3, y3⟩ := hc k hne
  generalize pt (ps.map (scl2 S T)) (at_ + ps.length - 1) = a at *
  generalize pt (ps.map (scl2 S T)) at_ = b at *
  generalize pt (ps.map (scl2 S T)) k = c at *
  generalize pt (ps.map (scl M)) (at_ + ps.length - 1) = a' at *
  generalize pt (ps.map (scl M)) at_ = b' at *
  generalize pt (ps.map (scl M)) k = c' at *
  have e : M * (M * turnP a b c) = S * (T * turnP a' b' c') := by
    have k1 : M * (M * turnP a b c) = (M * b.1 - M * a.1) * (M * c.2 - M * b.2) - (M * b.2 - M * a.2) * (M * c.1 - M * b.1) := by unfold turnP; grind
    rw [k1, x1, x2, x3, y1, y2, y3]
    unfold turnP
    grind
  rw [← pos_mul g.1, ← pos_mul g.1, e, pos_mul h.1, pos_mul h.2.1]
theorem prog_frame (s : Int) (d : D) (h3 : 3 ≤ s) (h8 : s ≤ 8) (v : Val 1662 d) : ∃ b, m_is_frame [.int s, d] = some (.bl b) ∧ Judge s d b := by
  have hp := ppoints_ok v s
  have e1 : dCall m_are_points (dCons (dVar 1) (dCons (dVar 0) (dNil))) [.dat (.int s), .dat d, .un, .un, .un] = some (.bl (arePtsB s d), [.dat (.int s), .dat d, .un, .un, .un]) := ev_call (ev_cons rfl (ev_cons rfl rfl)) hp
  by_cases c : arePtsB s d = true
  · obtain ⟨ps, rfl⟩ : ∃ ps, d = .tup ps := by cases d <;> first | exact ⟨_, rfl⟩ | cases c
    have c' : (decide ((ps.length : Int) = s) && ps.all isPtB) = true := c
    rw [Bool.and_eq_true, decide_eq_true_eq] at c'
    obtain ⟨c1, c2⟩ := c'
    rw [c] at e1
    have hx : ∀ p, p ∈ ps → PtD 1662 p := fun p hp => by
      cases v with
      | tup hx _ => exact pt_of (List.all_eq_true.mp c2 p hp) (hx p hp)
    obtain ⟨S, T, z, hg, e2, sm⟩ := stretched_ok (Nat.le_refl _) (ps := ps) (by omega) hx
    obtain ⟨M, hM, hd, _, _⟩ := whole_ok (n := 1662) (by decide) hx (by omega)
    have g : Good ps M := ⟨hM, hd⟩
    have l1 : (ps.map (scl2 S T)).length = ps.length := List.length_map _
    have hall : dLc (dRng1 (dCons (dVar 0) (dNil))) (gSet 4) (dYes) (dCall m_is_side (dCons (dVar 3) (dCons (dVar 4) (dNil)))) [4] [.dat (.int s), .dat (.tup ps), .dat (.int z), .dat (.lst ((ps.map (scl2 S T)).map ipairD)), .un] =
        some (.lst ((List.range ps.length).map fun i => .bl (sideB (ps.map (scl2 S T)) i)), [.dat (.int s), .dat (.tup ps), .dat (.int z), .dat (.lst ((ps.map (scl2 S T)).map ipairD)), .un]) := by
      refine lc_rng (n := ps.length) _ (by rw [c1]; rfl) (by omega) rfl fun j hj => ?_
      exact ev_call (ev_cons rfl (ev_cons rfl rfl)) (side_ok (by rw [l1]; omega) sm (by rw [l1]; exact hj))
    have hfold : dFold (fun bs => .bl (bs.all id)) [.lst ((List.range ps.length).map fun i => .bl (sideB (ps.map (scl2 S T)) i))] = some (.bl (frameB (ps.map (scl2 S T)))) := by
      have : ((List.range ps.length).map fun i => D.bl (sideB (ps.map (scl2 S T)) i)) = ((List.range ps.length).map (sideB (ps.map (scl2 S T)))).map D.bl := by rw [List.map_map]; rfl
      rw [this]
      show (match blsOf (((List.range ps.length).map (sideB (ps.map (scl2 S T)))).map D.bl) with
        | some bs => some ((fun bs : List Bool => D.bl (bs.all id)) bs)
        | none => none) = _
      rw [blsOf_map]
      unfold frameB
      rw [l1]
      show some (D.bl (((List.range ps.length).map (sideB (ps.map (scl2 S T)))).all id)) = _
      rw [List.all_map]
      rfl
    refine ⟨frameB (ps.map (scl2 S T)), run_of rfl (ρ := [.dat (.int s), .dat (.tup ps), .dat (.int z), .dat (.lst ((ps.map (scl2 S T)).map ipairD)), .un]) (sv_seq (sv_ifF (tv_not (b := true) (tv_b e1)) rfl) (sv_seq (sv_asgG (ev_call (ev_cons rfl rfl) e2) rfl) (sv_ret (ev_call (ev_cons hall rfl) hfold)))), .inl ⟨ps, rfl, c1, c2, M, g, ?_⟩⟩
    rw [frame_scale hg g, frameB_goes (by rw [List.length_map]; omega)]
  · rw [Bool.eq_false_iff.mpr c] at e1
    refine ⟨false, run_of rfl (ρ := [.dat (.int s), .dat d, .un, .un, .un]) (sv_seqR (sv_ifT (tv_not (b := false) (tv_b e1)) (sv_ret rfl))), .inr ⟨fun ⟨qs, e, k1, k2⟩ => ?_, rfl⟩⟩
    subst e
    apply c
    show (decide ((qs.length : Int) = s) && qs.all isPtB) = true
    rw [Bool.and_eq_true, decide_eq_true_eq]
    exact ⟨k1, k2⟩
/-! ### plain frames -/
theorem sides_ok {d : D} (v : Val 1662 d) : m_are_sides [d] = some (.bl (isSidesB d)) := by
  have hi := isint_ok v
  have e1 : dCall m_is_integer (dCons (dVar 0) (dNil)) [.dat d] = some (.bl (isIntB d), [.dat d]) := ev_call (ev_cons rfl rfl) hi
  refine run_of rfl (ρ := [.dat d]) (sv_ret ?_)
  by_cases c : isIntB d = true
  · obtain ⟨s, rfl⟩ : ∃ s, d = .int s := by cases d <;> first | exact ⟨_, rfl⟩ | cases c
    refine ev_andT e1 ?_
    show (match some (D.bl (decide ((3 : Int) ≤ s))) with
      | some (.bl true) => (match some (D.bl (decide (s ≤ 8))) with
        | some d => some (d, [Sl.dat (.int s)])
        | none => none)
      | some (.bl false) => some (.bl false, [Sl.dat (.int s)])
      | _ => none) = some (D.bl (decide (3 ≤ s) && decide (s ≤ 8)), [Sl.dat (.int s)])
    cases decide (3 ≤ s) <;> rfl
  · rw [Bool.eq_false_iff.mpr c] at e1
    have : isSidesB d = false := by cases d <;> first | rfl | exact absurd rfl c
    rw [this]
    exact ev_andF e1
theorem prog_plain (s : Int) (h3 : 3 ≤ s) (h8 : s ≤ 8) : m_plain_frame [.int s] = some (plainD s) := by
  have hi := sides_ok (d := .int s) (.int (Sm.up (n := 4) (Sm.of (by omega) (by omega)) (by decide)))
  have ht : isSidesB (.int s) = true := by show (decide (3 ≤ s) && decide (s ≤ 8)) = true; rw [decide_eq_true h3, decide_eq_true h8]; rfl
  rw [ht] at hi
  have hlc : dLc (dRng1 (dCons (dVar 0) (dNil))) (gSet 1) (dYes) (dTup (dCons (dTup (dCons (dVar 1) (dCons (dC (.int 1)) (dNil)))) (dCons (dTup (dCons (dOp dMul (dVar 1) (dVar 1)) (dCons (dC (.int 1)) (dNil)))) (dNil)))) [1] [.dat (.int s), .un] =
      some (.lst ((List.range s.toNat).map fun j => .tup [.tup [.int (j : Nat), .int 1], .tup [.int ((j : Nat) * (j : Nat)), .int 1]]), [.dat (.int s), .un]) := by
    refine lc_rng (n := s.toNat) _ (by rw [Int.toNat_of_nonneg (by omega)]; rfl) (by omega) rfl fun j hj => ?_
    have sj : Sm 4 (j : Int) := Sm.of (by omega) (by omega)
    exact ev_tup (ev_cons (ev_tup (ev_cons rfl (ev_cons rfl rfl)) (by simp [lim])) (ev_cons (ev_tup (ev_cons (ev_op rfl rfl (dMul_sm sj sj)) (ev_cons rfl rfl)) (by simp [lim])) rfl)) (by simp [lim])
  exact run_of rfl (ρ := [.dat (.int s), .un]) (sv_seq (sv_ifF (tv_not (b := true) (tv_b (ev_call (ev_cons rfl rfl) hi))) rfl) (sv_ret (ev_call (ev_cons hlc rfl) rfl)))
theorem runE_ex {g : FS} {n m : Nat} {ds : List D} {c : Str} {fs : Option (List (Str × D))} {ρ : DE} (hl : ds.length = m) (h : g (st0 n ds) = some (.ex c fs, ρ)) : runE g n m ds = some (.er c fs) := by
  unfold runE
  rw [if_pos hl, h]
theorem sv_seqX {g h : FS} {c : Str} {fs : Option (List (Str × D))} {ρ ρ1 : DE} (h1 : g ρ = some (.ex c fs, ρ1)) : dSeq g h ρ = some (.ex c fs, ρ1) := by unfold dSeq; rw [h1]
theorem prog_refuse (d : D) (v : Val 1662 d) (h : isSidesB d = false) : mE_plain_frame [d] = some (.er "NoSides" none) := by
  have hi := sides_ok v
  rw [h] at hi
  exact runE_ex (ρ := [.dat d, .un]) rfl (sv_seqX (sv_ifT (tv_not (b := false) (tv_b (ev_call (ev_cons rfl rfl) hi))) rfl))
theorem prog : Prog := ⟨fun s d h3 h8 v _ => prog_frame s d h3 h8 v, prog_plain, prog_refuse⟩
end K18
theorem PySem.Challenge.cw_threeexits_k18_frames_judged_holds : PySem.Challenge.rw_threeexits_k18_frames_judged.Holds :=
  K18.holds2 K18.prog

