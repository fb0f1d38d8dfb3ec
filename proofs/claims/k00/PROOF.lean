import PyProof.Rows.All
import Wide.All
import OpenK.AllK
import Wide.FinOn
import HandS.ForMost
import HandS.ForExc
import HandS.Deep
import HandS.ExcValue
import HandS.ExcInit
import HandS.TupAny
import HandS.TupLe
import HandS.IsInst
import HandS.CallSlots
import HandS.TupSets
import HandS.SetBool
import HandS.SortRule
import HandS.SortInts
import HandS.Conv
import HandS.DictComp
import HandS.DictTup
import HandS.Small
import HandS.AnyAll
import KE.GoesMore
import KE.GoesEnum
import HandS.SetFor
import HandS.TupMul
import PyProof.SeqIndex
import HandS.ExcCtx
import HandS.ExcIs
import HandS.DeepEq
import KE.KEqNest
import HandS.ExcField
import KE.KExcIs
import PyProof.ExcBaseAll.ValueError
import PySem.Challenge.RW_turnedapart_k00_errors_and_their_fields
set_option Elab.async false
set_option linter.all false
set_option maxRecDepth 100000
set_option autoImplicit false
-- DA
namespace DL
open PySem PySem.Spec PyProof.Rows L2

/-- data -/
inductive D where
  | non | bl (b : Bool) | int (i : Int) | str (x : Str)
  | tup (xs : List D) | lst (xs : List D)
  | dk (kvs : List (Key × D)) | dt (kvs : List (List Key × D))
  | ins (c : Str) (fs : List (Str × D))
  | scr (ns : List Int)
  /-- a caught exception's object; a tuple whose object is known -/
  | exc (a : Addr) | tpf (xs : List D)
  /-- an own error as a value: without a field, with one -/
  | ex0 (c : Str) | ex1 (c f : Str) (d : D)

mutual
/-- v is the data d, by what stands in F (which never changes) -/
inductive Is (K : PySem.W.Frag) (mg : Str → Option Value) (F : Hp) : V → D → Prop
  | non : Is K mg F .non .non
  | bl (b : Bool) : Is K mg F (.bl b) (.bl b)
  | int (i : Int) : Is K mg F (.int i) (.int i)
  | str (x : Str) : Is K mg F (.str x) (.str x)
  | tup {a : Addr} {vs : List V} {ds : List D} : F a = some (.tup vs) → IsAll K mg F vs ds → Is K mg F (.ref a) (.tup ds)
  | lst {a : Addr} {vs : List V} {ds : List D} : F a = some (.lst vs) → IsAll K mg F vs ds → Is K mg F (.ref a) (.lst ds)
  | scr {a : Addr} {ns : List Int} : SqL K F a (ns.map V.int) → Is K mg F (.ref a) (.scr ns)
  | exc (a : Addr) : Is K mg F (.ref a) (.exc a)
  | tpf {a : Addr} {o : Obj} {vs : List V} {ds : List D} : F a = some (.frz o (.tup vs)) → o.dict = none → IsAll K mg F vs ds → Is K mg F (.ref a) (.tpf ds)
  | ex0 {a C : Addr} {c : Str} : mg c = some (.ref C) → F a = some (ExO (.ref C) a) → Is K mg F (.ref a) (.ex0 c)
  | ex1 {a C dx : Addr} {c f : Str} {v : V} {d : D} : mg c = some (.ref C) → F a = some (exo a C (some dx)) → F dx = some (exd dx [(f, v)]) → Is K mg F v d → Is K mg F (.ref a) (.ex1 c f d)
  | dk {a : Addr} {vs : List (Key × V)} {kvs : List (Key × D)} : F a = some (.dK vs) → vs.map (·.1) = kvs.map (·.1) → IsAll K mg F (vs.map (·.2)) (kvs.map (·.2)) → Is K mg F (.ref a) (.dk kvs)
  | dt {a : Addr} {vs : List (List Key × V)} {kvs : List (List Key × D)} : F a = some (.dT vs) → vs.map (·.1) = kvs.map (·.1) → IsAll K mg F (vs.map (·.2)) (kvs.map (·.2)) → Is K mg F (.ref a) (.dt kvs)
  | ins {a C dx : Addr} {c : Str} {vs : List (Str × V)} {fs : List (Str × D)} : mg c = some (.ref C) → F a = some (.ins C dx vs) → vs.map (·.1) = fs.map (·.1) → IsAll K mg F (vs.map (·.2)) (fs.map (·.2)) → Is K mg F (.ref a) (.ins c fs)
/-- item by item -/
inductive IsAll (K : PySem.W.Frag) (mg : Str → Option Value) (F : Hp) : List V → List D → Prop
  | nil : IsAll K mg F [] []
  | cons {v : V} {vs : List V} {d : D} {ds : List D} : Is K mg F v d → IsAll K mg F vs ds → IsAll K mg F (v :: vs) (d :: ds)
end

theorem sqT_mono {K : PySem.W.Frag} {H H' : Hp} {a : Addr} {xs : List V} (e : Same H H') (h : SqT K H a xs) : SqT K H' a xs := by
  rcases h with (h | ⟨o, h⟩) | h
  · exact .inl (.inl (e _ _ h))
  · exact .inl (.inr ⟨o, e _ _ h⟩)
  · exact .inr h
theorem tpfS {K : PySem.W.Frag} {H H' : Hp} {a : Addr} {o : Obj} {xs : List V} (e : Same H H') (h : H a = some (.frz o (.tup xs))) : SqT K H' a xs := .inl (.inr ⟨o, e _ _ h⟩)
theorem tupS {K : PySem.W.Frag} {H H' : Hp} {a : Addr} {xs : List V} (e : Same H H') (h : H a = some (.tup xs)) : SqT K H' a xs := .inl (.inl (e _ _ h))
section
variable {K : PySem.W.Frag} {mg : Str → Option Value} {F F' : Hp}
mutual
theorem Is.mono (s : Same F F') : ∀ {v : V} {d : D}, Is K mg F v d → Is K mg F' v d
  | _, _, .non => .non
  | _, _, .bl b => .bl b
  | _, _, .int i => .int i
  | _, _, .str x => .str x
  | _, _, .tup q r => .tup (s _ _ q) (IsAll.mono s r)
  | _, _, .lst q r => .lst (s _ _ q) (IsAll.mono s r)
  | _, _, .scr q => .scr (s.seq q)
  | _, _, .exc a => .exc a
  | _, _, .tpf q n r => .tpf (s _ _ q) n (IsAll.mono s r)
  | _, _, .ex0 m q => .ex0 m (s _ _ q)
  | _, _, .ex1 m q q2 r => .ex1 m (s _ _ q) (s _ _ q2) (Is.mono s r)
  | _, _, .dk q k r => .dk (s _ _ q) k (IsAll.mono s r)
  | _, _, .dt q k r => .dt (s _ _ q) k (IsAll.mono s r)
  | _, _, .ins m q k r => .ins m (s _ _ q) k (IsAll.mono s r)
theorem IsAll.mono (s : Same F F') : ∀ {vs : List V} {ds : List D}, IsAll K mg F vs ds → IsAll K mg F' vs ds
  | _, _, .nil => .nil
  | _, _, .cons h t => .cons (Is.mono s h) (IsAll.mono s t)
end
theorem IsAll.length : ∀ {vs : List V} {ds : List D}, IsAll K mg F vs ds → vs.length = ds.length
  | _, _, .nil => rfl
  | _, _, .cons _ t => congrArg (· + 1) (IsAll.length t)
theorem IsAll.append : ∀ {vs : List V} {ds : List D} {ws : List V} {es : List D}, IsAll K mg F vs ds → IsAll K mg F ws es → IsAll K mg F (vs ++ ws) (ds ++ es)
  | _, _, _, _, .nil, t => t
  | _, _, _, _, .cons h r, t => .cons h (IsAll.append r t)
theorem IsAll.get : ∀ {vs : List V} {ds : List D} {i : Nat} {d : D}, IsAll K mg F vs ds → ds[i]? = some d → ∃ v, vs[i]? = some v ∧ Is K mg F v d
  | _, _, _, _, .nil, e => by simp at e
  | _, _, 0, _, .cons h _, e => by
    simp at e
    subst e
    exact ⟨_, rfl, h⟩
  | _, _, i + 1, d, .cons _ t, e => by
    obtain ⟨v, h1, h2⟩ := IsAll.get (i := i) (d := d) t (by simpa using e)
    exact ⟨v, by simpa using h1, h2⟩
theorem IsAll.getV : ∀ {vs : List V} {ds : List D} {i : Nat} {v : V}, IsAll K mg F vs ds → vs[i]? = some v → ∃ d, ds[i]? = some d ∧ Is K mg F v d
  | _, _, _, _, .nil, e => by simp at e
  | _, _, 0, _, .cons h _, e => by
    simp at e
    subst e
    exact ⟨_, rfl, h⟩
  | _, _, i + 1, v, .cons _ t, e => by
    obtain ⟨d, h1, h2⟩ := IsAll.getV (i := i) (v := v) t (by simpa using e)
    exact ⟨d, by simpa using h1, h2⟩
theorem IsAll.set {v : V} {d : D} (h : Is K mg F v d) : ∀ {vs : List V} {ds : List D} (i : Nat), IsAll K mg F vs ds → IsAll K mg F (vs.set i v) (ds.set i d)
  | _, _, _, .nil => .nil
  | _, _, 0, .cons _ t => .cons h t
  | _, _, i + 1, .cons q t => .cons q (IsAll.set h i t)
theorem IsAll.drop : ∀ {vs : List V} {ds : List D} (n : Nat), IsAll K mg F vs ds → IsAll K mg F (vs.drop n) (ds.drop n)
  | _, _, 0, r => r
  | _, _, _ + 1, .nil => .nil
  | _, _, n + 1, .cons _ t => IsAll.drop n t
theorem IsAll.take : ∀ {vs : List V} {ds : List D} (n : Nat), IsAll K mg F vs ds → IsAll K mg F (vs.take n) (ds.take n)
  | _, _, 0, _ => .nil
  | _, _, _ + 1, .nil => .nil
  | _, _, n + 1, .cons h t => .cons h (IsAll.take n t)
theorem IsAll.eraseIdx : ∀ {vs : List V} {ds : List D} (n : Nat), IsAll K mg F vs ds → IsAll K mg F (vs.eraseIdx n) (ds.eraseIdx n)
  | _, _, _, .nil => .nil
  | _, _, 0, .cons _ t => t
  | _, _, n + 1, .cons h t => .cons h (IsAll.eraseIdx n t)
theorem IsAll.reverse : ∀ {vs : List V} {ds : List D}, IsAll K mg F vs ds → IsAll K mg F vs.reverse ds.reverse
  | _, _, .nil => .nil
  | _, _, .cons h t => by
    rw [List.reverse_cons, List.reverse_cons]
    exact (IsAll.reverse t).append (.cons h .nil)
theorem IsAll.replicate {v : V} {d : D} (h : Is K mg F v d) : ∀ n : Nat, IsAll K mg F (List.replicate n v) (List.replicate n d)
  | 0 => .nil
  | n + 1 => .cons h (IsAll.replicate h n)
theorem IsAll.ints : ∀ ns : List Int, IsAll K mg F (ns.map V.int) (ns.map D.int)
  | [] => .nil
  | n :: ns => .cons (.int n) (IsAll.ints ns)
theorem IsAll.nil_inv {ds : List D} (h : IsAll K mg F [] ds) : ds = [] := by cases h; rfl
theorem IsAll.cons_inv {v : V} {vs : List V} {ds : List D} (h : IsAll K mg F (v :: vs) ds) : ∃ d es, ds = d :: es ∧ Is K mg F v d ∧ IsAll K mg F vs es := by
  cases h with
  | cons h t => exact ⟨_, _, rfl, h, t⟩
end

/-- what an owned object holds: its items are frozen data -/
def Cont (K : PySem.W.Frag) (mg : Str → Option Value) (F H : Hp) (p : Addr) : D → Prop
  | .lst ds => ∃ vs, H p = some (.lst vs) ∧ IsAll K mg F vs ds
  | .dk kvs => ∃ vs : List (Key × V), H p = some (.dK vs) ∧ vs.map (·.1) = kvs.map (·.1) ∧ IsAll K mg F (vs.map (·.2)) (kvs.map (·.2))
  | .dt kvs => ∃ vs : List (List Key × V), H p = some (.dT vs) ∧ vs.map (·.1) = kvs.map (·.1) ∧ IsAll K mg F (vs.map (·.2)) (kvs.map (·.2))
  | .ins c fs => ∃ (C dx : Addr) (vs : List (Str × V)), mg c = some (.ref C) ∧ H p = some (.ins C dx vs) ∧ vs.map (·.1) = fs.map (·.1) ∧ IsAll K mg F (vs.map (·.2)) (fs.map (·.2))
  | _ => False
section
variable {K : PySem.W.Frag} {mg : Str → Option Value} {F F' H H' : Hp} {p : Addr} {d : D}
theorem Cont.there (h : Cont K mg F H p d) : ∃ o, H p = some o := by
  cases d <;> first
    | exact False.elim h
    | (obtain ⟨vs, e, _⟩ := h; exact ⟨_, e⟩)
    | (obtain ⟨C, dx, vs, _, e, _⟩ := h; exact ⟨_, e⟩)
theorem Cont.mono (h : Cont K mg F H p d) (s : Same F F') (e : H' p = H p) : Cont K mg F' H' p d := by
  cases d <;> first
    | exact False.elim h
    | (obtain ⟨vs, q, r⟩ := h; exact ⟨vs, e.trans q, r.mono s⟩)
    | (obtain ⟨vs, q, k, r⟩ := h; exact ⟨vs, e.trans q, k, r.mono s⟩)
    | (obtain ⟨C, dx, vs, m, q, k, r⟩ := h; exact ⟨C, dx, vs, m, e.trans q, k, r.mono s⟩)
/-- read as it stands -/
theorem Cont.view (h : Cont K mg F H p d) (s : Same F H) : Is K mg H (.ref p) d := by
  cases d <;> first
    | exact False.elim h
    | (obtain ⟨vs, q, r⟩ := h; exact .lst q (r.mono s))
    | (obtain ⟨vs, q, k, r⟩ := h; first | exact .dk q k (r.mono s) | exact .dt q k (r.mono s))
    | (obtain ⟨C, dx, vs, m, q, k, r⟩ := h; exact .ins m q k (r.mono s))
/-- frozen as it stands -/
theorem Cont.freeze (h : Cont K mg F H p d) (n : F p = none) : ∃ o, H p = some o ∧ Same F (upd F p o) ∧ Is K mg (upd F p o) (.ref p) d := by
  obtain ⟨o, e⟩ := h.there
  have s : Same F (upd F p o) := fun b x q => by rw [upd_ne (ne_of_none q n)]; exact q
  refine ⟨o, e, s, ?_⟩
  cases d <;> first
    | exact False.elim h
    | (obtain ⟨vs, q, r⟩ := h; rw [q] at e; cases e; exact .lst upd_same (r.mono s))
    | (obtain ⟨vs, q, k, r⟩ := h; rw [q] at e; cases e; first | exact .dk upd_same k (r.mono s) | exact .dt upd_same k (r.mono s))
    | (obtain ⟨C, dx, vs, m, q, k, r⟩ := h; rw [q] at e; cases e; exact .ins m upd_same k (r.mono s))
end

/-- what a slot holds: nothing that is known, frozen data, an object of its own -/
inductive Sl where
  | un | fr (d : D) | ow (d : D)
abbrev En := List Sl
/-- an exception: its class's name, what its field holds -/
structure Xn where
  cls : Str
  val : Option (Str × D)
inductive Rs (α : Type) where
  | ok (a : α) (e : En) | ex (x : Xn) (e : En) | no
abbrev M (α : Type) := En → Rs α
/-- a value that an expression gives: frozen data, a new object, what stands in a slot -/
inductive R where
  | fz (d : D) | fs (d : D) | sl (i : Nat)
inductive Fl where
  | nx | rt (r : R) | bk | ct

def M.ret {α : Type} (a : α) : M α := fun e => .ok a e
def M.bnd {α β : Type} (f : M α) (k : α → M β) : M β := fun e => match f e with
  | .ok a e' => k a e'
  | .ex x e' => .ex x e'
  | .no => .no
def M.get {α : Type} (f : En → Option α) : M α := fun e => match f e with
  | some a => .ok a e
  | none => .no

def Own (E : En) (σ : L2.St) (a : Addr) : Prop := ∃ (i : Nat) (d : D), E[i]? = some (.ow d) ∧ σ[i]? = some (some (V.ref a))

structure RelK (K : PySem.W.Frag) (mg : Str → Option Value) (F : Hp) (E : En) (σ : L2.St) (H : Hp) : Prop where
  le : Same F H
  len : E.length = σ.length
  fr : ∀ (i : Nat) (d : D), E[i]? = some (.fr d) → ∃ v, σ[i]? = some (some v) ∧ Is K mg F v d
  ow : ∀ (i : Nat) (d : D), E[i]? = some (.ow d) → ∃ p, σ[i]? = some (some (.ref p)) ∧ F p = none ∧ Cont K mg F H p d
  ne : ∀ (i j : Nat) (d d' : D) (p : Addr), i ≠ j → E[i]? = some (.ow d) → E[j]? = some (.ow d') → σ[i]? = some (some (.ref p)) → σ[j]? = some (some (.ref p)) → False
abbrev Rel (X : Cx) : Hp → En → L2.St → Hp → Prop := RelK X.K X.mg

/-- from one state to a later one -/
structure StpK (K : PySem.W.Frag) (mg : Str → Option Value) (F : Hp) (E : En) (σ : L2.St) (H : Hp) (F' : Hp) (E' : En) (σ' : L2.St) (H' : Hp) : Prop where
  rel : RelK K mg F' E' σ' H'
  mono : Same F F'
  kept : ∀ a o, H a = some o → ¬ Own E σ a → H' a = some o
  fnew : ∀ a, F' a ≠ none → F a ≠ none ∨ H a = none ∨ Own E σ a
  onew : ∀ a, Own E' σ' a → H a = none ∨ Own E σ a
  z0 : ∀ d, E'[(0 : Nat)]? = some (Sl.ow d) → σ'[(0 : Nat)]? = σ[(0 : Nat)]? ∧ ∃ d0, E[(0 : Nat)]? = some (Sl.ow d0)
abbrev Stp (X : Cx) : Hp → En → L2.St → Hp → Hp → En → L2.St → Hp → Prop := StpK X.K X.mg

section
variable {X : Cx} {F F1 F2 F' : Hp} {E E1 E2 E' : En} {σ σ1 σ2 σ' : L2.St} {H H1 H2 H' : Hp}
theorem Rel.ownF (r : Rel X F E σ H) {a : Addr} (o : Own E σ a) : F a = none := by
  obtain ⟨i, d, h1, h2⟩ := o
  obtain ⟨p, h3, h4, _⟩ := r.ow i d h1
  rw [h2] at h3
  cases h3
  exact h4
theorem Stp.refl (r : Rel X F E σ H) : Stp X F E σ H F E σ H := ⟨r, Same.refl F, fun _ _ h _ => h, fun _ h => .inl h, fun _ h => .inr h, fun d h => ⟨rfl, d, h⟩⟩
theorem Stp.hnone (a : Stp X F E σ H F1 E1 σ1 H1) {p : Addr} (h : H1 p = none) : H p = none ∨ Own E σ p := by
  cases q : H p with
  | none => exact .inl rfl
  | some o =>
    by_cases w : Own E σ p
    · exact .inr w
    · rw [a.kept p o q w] at h
      cases h
theorem Stp.new (a : Stp X F E σ H F1 E1 σ1 H1) {p : Addr} (h : H1 p = none ∨ Own E1 σ1 p) : H p = none ∨ Own E σ p := by
  rcases h with h | h
  · exact a.hnone h
  · exact a.onew p h
theorem Stp.trans (a : Stp X F E σ H F1 E1 σ1 H1) (b : Stp X F1 E1 σ1 H1 F2 E2 σ2 H2) : Stp X F E σ H F2 E2 σ2 H2 where
  rel := b.rel
  mono := a.mono.trans b.mono
  kept := fun p o h n => by
    refine b.kept p o (a.kept p o h n) fun w => ?_
    rcases a.onew p w with q | q
    · rw [h] at q; cases q
    · exact n q
  fnew := fun p h => by
    rcases b.fnew p h with q | q
    · exact a.fnew p q
    · exact .inr (a.new q)
  onew := fun p h => a.new (b.onew p h)
  z0 := fun d h => by
    obtain ⟨e1, d1, h1⟩ := b.z0 d h
    obtain ⟨e2, d2, h2⟩ := a.z0 d1 h1
    exact ⟨e1.trans e2, d2, h2⟩

/-- v is the value r in this state -/
def ResK (K : PySem.W.Frag) (mg : Str → Option Value) (F : Hp) (E : En) (σ : L2.St) (H : Hp) (v : V) : R → Prop
  | .fz d => Is K mg F v d
  | .fs d => ∃ p, v = .ref p ∧ F p = none ∧ ¬ Own E σ p ∧ Cont K mg F H p d
  | .sl i => σ[i]? = some (some v)
abbrev Res (X : Cx) : Hp → En → L2.St → Hp → V → R → Prop := ResK X.K X.mg
/-- .. and new since an earlier one -/
def New (E : En) (σ : L2.St) (H : Hp) (v : V) : R → Prop
  | .fs _ => ∀ p, v = .ref p → H p = none ∨ Own E σ p
  | _ => True
theorem Res.step {v : V} {r : R} (h : Res X F E σ H v r) (s : Stp X F E σ H F' E' σ H') : Res X F' E' σ H' v r := by
  cases r with
  | fz d => exact Is.mono s.mono h
  | sl i => exact h
  | fs d =>
    obtain ⟨p, e, n, w, c⟩ := h
    obtain ⟨o, ho⟩ := c.there
    have no : ¬ (H p = none ∨ Own E σ p) := by
      rintro (q | q)
      · rw [ho] at q; cases q
      · exact w q
    refine ⟨p, e, ?_, fun q => no (s.onew p q), c.mono s.mono ((s.kept p o ho w).trans ho.symm)⟩
    cases q : F' p with
    | none => rfl
    | some u =>
      rcases s.fnew p (by rw [q]; exact fun z => nomatch z) with z | z
      · exact absurd n z
      · exact absurd z no

/-- what a value reads as now -/
def pk (r : R) (E : En) : Option D := match r with
  | .fz d => some d
  | .fs d => some d
  | .sl i => match E[i]? with
    | some (.fr d) => some d
    | some (.ow d) => some d
    | _ => none
theorem Res.peek {v : V} {r : R} {d : D} (h : Res X F E σ H v r) (q : Rel X F E σ H) (e : pk r E = some d) : Is X.K X.mg H v d := by
  cases r with
  | fz d' =>
    cases e
    exact Is.mono q.le h
  | fs d' =>
    cases e
    obtain ⟨p, rfl, n, w, c⟩ := h
    exact c.view q.le
  | sl i =>
    have h' : σ[i]? = some (some v) := h
    unfold DL.pk at e
    cases z : E[i]? with
    | none => simp [z] at e
    | some s =>
      cases s with
      | un => simp [z] at e
      | fr d' =>
        simp [z] at e
        subst e
        obtain ⟨u, h1, h2⟩ := q.fr i _ z
        rw [h'] at h1
        cases h1
        exact Is.mono q.le h2
      | ow d' =>
        simp [z] at e
        subst e
        obtain ⟨p, h1, h2, h3⟩ := q.ow i _ z
        rw [h'] at h1
        cases h1
        exact h3.view q.le
/-- it is frozen and given out -/
def take (r : R) : M D := fun E => match r with
  | .fz d => .ok d E
  | .fs d => .ok d E
  | .sl i => match E[i]? with
    | some (.fr d) => .ok d E
    | some (.ow d) => .ok d (E.set i (.fr d))
    | _ => .no
end
end DL
-- DB
namespace DL
open PySem PySem.Spec PyProof.Rows L2

section
variable {X : Cx} {F F1 F2 F' : Hp} {E E1 E2 E' : En} {σ σ1 σ2 σ' : L2.St} {H H1 H2 H' : Hp} {p : Addr} {o : HO}
theorem New.step {v : V} {r : R} (h : New E1 σ1 H1 v r) (s : Stp X F E σ H F1 E1 σ1 H1) : New E σ H v r := by
  cases r with
  | fs d => exact fun p e => s.new (h p e)
  | _ => trivial
theorem own_H (r : Rel X F E σ H) {a : Addr} (w : Own E σ a) : ∃ x, H a = some x := by
  obtain ⟨i, d, h1, h2⟩ := w
  obtain ⟨p, h3, _, h5⟩ := r.ow i d h1
  rw [h2] at h3
  cases h3
  exact h5.there
/-- a new object, not yet frozen -/
theorem Stp.alloc (r : Rel X F E σ H) (hp : H p = none) : Stp X F E σ H F E σ (upd H p o) where
  rel := ⟨fun b x h => by rw [upd_ne (ne_of_none (r.le b x h) hp)]; exact r.le b x h, r.len, r.fr,
    fun i d h => by
      obtain ⟨q, h1, h2, h3⟩ := r.ow i d h
      obtain ⟨x, hx⟩ := h3.there
      exact ⟨q, h1, h2, h3.mono (Same.refl F) (upd_ne (ne_of_none hx hp))⟩, r.ne⟩
  mono := Same.refl F
  kept := fun a x h _ => by rw [upd_ne (ne_of_none h hp)]; exact h
  fnew := fun a h => .inl h
  onew := fun a h => .inr h
  z0 := fun d h => ⟨rfl, d, h⟩
theorem Rel.Fnone (r : Rel X F E σ H) (hp : H p = none) : F p = none := r.le.free hp
/-- a new object, frozen -/
theorem Stp.allocF (r : Rel X F E σ H) (hp : H p = none) : Stp X F E σ H (upd F p o) E σ (upd H p o) := by
  have sF : Same F (upd F p o) := fun b x h => by rw [upd_ne (ne_of_none h (r.Fnone hp))]; exact h
  refine ⟨⟨fun b x h => ?_, r.len, fun i d h => ?_, fun i d h => ?_, r.ne⟩, sF, fun a x h _ => by rw [upd_ne (ne_of_none h hp)]; exact h, fun a h => ?_, fun a h => .inr h, fun d h => ⟨rfl, d, h⟩⟩
  · by_cases e : b = p
    · subst e; rw [upd_same] at h ⊢; exact h
    · rw [upd_ne e] at h ⊢; exact r.le b x h
  · obtain ⟨v, h1, h2⟩ := r.fr i d h
    exact ⟨v, h1, h2.mono sF⟩
  · obtain ⟨q, h1, h2, h3⟩ := r.ow i d h
    obtain ⟨x, hx⟩ := h3.there
    have ne := ne_of_none hx hp
    exact ⟨q, h1, by rw [upd_ne ne]; exact h2, h3.mono sF (upd_ne ne)⟩
  · by_cases e : a = p
    · subst e; exact .inr (.inl hp)
    · rw [upd_ne e] at h; exact .inl h
theorem not_own_new (r : Rel X F E σ H) (hp : H p = none) : ¬ Own E σ p := fun w => by
  obtain ⟨x, h⟩ := own_H r w
  rw [hp] at h; cases h

/-- an object that is nobody's is frozen, new since the base -/
theorem Stp.freezeP {F0 : Hp} {E0 : En} {σ0 : L2.St} {H0 : Hp} (s : Stp X F0 E0 σ0 H0 F E σ H) (n : F p = none) (w : ¬ Own E σ p) (hp : H p = some o) (nw : H0 p = none ∨ Own E0 σ0 p) : Stp X F0 E0 σ0 H0 (upd F p o) E σ H := by
  have sF : Same F (upd F p o) := fun b x h => by rw [upd_ne (ne_of_none h n)]; exact h
  refine ⟨⟨fun b x h => ?_, s.rel.len, fun i d h => ?_, fun i d h => ?_, s.rel.ne⟩, s.mono.trans sF, s.kept, fun a h => ?_, s.onew, s.z0⟩
  · by_cases e : b = p
    · subst e; rw [upd_same] at h; cases h; exact hp
    · rw [upd_ne e] at h; exact s.rel.le b x h
  · obtain ⟨v, h1, h2⟩ := s.rel.fr i d h
    exact ⟨v, h1, h2.mono sF⟩
  · obtain ⟨q, h1, h2, h3⟩ := s.rel.ow i d h
    have ne : q ≠ p := fun e => w ⟨i, d, h, by rw [← e]; exact h1⟩
    exact ⟨q, h1, by rw [upd_ne ne]; exact h2, h3.mono sF rfl⟩
  · by_cases e : a = p
    · subst e; exact .inr nw
    · rw [upd_ne e] at h; exact s.fnew a h
theorem getElem?_set_en {E : En} {i j : Nat} {x : Sl} : (E.set i x)[j]? = if j = i then (if i < E.length then some x else none) else E[j]? := by
  by_cases e : j = i
  · subst e
    rw [if_pos rfl]
    by_cases h : j < E.length
    · rw [if_pos h, List.getElem?_set_self h]
    · rw [if_neg h, List.getElem?_eq_none (by simpa using h)]
  · rw [if_neg e, List.getElem?_set_ne (Ne.symm e)]
theorem own_set_fr {i : Nat} {d : D} {a : Addr} (w : Own (E.set i (.fr d)) σ a) : Own E σ a := by
  obtain ⟨j, d', h1, h2⟩ := w
  rw [getElem?_set_en] at h1
  by_cases e : j = i
  · rw [if_pos e] at h1
    split at h1 <;> cases h1
  · rw [if_neg e] at h1
    exact ⟨j, d', h1, h2⟩
/-- an owned slot is frozen -/
theorem Stp.freezeS {i : Nat} {d : D} (r : Rel X F E σ H) (hi : E[i]? = some (.ow d)) : ∃ F' v, σ[i]? = some (some v) ∧ Is X.K X.mg F' v d ∧ Stp X F E σ H F' (E.set i (.fr d)) σ H := by
  obtain ⟨p, h1, h2, h3⟩ := r.ow i d hi
  obtain ⟨o, ho, sF, hI⟩ := h3.freeze h2
  have hlt : i < E.length := (List.getElem?_eq_some_iff.mp hi).1
  refine ⟨upd F p o, .ref p, h1, hI, ⟨fun b x h => ?_, by rw [List.length_set]; exact r.len, fun j d' h => ?_, fun j d' h => ?_, fun j k d1 d2 q ne a1 a2 => ?_⟩, sF, fun a x h _ => h, fun a h => ?_, fun a w => .inr (own_set_fr w), fun d' h => ?_⟩
  · by_cases e : b = p
    · subst e; rw [upd_same] at h; cases h; exact ho
    · rw [upd_ne e] at h; exact r.le b x h
  · rw [getElem?_set_en] at h
    by_cases e : j = i
    · rw [if_pos e, if_pos hlt] at h
      cases h
      subst e
      exact ⟨_, h1, hI⟩
    · rw [if_neg e] at h
      obtain ⟨v, q1, q2⟩ := r.fr j d' h
      exact ⟨v, q1, q2.mono sF⟩
  · rw [getElem?_set_en] at h
    by_cases e : j = i
    · rw [if_pos e, if_pos hlt] at h
      cases h
    · rw [if_neg e] at h
      obtain ⟨q, q1, q2, q3⟩ := r.ow j d' h
      have ne : q ≠ p := fun z => by
        subst z
        exact r.ne j i _ _ _ e h hi q1 h1
      exact ⟨q, q1, by rw [upd_ne ne]; exact q2, q3.mono sF rfl⟩
  · rw [getElem?_set_en] at a1 a2
    by_cases e1 : j = i
    · rw [if_pos e1, if_pos hlt] at a1; cases a1
    · by_cases e2 : k = i
      · rw [if_pos e2, if_pos hlt] at a2; cases a2
      · rw [if_neg e1] at a1
        rw [if_neg e2] at a2
        exact r.ne j k _ _ _ ne a1 a2
  · by_cases e : a = p
    · subst e; exact .inr (.inr ⟨i, d, hi, h1⟩)
    · rw [upd_ne e] at h; exact .inl h
  · rw [getElem?_set_en] at h
    by_cases e : 0 = i
    · rw [if_pos e, if_pos hlt] at h; cases h
    · rw [if_neg e] at h; exact ⟨rfl, d', h⟩
/-- a value is frozen and given out: behind the base -/
theorem take_ok {F0 : Hp} {E0 : En} {σ0 : L2.St} {H0 : Hp} {v : V} {r : R} {d : D} {E' : En} (s : Stp X F0 E0 σ0 H0 F E σ H) (h : Res X F E σ H v r) (nw : New E0 σ0 H0 v r) (e : take r E = .ok d E') :
    ∃ F', Stp X F0 E0 σ0 H0 F' E' σ H ∧ Is X.K X.mg F' v d := by
  cases r with
  | fz d' =>
    cases e
    exact ⟨F, s, h⟩
  | fs d' =>
    cases e
    obtain ⟨p, rfl, n, w, c⟩ := h
    obtain ⟨o, ho, sF, hI⟩ := c.freeze n
    exact ⟨upd F p o, s.freezeP n w ho (nw p rfl), hI⟩
  | sl i =>
    have h' : σ[i]? = some (some v) := h
    unfold take at e
    cases z : E[i]? with
    | none => simp [z] at e
    | some sl =>
      cases sl with
      | un => simp [z] at e
      | fr d' =>
        simp [z] at e
        obtain ⟨rfl, rfl⟩ := e
        obtain ⟨u, h1, h2⟩ := s.rel.fr i _ z
        rw [h'] at h1
        cases h1
        exact ⟨F, s, h2⟩
      | ow d' =>
        simp [z] at e
        obtain ⟨rfl, rfl⟩ := e
        obtain ⟨F', u, h1, h2, h3⟩ := Stp.freezeS s.rel z
        rw [h'] at h1
        cases h1
        exact ⟨F', s.trans h3, h2⟩
theorem take_no {r : R} {x : Xn} (e : take r E = .ex x E') : False := by
  cases r with
  | fz d' => cases e
  | fs d' => cases e
  | sl i =>
    unfold take at e
    cases z : E[i]? with
    | none => simp [z] at e
    | some sl => cases sl <;> simp [z] at e

/-- the exception that the machine sees -/
def XnK (K : PySem.W.Frag) (mg : Str → Option Value) (F H : Hp) (cls : Value) (d : Option Addr) (x : Xn) : Prop := ∃ C, mg x.cls = some (.ref C) ∧ cls = .ref C ∧ match x.val with
  | none => d = none
  | some (f, dd) => ∃ a v, d = some a ∧ H a = some (.xd [(f, v)]) ∧ Is K mg F v dd
abbrev XnOk (X : Cx) : Hp → Hp → Value → Option Addr → Xn → Prop := XnK X.K X.mg
def Good (X : Cx) (W : WX) (F : Hp) (E : En) (σ : L2.St) (H : Hp) (f : M R) (Q : VK) : Prop := match f E with
  | .ok r E' => ∀ F' H' v, Stp X F E σ H F' E' σ H' → Res X F' E' σ H' v r → New E σ H v r → Q v H'
  | .ex x E' => ∀ F' H' cls d, Stp X F E σ H F' E' σ H' → XnOk X F' H' cls d x → W cls d σ H'
  | .no => False
def rdE (X : Cx) (W : WX) (f : M R) : TE := fun σ H Q => ∃ F E, Rel X F E σ H ∧ Good X W F E σ H f Q
structure DE (X : Cx) (W : WX) (e : Expr) (f : M R) : Prop where
  pe : PE X e (rdE X W f)
theorem pe_mono {e : Expr} {t t' : TE} (h : PE X e t) (m : ∀ σ H Q, t' σ H Q → t σ H Q) : PE X e t' := ⟨fun pins s σ H Q I q => h.run pins s σ H Q I (m σ H Q q)⟩
theorem pt_mono {e : Expr} {t t' : TT} (h : PT X e t) (m : ∀ σ H Q, t' σ H Q → t σ H Q) : PT X e t' := ⟨fun pins s σ H Q I q => h.run pins s σ H Q I (m σ H Q q)⟩
theorem pw_mono {e : Expr} {t t' : TT} (h : PW X e t) (m : ∀ σ H Q, t' σ H Q → t σ H Q) : PW X e t' := ⟨fun wh pins s σ H Q I q => h.run wh pins s σ H Q I (m σ H Q q)⟩
theorem pa_mono {es : List Expr} {t t' : TA} (h : PA X es t) (m : ∀ σ H Q, t' σ H Q → t σ H Q) : PA X es t' := ⟨fun pos pins s σ H Q I q => h.run pos pins s σ H Q I (m σ H Q q)⟩
theorem ps_mono {e : Stmt} {t t' : TS} (h : PS X e t) (m : ∀ D σ H, t' D σ H → t D σ H) : PS X e t' := ⟨fun pins s σ H Q I q => h.run pins s σ H Q I (m Q σ H q)⟩
theorem pss_mono {e : List Stmt} {t t' : TS} (h : PSs X e t) (m : ∀ D σ H, t' D σ H → t D σ H) : PSs X e t' := ⟨fun pins s σ H Q I q => h.run pins s σ H Q I (m Q σ H q)⟩

variable {W : WX}
theorem bnd_ok {α β : Type} {f : M α} {k : α → M β} {a : α} (e : f E = .ok a E1) : M.bnd f k E = k a E1 := by unfold M.bnd; rw [e]
theorem bnd_ex {α β : Type} {f : M α} {k : α → M β} {x : Xn} (e : f E = .ex x E1) : M.bnd f k E = .ex x E1 := by unfold M.bnd; rw [e]
theorem bnd_no {α β : Type} {f : M α} {k : α → M β} (e : f E = .no) : M.bnd f k E = .no := by unfold M.bnd; rw [e]
theorem Good.later {f : M R} {Q : VK} {E0 : En} {g : M R} (s : Stp X F E σ H F1 E1 σ H1) (e : g E = f E1) (h : Good X W F E σ H g Q) : Good X W F1 E1 σ H1 f Q := by
  unfold Good at h ⊢
  rw [e] at h
  cases q : f E1 with
  | ok r E2 =>
    rw [q] at h
    exact fun F' H' v s2 re nw => h F' H' v (s.trans s2) re (nw.step s)
  | ex x E2 =>
    rw [q] at h
    exact fun F' H' c d s2 xo => h F' H' c d (s.trans s2) xo
  | no =>
    rw [q] at h
    exact h
/-- an expression, then what follows -/
theorem Good.bnd {f : M R} {k : R → M R} {Q : VK} (h : Good X W F E σ H (M.bnd f k) Q) :
    Good X W F E σ H f fun v H1 => ∃ F1 E1 r, Stp X F E σ H F1 E1 σ H1 ∧ Res X F1 E1 σ H1 v r ∧ New E σ H v r ∧ Good X W F1 E1 σ H1 (k r) Q := by
  cases q : f E with
  | ok r E1 =>
    have h' := h
    unfold Good
    rw [q]
    exact fun F1 H1 v s re nw => ⟨F1, E1, r, s, re, nw, h'.later (E0 := E) s (bnd_ok q)⟩
  | ex x E1 =>
    unfold Good at h ⊢
    rw [bnd_ex q] at h
    rw [q]
    exact h
  | no =>
    unfold Good at h
    rw [bnd_no q] at h
    exact h.elim
theorem rdE.of {f : M R} {Q : VK} (r : Rel X F E σ H) (h : Good X W F E σ H f Q) : rdE X W f σ H Q := ⟨F, E, r, h⟩

/-- a value is given at once -/
theorem Good.here {f : M R} {Q : VK} {v : V} {r : R} (rel : Rel X F E σ H) (h : Good X W F E σ H f Q) (e : f E = .ok r E) (re : Res X F E σ H v r) (nw : New E σ H v r) : Q v H := by
  unfold Good at h
  rw [e] at h
  exact h F H v (Stp.refl rel) re nw
def mK (d : D) : M R := M.ret (.fz d)
theorem d_int {i : Int} {j pos} : DE X W (.Constant (.int i) j pos) (mK (.int i)) := ⟨pe_mono pe_int fun σ H Q ⟨F, E, r, g⟩ => g.here r rfl (.int i) trivial⟩
theorem d_bl {i : Bool} {j pos} : DE X W (.Constant (.bool i) j pos) (mK (.bl i)) := ⟨pe_mono pe_bl fun σ H Q ⟨F, E, r, g⟩ => g.here r rfl (.bl i) trivial⟩
theorem d_non {j pos} : DE X W (.Constant .none j pos) (mK .non) := ⟨pe_mono pe_non fun σ H Q ⟨F, E, r, g⟩ => g.here r rfl .non trivial⟩
theorem d_str {x : Str} {j pos} : DE X W (.Constant (.str x) j pos) (mK (.str x)) := ⟨pe_mono pe_str fun σ H Q ⟨F, E, r, g⟩ => g.here r rfl (.str x) trivial⟩
/-- a name in slot i -/
def mName (i : Nat) : M R := fun E => match E[i]? with
  | some (.fr d) => .ok (.fz d) E
  | some (.ow _) => .ok (.sl i) E
  | _ => .no
theorem d_name (i : Nat) {x : Str} {pos : Pos} (hN : X.N[i]? = some x := by rfl) (hv : Vis X.env.scope x := by first | exact Or.inl rfl | exact Or.inr (Or.inl rfl) | exact Or.inr (Or.inr rfl)) (hd : (x == ("__debug__" : Str)) = false := by decide)
    (hcd : (x == ("__classdict__" : Str)) = false := by decide) : DE X W (.Name x pos) (mName i) := ⟨pe_mono (pe_var hN hv hd hcd) fun σ H Q ⟨F, E, r, g⟩ => by
  unfold Good mName at g
  cases z : E[i]? with
  | none => rw [z] at g; exact g.elim
  | some sl =>
    rw [z] at g
    cases sl with
    | un => exact g.elim
    | fr d =>
      obtain ⟨v, h1, h2⟩ := r.fr i d z
      exact ⟨v, h1, g F H v (Stp.refl r) h2 trivial⟩
    | ow d =>
      obtain ⟨p, h1, h2, h3⟩ := r.ow i d z
      exact ⟨.ref p, h1, g F H _ (Stp.refl r) h1 trivial⟩⟩


/-- one level of v as it stands in H, below it frozen data -/
inductive Is1 (K : PySem.W.Frag) (mg : Str → Option Value) (F H : Hp) : V → D → Prop
  | non : Is1 K mg F H .non .non
  | bl (b : Bool) : Is1 K mg F H (.bl b) (.bl b)
  | int (i : Int) : Is1 K mg F H (.int i) (.int i)
  | str (x : Str) : Is1 K mg F H (.str x) (.str x)
  | tup {a : Addr} {vs : List V} {ds : List D} : F a = some (.tup vs) → IsAll K mg F vs ds → Is1 K mg F H (.ref a) (.tup ds)
  | lst {a : Addr} {vs : List V} {ds : List D} : H a = some (.lst vs) → IsAll K mg F vs ds → Is1 K mg F H (.ref a) (.lst ds)
  | scr {a : Addr} {ns : List Int} : SqL K H a (ns.map V.int) → Is1 K mg F H (.ref a) (.scr ns)
  | exc (a : Addr) : Is1 K mg F H (.ref a) (.exc a)
  | tpf {a : Addr} {o : Obj} {vs : List V} {ds : List D} : F a = some (.frz o (.tup vs)) → o.dict = none → IsAll K mg F vs ds → Is1 K mg F H (.ref a) (.tpf ds)
  | ex0 {a C : Addr} {c : Str} : mg c = some (.ref C) → F a = some (ExO (.ref C) a) → Is1 K mg F H (.ref a) (.ex0 c)
  | ex1 {a C dx : Addr} {c f : Str} {v : V} {d : D} : mg c = some (.ref C) → F a = some (exo a C (some dx)) → F dx = some (exd dx [(f, v)]) → Is K mg F v d → Is1 K mg F H (.ref a) (.ex1 c f d)
  | dk {a : Addr} {vs : List (Key × V)} {kvs : List (Key × D)} : H a = some (.dK vs) → vs.map (·.1) = kvs.map (·.1) → IsAll K mg F (vs.map (·.2)) (kvs.map (·.2)) → Is1 K mg F H (.ref a) (.dk kvs)
  | dt {a : Addr} {vs : List (List Key × V)} {kvs : List (List Key × D)} : H a = some (.dT vs) → vs.map (·.1) = kvs.map (·.1) → IsAll K mg F (vs.map (·.2)) (kvs.map (·.2)) → Is1 K mg F H (.ref a) (.dt kvs)
  | ins {a C dx : Addr} {c : Str} {vs : List (Str × V)} {fs : List (Str × D)} : mg c = some (.ref C) → H a = some (.ins C dx vs) → vs.map (·.1) = fs.map (·.1) → IsAll K mg F (vs.map (·.2)) (fs.map (·.2)) → Is1 K mg F H (.ref a) (.ins c fs)
theorem Is1.of {K : PySem.W.Frag} {mg : Str → Option Value} {v : V} {d : D} (s : Same F H) (h : Is K mg F v d) : Is1 K mg F H v d := by
  cases h with
  | non => exact .non
  | bl b => exact .bl b
  | int i => exact .int i
  | str x => exact .str x
  | tup q r => exact .tup q r
  | lst q r => exact .lst (s _ _ q) r
  | scr q => exact .scr (s.seq q)
  | exc a => exact .exc a
  | tpf q n r => exact .tpf q n r
  | ex0 m q => exact .ex0 m q
  | ex1 m q q2 r => exact .ex1 m q q2 r
  | dk q k r => exact .dk (s _ _ q) k r
  | dt q k r => exact .dt (s _ _ q) k r
  | ins m q k r => exact .ins m (s _ _ q) k r
theorem Is1.is {K : PySem.W.Frag} {mg : Str → Option Value} {v : V} {d : D} (s : Same F H) (h : Is1 K mg F H v d) : Is K mg H v d := by
  cases h with
  | non => exact .non
  | bl b => exact .bl b
  | int i => exact .int i
  | str x => exact .str x
  | tup q r => exact .tup (s _ _ q) (r.mono s)
  | lst q r => exact .lst q (r.mono s)
  | scr q => exact .scr q
  | exc a => exact .exc a
  | tpf q n r => exact .tpf (s _ _ q) n (r.mono s)
  | ex0 m q => exact .ex0 m (s _ _ q)
  | ex1 m q q2 r => exact .ex1 m (s _ _ q) (s _ _ q2) (r.mono s)
  | dk q k r => exact .dk q k (r.mono s)
  | dt q k r => exact .dt q k (r.mono s)
  | ins m q k r => exact .ins m q k (r.mono s)
theorem Cont.is1 {K : PySem.W.Frag} {mg : Str → Option Value} {d : D} (h : Cont K mg F H p d) : Is1 K mg F H (.ref p) d := by
  cases d <;> first
    | exact False.elim h
    | (obtain ⟨vs, q, r⟩ := h; exact .lst q r)
    | (obtain ⟨vs, q, k, r⟩ := h; first | exact .dk q k r | exact .dt q k r)
    | (obtain ⟨C, dx, vs, m, q, k, r⟩ := h; exact .ins m q k r)
theorem Res.peek1 {v : V} {r : R} {d : D} (h : Res X F E σ H v r) (q : Rel X F E σ H) (e : pk r E = some d) : Is1 X.K X.mg F H v d := by
  cases r with
  | fz d' =>
    cases e
    exact Is1.of q.le h
  | fs d' =>
    cases e
    obtain ⟨p, rfl, n, w, c⟩ := h
    exact c.is1
  | sl i =>
    have h' : σ[i]? = some (some v) := h
    unfold DL.pk at e
    cases z : E[i]? with
    | none => simp [z] at e
    | some s =>
      cases s with
      | un => simp [z] at e
      | fr d' =>
        simp [z] at e
        subst e
        obtain ⟨u, h1, h2⟩ := q.fr i _ z
        rw [h'] at h1
        cases h1
        exact Is1.of q.le h2
      | ow d' =>
        simp [z] at e
        subst e
        obtain ⟨p, h1, h2, h3⟩ := q.ow i _ z
        rw [h'] at h1
        cases h1
        exact h3.is1
/-- a value v, in the heap H', that is z -/
inductive Out (K : PySem.W.Frag) (mg : Str → Option Value) (F H : Hp) : V → Hp → R → Prop
  | old {v : V} {d : D} : Is K mg F v d → Out K mg F H v H (.fz d)
  | newL {p : Addr} {o : HO} {d : D} : H p = none → Cont K mg F (upd H p o) p d → Out K mg F H (.ref p) (upd H p o) (.fs d)
  | newF {p : Addr} {o : HO} {d : D} : H p = none → Is K mg (upd F p o) (.ref p) d → Out K mg F H (.ref p) (upd H p o) (.fz d)
theorem Good.out {f : M R} {Q : VK} {v : V} {z : R} (rel : Rel X F E σ H) (h : Good X W F E σ H f Q) (e : f E = .ok z E) (o : Out X.K X.mg F H v H' z) : Q v H' := by
  unfold Good at h
  rw [e] at h
  cases o with
  | old i => exact h F H v (Stp.refl rel) i trivial
  | newL hp c => exact h F _ _ (Stp.alloc rel hp) ⟨_, rfl, rel.Fnone hp, not_own_new rel hp, c⟩ fun q e => by cases e; exact .inl hp
  | newF hp i => exact h _ _ _ (Stp.allocF rel hp) i trivial

def mOut (o : Option R) : M R := fun E => match o with
  | some r => .ok r E
  | none => .no
def mUn (g : D → Option R) (fa : M R) : M R := M.bnd fa fun ra => fun E => match pk ra E with
  | some a => mOut (g a) E
  | none => .no
/-- both operands as they read, then g gives the value -/
def mBin (g : D → D → Option R) (fa fb : M R) : M R := M.bnd fa fun ra => M.bnd fb fun rb => fun E => match pk ra E, pk rb E with
  | some a, some b => mOut (g a b) E
  | _, _ => .no
/-- by values: r gives what g says -/
def UnOk (X : Cx) (r : V → Hp → VK → Prop) (g : D → Option R) : Prop := ∀ (x : V) (F H : Hp) (Q : VK) (a : D) (z : R), Same F H → Is1 X.K X.mg F H x a → g a = some z → (∀ v H', Out X.K X.mg F H v H' z → Q v H') → r x H Q
def BinOk (X : Cx) (r : R2) (g : D → D → Option R) : Prop := ∀ (x y : V) (F H : Hp) (Q : VK) (a b : D) (z : R), Same F H → Is1 X.K X.mg F H x a → Is1 X.K X.mg F H y b → g a b = some z →
  (∀ v H', Out X.K X.mg F H v H' z → Q v H') → r x y H Q
theorem Good.imp {f : M R} {Q Q' : VK} (m : ∀ v H, Q v H → Q' v H) (h : Good X W F E σ H f Q) : Good X W F E σ H f Q' := by
  unfold Good at h ⊢
  cases q : f E with
  | ok r E2 => rw [q] at h; exact fun F' H' v s re nw => m _ _ (h F' H' v s re nw)
  | ex x E2 => rw [q] at h; exact h
  | no => rw [q] at h; exact h
theorem Good.un {fa : M R} {g : D → Option R} {r : V → Hp → VK → Prop} {Q : VK} (hr : UnOk X r g) (h : Good X W F E σ H (mUn g fa) Q) : Good X W F E σ H fa fun x H1 => r x H1 Q := by
  refine Good.imp (fun x H1 hx => ?_) (Good.bnd h)
  obtain ⟨F1, E1, ra, s, re, nw, g1⟩ := hx
  cases q : pk ra E1 with
  | none => unfold Good at g1; simp only [q] at g1
  | some a =>
    cases qz : g a with
    | none => unfold Good at g1; simp only [q, qz, mOut] at g1
    | some z => exact hr x F1 H1 Q a z s.rel.le (re.peek1 s.rel q) qz fun v H' o => g1.out s.rel (by simp only [q, qz, mOut]) o
theorem Good.bin {fa fb : M R} {g : D → D → Option R} {r : R2} {Q : VK} (hr : BinOk X r g) (rel : Rel X F E σ H) (h : Good X W F E σ H (mBin g fa fb) Q) : rdE X W fa σ H fun x H1 => rdE X W fb σ H1 fun y H2 => r x y H2 Q := by
  refine ⟨F, E, rel, Good.imp (fun x H1 hx => ?_) (Good.bnd h)⟩
  obtain ⟨F1, E1, ra, s, re, nw, g1⟩ := hx
  refine ⟨F1, E1, s.rel, Good.imp (fun y H2 hy => ?_) (Good.bnd g1)⟩
  obtain ⟨F2, E2, rb, s2, re2, nw2, g2⟩ := hy
  cases q : pk ra E2 with
  | none => unfold Good at g2; simp only [q] at g2
  | some a =>
    cases q2 : pk rb E2 with
    | none => unfold Good at g2; simp only [q, q2] at g2
    | some b =>
      cases qz : g a b with
      | none => unfold Good at g2; simp only [q, q2, qz, mOut] at g2
      | some z => exact hr x y F2 H2 Q a b z s2.rel.le ((re.step s2).peek1 s2.rel q) (re2.peek1 s2.rel q2) qz fun v H' o => g2.out s2.rel (by simp only [q, q2, qz, mOut]) o
variable {a b : Expr} {fa fb : M R} {pos : Pos}
theorem d_bin {op : Operator} {r : R2} {g : D → D → Option R} (ho : OpR X (binaryOp op) r) (hr : BinOk X r g) (ha : DE X W a fa) (hb : DE X W b fb) : DE X W (.BinOp a op b pos) (mBin g fa fb) :=
  ⟨pe_mono (pe_op ho ha.pe hb.pe) fun σ H Q ⟨F, E, rel, h⟩ => h.bin hr rel⟩
theorem d_un {op : UnaryOp} {r : V → Hp → VK → Prop} {g : D → Option R} (ho : UnR X (unaryOp op) r) (hr : UnOk X r g) (ha : DE X W a fa) : DE X W (.UnaryOp op a pos) (mUn g fa) :=
  ⟨pe_mono (pe_un ho ha.pe) fun σ H Q ⟨F, E, rel, h⟩ => ⟨F, E, rel, h.un hr⟩⟩
end
end DL
-- DC
namespace DL
open PySem PySem.Spec PyProof.Rows L2
section
variable {X : Cx} {W : WX}
theorem OpR.or {f : Value → Value → Sem Value} {r r' : R2} (h : OpR X f r) (h' : OpR X f r') : OpR X f (fun x y H Q => r x y H Q ∨ r' x y H Q) := by
  intro pins s σ H x y v u Q I rx ry q
  rcases q with q | q
  · exact h pins s σ H x y v u Q I rx ry q
  · exact h' pins s σ H x y v u Q I rx ry q
abbrev sc (d : D) : Option R := some (.fz d)
def gI (C : Int → Int → Bool) (g : Int → Int → Int) : D → D → Option R
  | .int i, .int j => if C i j = true then some (.fz (.int (g i j))) else none
  | _, _ => none
theorem binI {C : Int → Int → Prop} {C' : Int → Int → Bool} {g : Int → Int → Int} (hC : ∀ i j, C' i j = true → C i j) : BinOk X (rI C fun i j => .int (g i j)) (gI C' g) := by
  intro x y F H Q a b z s ha hb e q
  cases ha with
  | int i =>
    cases hb with
    | int j =>
      by_cases hc : C' i j = true
      · simp only [gI, hc, if_true, Option.some.injEq] at e
        subst e
        exact ⟨i, j, rfl, rfl, hC i j hc, q _ _ (.old (.int _))⟩
      · simp [gI, hc] at e
    | _ => simp [gI] at e
  | _ => simp [gI] at e
theorem binI0 {g : Int → Int → Int} : BinOk X (rI0 fun i j => .int (g i j)) (gI (fun _ _ => true) g) := by
  intro x y F H Q a b z s ha hb e q
  cases ha with
  | int i =>
    cases hb with
    | int j =>
      cases e
      exact ⟨i, j, rfl, rfl, q _ _ (.old (.int _))⟩
    | _ => cases e
  | _ => cases e
def gCmp (g : Int → Int → Bool) : D → D → Option R
  | .int i, .int j => some (.fz (.bl (g i j)))
  | _, _ => none
theorem binB0 {g : Int → Int → Bool} : BinOk X (rI0 fun i j => .bl (g i j)) (gCmp g) := by
  intro x y F H Q a b z s ha hb e q
  cases ha with
  | int i =>
    cases hb with
    | int j =>
      cases e
      exact ⟨i, j, rfl, rfl, q _ _ (.old (.bl _))⟩
    | _ => cases e
  | _ => cases e

def gAdd : D → D → Option R
  | .int i, .int j => some (.fz (.int (i + j)))
  | .tup xs, .tup ys => if xs.length + ys.length ≤ 100000 then some (.fz (.tup (xs ++ ys))) else none
  | .lst xs, .lst ys => if xs.length + ys.length ≤ 100000 then some (.fs (.lst (xs ++ ys))) else none
  | _, _ => none
theorem line_le {n : Nat} (h : n ≤ 100000) : n ≤ sizeLine := Nat.le_trans h (by decide)
theorem op_addD : OpR X (binaryOp .Add) (fun x y H Q => rI0 (fun i j => .int (i + j)) x y H Q ∨ rCatA X.K x y H Q ∨ rCat x y H Q) := op_add.or (op_catA.or op_cat)
theorem out_cat {K : PySem.W.Frag} {mg : Str → Option Value} {F H : Hp} {p : Addr} {vs : List V} {ds : List D} (s : Same F H) (hp : H p = none) (r : IsAll K mg F vs ds) : Out K mg F H (.ref p) (upd H p (.tup vs)) (.fz (.tup ds)) :=
  .newF hp (.tup upd_same (r.mono fun b x h => by rw [upd_ne (ne_of_none h (s.free hp))]; exact h))
theorem out_lst {K : PySem.W.Frag} {mg : Str → Option Value} {F H : Hp} {p : Addr} {vs : List V} {ds : List D} (hp : H p = none) (r : IsAll K mg F vs ds) : Out K mg F H (.ref p) (upd H p (.lst vs)) (.fs (.lst ds)) :=
  .newL hp ⟨vs, upd_same, r⟩
theorem addOk : BinOk X (fun x y H Q => rI0 (fun i j => .int (i + j)) x y H Q ∨ rCatA X.K x y H Q ∨ rCat x y H Q) gAdd := by
  intro x y F H Q a b z s ha hb e q
  cases ha with
  | int i =>
    cases hb with
    | int j =>
      cases e
      exact .inl ⟨i, j, rfl, rfl, q _ _ (.old (.int _))⟩
    | _ => simp [gAdd] at e
  | @tup l vs xs h1 r1 =>
    cases hb with
    | @tup b ws ys h2 r2 =>
      by_cases hl : xs.length + ys.length ≤ 100000
      · simp only [gAdd, if_pos hl, Option.some.injEq] at e
        subst e
        have l1 := r1.length
        have l2 := r2.length
        refine .inr (.inl ⟨l, b, vs, ws, rfl, rfl, tupS s h1, tupS s h2, line_le (by omega), fun en => ?_, fun n1 en => ?_, fun n1 n2 p hp => ?_⟩)
        · subst en
          cases r1
          exact q _ _ (.old (Is.tup h2 r2))
        · subst en
          cases r2
          rw [List.append_nil] at q
          exact q _ _ (.old (Is.tup h1 r1))
        · exact q _ _ (out_cat s hp (r1.append r2))
      · simp only [gAdd, if_neg hl, reduceCtorEq] at e
    | _ => simp [gAdd] at e
  | @lst l vs xs h1 r1 =>
    cases hb with
    | @lst b ws ys h2 r2 =>
      by_cases hl : xs.length + ys.length ≤ 100000
      · simp only [gAdd, if_pos hl, Option.some.injEq] at e
        subst e
        have l1 := r1.length
        have l2 := r2.length
        exact .inr (.inr ⟨l, b, vs, ws, rfl, rfl, h1, h2, line_le (by omega), fun p hp => q _ _ (out_lst hp (r1.append r2))⟩)
      · simp only [gAdd, if_neg hl, reduceCtorEq] at e
    | _ => simp [gAdd] at e
  | _ => simp [gAdd] at e
def gMul : D → D → Option R
  | .int i, .int j => if ((-(2 ^ 64) < i ∧ i < 2 ^ 64) ∨ (-(2 ^ 64) < j ∧ j < 2 ^ 64)) then some (.fz (.int (i * j))) else none
  | .lst xs, .int k => if k < 2 ^ 62 ∧ -(2 ^ 62) ≤ k ∧ xs.length * k.toNat ≤ 100000 then some (.fs (.lst (List.replicate k.toNat xs).flatten)) else none
  | _, _ => none
theorem IsAll.rep {K : PySem.W.Frag} {mg : Str → Option Value} {F : Hp} {vs : List V} {ds : List D} (h : IsAll K mg F vs ds) : ∀ n : Nat, IsAll K mg F (List.replicate n vs).flatten (List.replicate n ds).flatten
  | 0 => .nil
  | n + 1 => by
    rw [List.replicate_succ, List.replicate_succ, List.flatten_cons, List.flatten_cons]
    exact h.append (IsAll.rep h n)
theorem op_mulD : OpR X (binaryOp .Mult) (fun x y H Q => rI CMul (fun i j => .int (i * j)) x y H Q ∨ rRep x y H Q) := op_mul.or op_rep
theorem mulOk : BinOk X (fun x y H Q => rI CMul (fun i j => .int (i * j)) x y H Q ∨ rRep x y H Q) gMul := by
  intro x y F H Q a b z s ha hb e q
  cases ha with
  | int i =>
    cases hb with
    | int j =>
      by_cases hc : ((-(2 ^ 64) < i ∧ i < 2 ^ 64) ∨ (-(2 ^ 64) < j ∧ j < 2 ^ 64))
      · simp only [gMul, if_pos hc, Option.some.injEq] at e
        subst e
        exact .inl ⟨i, j, rfl, rfl, hc, q _ _ (.old (.int _))⟩
      · simp only [gMul, if_neg hc, reduceCtorEq] at e
    | _ => simp [gMul] at e
  | @lst l vs xs h1 r1 =>
    cases hb with
    | int k =>
      by_cases hc : k < 2 ^ 62 ∧ -(2 ^ 62) ≤ k ∧ xs.length * k.toNat ≤ 100000
      · simp only [gMul, if_pos hc, Option.some.injEq] at e
        subst e
        have l1 := r1.length
        exact .inr ⟨l, k, vs, rfl, rfl, h1, by omega, by omega, line_le (by rw [l1]; exact hc.2.2), fun p hp => q _ _ (out_lst hp (r1.rep _))⟩
      · simp only [gMul, if_neg hc, reduceCtorEq] at e
    | _ => simp [gMul] at e
  | _ => simp [gMul] at e
def gSub := gI (fun _ _ => true) (fun i j => i - j)
def gDiv := gI (fun _ j => decide (0 < j ∧ j < 1073741824)) (fun i j => i / j)
def gMod := gI (fun _ j => decide (0 < j)) (fun i j => i % j)
def gPow := gI (fun i j => decide (0 ≤ j ∧ j ≤ 1000000 ∧ i.natAbs < 2 ^ 64)) (fun i j => i ^ j.toNat)
def gShl := gI (fun i j => decide (0 ≤ j ∧ j ≤ 1000000 ∧ i.natAbs < 2 ^ 64)) (fun i j => i * 2 ^ j.toNat)
def gShr := gI (fun _ j => decide (0 ≤ j)) (fun i j => i / 2 ^ j.toNat)
def gAnd := gI (fun _ _ => true) (fun i j => Builtin.bitAnd i j)
def gOr := gI (fun _ _ => true) (fun i j => Builtin.bitOr i j)
variable {a b : Expr} {fa fb : M R} {pos : Pos}
theorem d_add (ha : DE X W a fa) (hb : DE X W b fb) : DE X W (.BinOp a .Add b pos) (mBin gAdd fa fb) := d_bin op_addD addOk ha hb
theorem d_mul (ha : DE X W a fa) (hb : DE X W b fb) : DE X W (.BinOp a .Mult b pos) (mBin gMul fa fb) := d_bin op_mulD mulOk ha hb
theorem gI_true {g : Int → Int → Int} {x y : D} : gI (fun _ _ => true) g x y = (match x, y with | .int i, .int j => some (.fz (.int (g i j))) | _, _ => none) := by
  cases x <;> cases y <;> simp [gI]
theorem d_sub (ha : DE X W a fa) (hb : DE X W b fb) : DE X W (.BinOp a .Sub b pos) (mBin gSub fa fb) := d_bin op_sub binI0 ha hb
theorem d_div (ha : DE X W a fa) (hb : DE X W b fb) : DE X W (.BinOp a .FloorDiv b pos) (mBin gDiv fa fb) := d_bin op_fdiv (binI fun _ _ h => by simp only [decide_eq_true_eq] at h; exact h) ha hb
theorem d_mod (ha : DE X W a fa) (hb : DE X W b fb) : DE X W (.BinOp a .Mod b pos) (mBin gMod fa fb) := d_bin op_mod (binI fun _ _ h => by simp only [decide_eq_true_eq] at h; exact h) ha hb
theorem d_pow (ha : DE X W a fa) (hb : DE X W b fb) : DE X W (.BinOp a .Pow b pos) (mBin gPow fa fb) := d_bin op_pow (binI fun _ _ h => by simp only [decide_eq_true_eq] at h; exact h) ha hb
theorem d_shl (ha : DE X W a fa) (hb : DE X W b fb) : DE X W (.BinOp a .LShift b pos) (mBin gShl fa fb) := d_bin op_shl (binI fun _ _ h => by simp only [decide_eq_true_eq] at h; exact h) ha hb
theorem d_shr (ha : DE X W a fa) (hb : DE X W b fb) : DE X W (.BinOp a .RShift b pos) (mBin gShr fa fb) := d_bin op_shr (binI fun _ _ h => by simp only [decide_eq_true_eq] at h; exact h) ha hb
theorem d_and (ha : DE X W a fa) (hb : DE X W b fb) : DE X W (.BinOp a .BitAnd b pos) (mBin gAnd fa fb) := d_bin op_and binI0 ha hb
theorem d_or (ha : DE X W a fa) (hb : DE X W b fb) : DE X W (.BinOp a .BitOr b pos) (mBin gOr fa fb) := d_bin op_or binI0 ha hb
def gNeg : D → Option R
  | .int i => some (.fz (.int (-i)))
  | _ => none
theorem d_neg (ha : DE X W a fa) : DE X W (.UnaryOp .USub a pos) (mUn gNeg fa) := d_un un_neg (fun x F H Q a z s ha e q => by
  cases ha with
  | int i => cases e; exact ⟨i, rfl, q _ _ (.old (.int _))⟩
  | _ => simp [gNeg] at e) ha

mutual
def toP : D → Option PyData
  | .non => some .none
  | .bl b => some (.bool b)
  | .int i => some (.int i)
  | .str x => some (.str x)
  | .tup xs => (toPs xs).map .tuple
  | .lst xs => (toPs xs).map .list
  | .tpf xs => (toPs xs).map .tuple
  | _ => none
def toPs : List D → Option (List PyData)
  | [] => some []
  | x :: xs => match toP x, toPs xs with
    | some y, some ys => some (y :: ys)
    | _, _ => none
end
mutual
theorem Is.dp {K : PySem.W.Frag} {mg : Str → Option Value} {H : Hp} : ∀ {v : V} {d : D} {p : PyData}, Is K mg H v d → toP d = some p → Dp K H v p
  | _, _, _, .non, e => by cases e; exact .non
  | _, _, _, .bl b, e => by cases e; exact .bl b
  | _, _, _, .int i, e => by cases e; exact .int i
  | _, _, _, .str x, e => by cases e; exact .str x
  | _, _, _, .tup (ds := ds) q r, e => by
    unfold toP at e
    cases z : toPs ds with
    | none => rw [z] at e; cases e
    | some ps => rw [z] at e; cases e; exact .tup (.inl (.inl q)) (IsAll.dp r z)
  | _, _, _, .lst (ds := ds) q r, e => by
    unfold toP at e
    cases z : toPs ds with
    | none => rw [z] at e; cases e
    | some ps => rw [z] at e; cases e; exact .lst (.inl (.inl q)) (IsAll.dp r z)
  | _, _, _, .dk q k r, e => by cases e
  | _, _, _, .dt q k r, e => by cases e
  | _, _, _, .ins m q k r, e => by cases e
  | _, _, _, .scr q, e => by cases e
  | _, _, _, .exc a, e => by cases e
  | _, _, _, .ex0 _ _, e => by cases e
  | _, _, _, .ex1 _ _ _ _, e => by cases e
  | _, _, _, .tpf (ds := ds) q n r, e => by
    unfold toP at e
    cases z : toPs ds with
    | none => rw [z] at e; cases e
    | some ps => rw [z] at e; cases e; exact .tup (.inl (.inr ⟨_, q⟩)) (IsAll.dp r z)
theorem IsAll.dp {K : PySem.W.Frag} {mg : Str → Option Value} {H : Hp} : ∀ {vs : List V} {ds : List D} {ps : List PyData}, IsAll K mg H vs ds → toPs ds = some ps → DpAll K H vs ps
  | _, _, _, .nil, e => by cases e; exact .nil
  | _, _, _, .cons (d := d) (ds := ds) h t, e => by
    unfold toPs at e
    cases z : toP d with
    | none => simp [z] at e
    | some p =>
      cases z2 : toPs ds with
      | none => simp [z, z2] at e
      | some ps => simp only [z, z2, Option.some.injEq] at e; subst e; exact .cons (Is.dp h z) (IsAll.dp t z2)
end
/-- two data, by what == says -/
def eqD (a b : D) : Option Bool := match toP a, toP b with
  | some x, some y => if SeqAt.shaped x = true ∧ SeqAt.shaped y = true then some (PyData.eqv x y) else none
  | _, _ => none
def gEq (a b : D) : Option R := (eqD a b).map fun c => .fz (.bl c)
def gNe (a b : D) : Option R := (eqD a b).map fun c => .fz (.bl (!c))
theorem eqD_some {a b : D} {c : Bool} (h : eqD a b = some c) : ∃ x y, toP a = some x ∧ toP b = some y ∧ SeqAt.shaped x = true ∧ SeqAt.shaped y = true ∧ c = PyData.eqv x y := by
  unfold eqD at h
  cases e1 : toP a with
  | none => simp [e1] at h
  | some x =>
    cases e2 : toP b with
    | none => simp [e1, e2] at h
    | some y =>
      by_cases q : SeqAt.shaped x = true ∧ SeqAt.shaped y = true
      · simp only [e1, e2, if_pos q, Option.some.injEq] at h
        exact ⟨x, y, rfl, rfl, q.1, q.2, h.symm⟩
      · simp [e1, e2, if_neg q] at h
theorem eqOk : BinOk X (rEqD X.K) gEq := by
  intro x y F H Q a b z s ha hb e q
  unfold gEq at e
  cases z1 : eqD a b with
  | none => rw [z1] at e; cases e
  | some c =>
    rw [z1] at e
    cases e
    obtain ⟨p, p', e1, e2, s1, s2, rfl⟩ := eqD_some z1
    exact ⟨p, p', (ha.is s).dp e1, (hb.is s).dp e2, s1, s2, q _ _ (.old (.bl _))⟩
theorem neOk : BinOk X (rNeD X.K) gNe := by
  intro x y F H Q a b z s ha hb e q
  unfold gNe at e
  cases z1 : eqD a b with
  | none => rw [z1] at e; cases e
  | some c =>
    rw [z1] at e
    cases e
    obtain ⟨p, p', e1, e2, s1, s2, rfl⟩ := eqD_some z1
    exact ⟨p, p', (ha.is s).dp e1, (hb.is s).dp e2, s1, s2, q _ _ (.old (.bl _))⟩
end
end DL
-- DD
namespace DL
open PySem PySem.Spec PyProof.Rows L2
section
variable {X : Cx} {W : WX} {F F1 F' : Hp} {E E1 E' : En} {σ : L2.St} {H H1 H' : Hp}
variable {a b c : Expr} {fa fb fc : M R} {pos : Pos}
theorem d_cmp {op : CmpOp} {r : R2} {g : D → D → Option R} (ho : OpR X (compareOp op) r) (hr : BinOk X r g) (ha : DE X W a fa) (hb : DE X W b fb) (hm : behindInMarks op b = false) : DE X W (.Compare a [op] [b] pos) (mBin g fa fb) :=
  ⟨pe_mono (pe_cmpR ho ha.pe hb.pe hm) fun σ H Q ⟨F, E, rel, h⟩ => h.bin hr rel⟩
theorem hu64 {k : Nat} {A : Around} (h : Room k A) : A.units + 64 < cLine := h.units
theorem hu65 {k : Nat} {A : Around} (h : Room k A) : A.units + 65 < cLine := by have := h.un; omega
theorem hu0 {k : Nat} {A : Around} (h : Room k A) : A.units < cLine := by have := h.un; omega

/-- less than, of ints and of tuples of ints (by places) -/
def ltD : D → D → Option Bool
  | .int i, .int j => some (decide (i < j))
  | _, _ => none
def gLt := gCmp fun i j => decide (i < j)
def gLe := gCmp fun i j => decide (i ≤ j)
def gGt := gCmp fun i j => decide (j < i)
def gGe := gCmp fun i j => decide (j ≤ i)
theorem d_lt (ha : DE X W a fa) (hb : DE X W b fb) : DE X W (.Compare a [.Lt] [b] pos) (mBin gLt fa fb) := d_cmp op_lt binB0 ha hb (nomark _)
theorem d_le (ha : DE X W a fa) (hb : DE X W b fb) : DE X W (.Compare a [.LtE] [b] pos) (mBin gLe fa fb) := d_cmp op_le binB0 ha hb (nomark _)
theorem d_gt (ha : DE X W a fa) (hb : DE X W b fb) : DE X W (.Compare a [.Gt] [b] pos) (mBin gGt fa fb) := d_cmp op_gt binB0 ha hb (nomark _)
theorem d_ge (ha : DE X W a fa) (hb : DE X W b fb) : DE X W (.Compare a [.GtE] [b] pos) (mBin gGe fa fb) := d_cmp op_ge binB0 ha hb (nomark _)
theorem d_eq {k : Nat} (hr : Room k X.A) (ha : DE X W a fa) (hb : DE X W b fb) : DE X W (.Compare a [.Eq] [b] pos) (mBin gEq fa fb) := d_cmp (op_eqD (hu64 hr)) eqOk ha hb (nomark _)
theorem d_ne {k : Nat} (hr : Room k X.A) (ha : DE X W a fa) (hb : DE X W b fb) : DE X W (.Compare a [.NotEq] [b] pos) (mBin gNe fa fb) := d_cmp (op_neD (hu64 hr)) neOk ha hb (nomark _)
def isNon : D → Bool
  | .non => true
  | _ => false
def gIsN : D → Option R := fun a => some (.fz (.bl (isNon a)))
def gNotN : D → Option R := fun a => some (.fz (.bl (!isNon a)))
theorem is1_non {K : PySem.W.Frag} {mg : Str → Option Value} {v : V} {d : D} (h : Is1 K mg F H v d) : decide (v = .non) = isNon d := by
  cases h <;> simp [isNon]
theorem d_isN {j pos'} (ha : DE X W a fa) : DE X W (.Compare a [.Is] [.Constant .none j pos'] pos) (mUn gIsN fa) :=
  ⟨pe_mono (pe_cmp (pc_isN ha.pe)) fun σ H Q ⟨F, E, rel, h⟩ => ⟨F, E, rel, Good.un (r := fun x H Q => Q (.bl (decide (x = .non))) H) (fun x F H Q a z s ha e q => by
    cases e
    rw [is1_non ha]
    exact q _ _ (.old (.bl _))) h⟩⟩
theorem d_notN {j pos'} (ha : DE X W a fa) : DE X W (.Compare a [.IsNot] [.Constant .none j pos'] pos) (mUn gNotN fa) :=
  ⟨pe_mono (pe_cmp (pc_notN ha.pe)) fun σ H Q ⟨F, E, rel, h⟩ => ⟨F, E, rel, Good.un (r := fun x H Q => Q (.bl (!decide (x = .non))) H) (fun x F H Q a z s ha e q => by
    cases e
    rw [is1_non ha]
    exact q _ _ (.old (.bl _))) h⟩⟩
def inD (x : D) : List D → Option Bool
  | [] => some false
  | y :: ys => match eqD y x, inD x ys with
    | some c, some d => some (c || d)
    | _, _ => none
theorem hinD {x : D} {ys : List D} {c : Bool} {p : PyData} (hp : toP x = some p) (hs : SeqAt.shaped p = true) (h : inD x ys = some c) : ∃ ps, toPs ys = some ps ∧ (∀ z ∈ ps, SeqAt.shaped z = true) ∧ c = ps.any fun z => PyData.eqv z p := by
  induction ys generalizing c with
  | nil => simp [inD] at h; exact ⟨[], rfl, fun _ hz => by simp at hz, by simp [h]⟩
  | cons y ys ih =>
    unfold inD at h
    cases e1 : eqD y x with
    | none => simp [e1] at h
    | some c1 =>
      cases e2 : inD x ys with
      | none => simp [e1, e2] at h
      | some c2 =>
        simp only [e1, e2, Option.some.injEq] at h
        subst h
        obtain ⟨ps, h1, h2, h3⟩ := ih e2
        obtain ⟨py, px, q1, q2, q3, q4, q5⟩ := eqD_some e1
        rw [hp] at q2
        cases q2
        refine ⟨py :: ps, by simp [toPs, q1, h1], fun z hz => ?_, by rw [List.any_cons, q5, h3]⟩
        rcases List.mem_cons.mp hz with rfl | hz
        · exact q3
        · exact h2 z hz
/-- the items are shaped: so is a list of them, one level deeper. 60 levels are asked of items -/
def shaped60 (d : PyData) : Bool := d.canLay0 && decide (d.depth ≤ 60)
def gIn (x y : D) : Option R := match toP x, y with
  | some p, .lst ys => (match toP (.lst ys) with
    | some (.list ps) => if SeqAt.shaped p = true ∧ SeqAt.shaped (.list ps) = true then some (.fz (.bl (ps.any fun z => PyData.eqv z p))) else none
    | _ => none)
  | some p, .tup ys => (match toP (.tup ys) with
    | some (.tuple ps) => if SeqAt.shaped p = true ∧ SeqAt.shaped (.list ps) = true then some (.fz (.bl (ps.any fun z => PyData.eqv z p))) else none
    | _ => none)
  | _, _ => none
end
end DL
-- DF
namespace DL
open PySem PySem.Spec PyProof.Rows L2
section
variable {X : Cx} {W : WX} {F F1 F' : Hp} {E E1 E' : En} {σ : L2.St} {H H1 H' : Hp}
variable {a b c e : Expr} {es : List Expr} {fa fb fc : M R} {pos : Pos}

def GoodA (X : Cx) (W : WX) (F : Hp) (E : En) (σ : L2.St) (H : Hp) (f : M (List D)) (Q : List V → Hp → Prop) : Prop := match f E with
  | .ok ds E' => ∀ F' H' vs, Stp X F E σ H F' E' σ H' → IsAll X.K X.mg F' vs ds → Q vs H'
  | .ex x E' => ∀ F' H' cls d, Stp X F E σ H F' E' σ H' → XnOk X F' H' cls d x → W cls d σ H'
  | .no => False
structure DA (X : Cx) (W : WX) (es : List Expr) (f : M (List D)) : Prop where
  pa : PA X es fun σ H Q => ∃ F E, Rel X F E σ H ∧ GoodA X W F E σ H f Q
def mNil : M (List D) := M.ret []
def mCons (f : M R) (g : M (List D)) : M (List D) := M.bnd f fun r => M.bnd (take r) fun d => M.bnd g fun ds => M.ret (d :: ds)
theorem da_nil : DA X W [] mNil := ⟨pa_mono pa_nil fun σ H Q ⟨F, E, rel, h⟩ => h F H [] (Stp.refl rel) .nil⟩
theorem da_cons {f : M R} {g : M (List D)} (he : DE X W e f) (hs : DA X W es g) (hst : starEach (e :: es) X.env = (false, eval e X.env) :: starEach es X.env := by rfl) : DA X W (e :: es) (mCons f g) := by
  refine ⟨pa_mono (pa_cons he.pe hs.pa hst) fun σ H Q ⟨F, E, rel, h⟩ => ?_⟩
  show rdE X W f σ H _
  refine ⟨F, E, rel, ?_⟩
  unfold GoodA mCons at h
  unfold Good
  cases q : f E with
  | ok r E1 =>
    simp only [M.bnd, q] at h
    intro F1 H1 v s re nw
    cases qt : take r E1 with
    | ok d E2 =>
      simp only [qt] at h
      obtain ⟨F2, s2, hI⟩ := take_ok s re nw qt
      refine ⟨F2, E2, s2.rel, ?_⟩
      unfold GoodA
      cases qg : g E2 with
      | ok ds E3 =>
        simp only [qg, M.ret] at h
        exact fun F3 H3 vs s3 hA => h F3 H3 (v :: vs) (s2.trans s3) (.cons (hI.mono s3.mono) hA)
      | ex x E3 =>
        simp only [qg] at h
        exact fun F3 H3 c d s3 xo => h F3 H3 c d (s2.trans s3) xo
      | no => simp only [qg] at h
    | ex x E2 => exact (take_no qt).elim
    | no => simp only [qt] at h
  | ex x E1 => simp only [M.bnd, q] at h; exact h
  | no => simp only [M.bnd, q] at h
def mTup (f : M (List D)) : M R := M.bnd f fun ds => if ds.length ≤ 100000 then M.ret (.fz (.tup ds)) else fun _ => .no
def mLst (f : M (List D)) : M R := M.bnd f fun ds => if ds.length ≤ 100000 then M.ret (.fs (.lst ds)) else fun _ => .no
theorem GoodA.go {f : M (List D)} {k : List D → M R} {Q : VK} {P : List V → Hp → Prop} (h : Good X W F E σ H (M.bnd f k) Q)
    (m : ∀ F1 E1 H1 vs ds, Stp X F E σ H F1 E1 σ H1 → IsAll X.K X.mg F1 vs ds → Good X W F1 E1 σ H1 (k ds) Q → P vs H1) : GoodA X W F E σ H f P := by
  unfold GoodA
  cases q : f E with
  | ok ds E1 =>
    intro F1 H1 vs s hA
    exact m F1 E1 H1 vs ds s hA (h.later (E0 := E) s (by unfold M.bnd; rw [q]))
  | ex x E1 => unfold Good at h; simp only [M.bnd, q] at h; exact h
  | no => unfold Good at h; simp only [M.bnd, q] at h
theorem d_tup {f : M (List D)} {x1} (h : DA X W es f) : DE X W (.Tuple es x1 pos) (mTup f) := by
  refine ⟨pe_mono (pe_tup h.pa) fun σ H Q ⟨F, E, rel, g⟩ => ⟨F, E, rel, GoodA.go g fun F1 E1 H1 vs ds s hA g1 => ?_⟩⟩
  by_cases hz : ds.length ≤ 100000
  · rw [if_pos hz] at g1
    exact ⟨line_le (by rw [hA.length]; exact hz), fun p hp => g1.out s.rel rfl (out_cat s.rel.le hp hA)⟩
  · rw [if_neg hz] at g1
    exact g1.elim
theorem d_lst {f : M (List D)} (h : DA X W es f) : DE X W (.List es pos) (mLst f) := by
  refine ⟨pe_mono (pe_lst h.pa) fun σ H Q ⟨F, E, rel, g⟩ => ⟨F, E, rel, GoodA.go g fun F1 E1 H1 vs ds s hA g1 => ?_⟩⟩
  by_cases hz : ds.length ≤ 100000
  · rw [if_pos hz] at g1
    exact ⟨line_le (by rw [hA.length]; exact hz), fun p hp => g1.out s.rel rfl (out_lst hp hA)⟩
  · rw [if_neg hz] at g1
    exact g1.elim

inductive ResAll (X : Cx) (F : Hp) (E : En) (σ : L2.St) (H : Hp) : List V → List R → Prop
  | nil : ResAll X F E σ H [] []
  | cons {v : V} {vs : List V} {r : R} {rs : List R} : Res X F E σ H v r → ResAll X F E σ H vs rs → ResAll X F E σ H (v :: vs) (r :: rs)
inductive Is1All (K : PySem.W.Frag) (mg : Str → Option Value) (F H : Hp) : List V → List D → Prop
  | nil : Is1All K mg F H [] []
  | cons {v : V} {vs : List V} {d : D} {ds : List D} : Is1 K mg F H v d → Is1All K mg F H vs ds → Is1All K mg F H (v :: vs) (d :: ds)
theorem ResAll.step {vs : List V} {rs : List R} (h : ResAll X F E σ H vs rs) (s : Stp X F E σ H F' E' σ H') : ResAll X F' E' σ H' vs rs := by
  induction h with
  | nil => exact .nil
  | cons a _ ih => exact .cons (a.step s) ih
def pks : List R → En → Option (List D)
  | [], _ => some []
  | r :: rs, E => match pk r E, pks rs E with
    | some d, some ds => some (d :: ds)
    | _, _ => none
theorem ResAll.pks {vs : List V} {rs : List R} (h : ResAll X F E σ H vs rs) (q : Rel X F E σ H) : ∀ {ds : List D}, pks rs E = some ds → Is1All X.K X.mg F H vs ds := by
  induction h with
  | nil => intro ds e; cases e; exact .nil
  | @cons v vs r rs a _ ih =>
    intro ds e
    unfold DL.pks at e
    cases z1 : pk r E with
    | none => simp [z1] at e
    | some d =>
      cases z2 : DL.pks rs E with
      | none => simp [z1, z2] at e
      | some ds' =>
        simp only [z1, z2, Option.some.injEq] at e
        subst e
        exact .cons (a.peek1 q z1) (ih z2)
def GoodP (X : Cx) (W : WX) (F : Hp) (E : En) (σ : L2.St) (H : Hp) (f : M (List R)) (Q : List V → Hp → Prop) : Prop := match f E with
  | .ok rs E' => ∀ F' H' vs, Stp X F E σ H F' E' σ H' → ResAll X F' E' σ H' vs rs → Q vs H'
  | .ex x E' => ∀ F' H' cls d, Stp X F E σ H F' E' σ H' → XnOk X F' H' cls d x → W cls d σ H'
  | .no => False
structure DP (X : Cx) (W : WX) (es : List Expr) (f : M (List R)) : Prop where
  pa : PA X es fun σ H Q => ∃ F E, Rel X F E σ H ∧ GoodP X W F E σ H f Q
def pNil : M (List R) := M.ret []
def pCons (f : M R) (g : M (List R)) : M (List R) := M.bnd f fun r => M.bnd g fun rs => M.ret (r :: rs)
theorem dp_nil : DP X W [] pNil := ⟨pa_mono pa_nil fun σ H Q ⟨F, E, rel, h⟩ => h F H [] (Stp.refl rel) .nil⟩
theorem dp_cons {f : M R} {g : M (List R)} (he : DE X W e f) (hs : DP X W es g) (hst : starEach (e :: es) X.env = (false, eval e X.env) :: starEach es X.env := by rfl) : DP X W (e :: es) (pCons f g) := by
  refine ⟨pa_mono (pa_cons he.pe hs.pa hst) fun σ H Q ⟨F, E, rel, h⟩ => ?_⟩
  show rdE X W f σ H _
  refine ⟨F, E, rel, ?_⟩
  unfold GoodP pCons at h
  unfold Good
  cases q : f E with
  | ok r E1 =>
    simp only [M.bnd, q] at h
    intro F1 H1 v s re nw
    refine ⟨F1, E1, s.rel, ?_⟩
    unfold GoodP
    cases qg : g E1 with
    | ok ds E3 =>
      simp only [qg, M.ret] at h
      exact fun F3 H3 vs s3 hA => h F3 H3 (v :: vs) (s.trans s3) (.cons (re.step s3) hA)
    | ex x E3 =>
      simp only [qg] at h
      exact fun F3 H3 c d s3 xo => h F3 H3 c d (s.trans s3) xo
    | no => simp only [qg] at h
  | ex x E1 => simp only [M.bnd, q] at h; exact h
  | no => simp only [M.bnd, q] at h
def mRd (g : List D → Option R) (f : M (List R)) : M R := M.bnd f fun rs => fun E => match pks rs E with
  | some ds => mOut (g ds) E
  | none => .no
/-- by values -/
def CbOk (X : Cx) (r : List V → Hp → VK → Prop) (g : List D → Option R) : Prop := ∀ (vs : List V) (F H : Hp) (Q : VK) (ds : List D) (z : R), Same F H → Is1All X.K X.mg F H vs ds → g ds = some z →
  (∀ v H', Out X.K X.mg F H v H' z → Q v H') → r vs H Q
theorem GoodP.go {f : M (List R)} {g : List D → Option R} {Q : VK} {r : List V → Hp → VK → Prop} (ok : CbOk X r g) (h : Good X W F E σ H (mRd g f) Q) : GoodP X W F E σ H f fun vs H1 => r vs H1 Q := by
  unfold GoodP
  cases q : f E with
  | ok rs E1 =>
    intro F1 H1 vs s hA
    have h1 := h.later (E0 := E) (f := fun E => match pks rs E with | some ds => mOut (g ds) E | none => .no) s (by unfold mRd M.bnd; rw [q])
    cases q1 : pks rs E1 with
    | none => unfold Good at h1; simp only [q1] at h1
    | some ds =>
      cases q2 : g ds with
      | none => unfold Good at h1; simp only [q1, q2, mOut] at h1
      | some z => exact ok vs F1 H1 Q ds z s.rel.le (hA.pks s.rel q1) q2 fun v H' o => h1.out s.rel (by simp only [q1, q2, mOut]) o
  | ex x E1 => unfold Good at h; simp only [mRd, M.bnd, q] at h; exact h
  | no => unfold Good at h; simp only [mRd, M.bnd, q] at h
theorem d_callB {id : String} {x : Str} {p : Pos} {r : List V → Hp → VK → Prop} {g : List D → Option R} {f : M (List R)} (hc : CallR X (.builtin id) r) (ok : CbOk X r g) (hg : Gl X x) (hm : X.mg x = none) (hv : bootBuiltins x = some (.builtin id)) (ha : DP X W (e :: es) f)
    (hn : x ≠ "__name__" := by decide) (hdb : (x == ("__debug__" : Str)) = false := by decide)
    (he : starEach (e :: es) X.env = (false, eval e X.env) :: starEach es X.env := by rfl) (hpl : (backTo pos (starEach es X.env)).any (·.1) = false := by rfl) : DE X W (.Call (.Name x p) (e :: es) [] pos) (mRd g f) :=
  ⟨pe_mono (pe_callB hc hg hm hv ha.pa hn hdb he hpl) fun σ H Q ⟨F, E, rel, h⟩ => ⟨F, E, rel, GoodP.go ok h⟩⟩
theorem d_callTy {T : String} {x : Str} {p : Pos} {r : List V → Hp → VK → Prop} {g : List D → Option R} {f : M (List R)} (hc : CallR X (.type T) r) (ok : CbOk X r g) (hg : Gl X x) (hm : X.mg x = none) (hv : bootBuiltins x = some (.type T)) (ha : DP X W (e :: es) f)
    (hn : x ≠ "__name__" := by decide) (hdb : (x == ("__debug__" : Str)) = false := by decide)
    (he : starEach (e :: es) X.env = (false, eval e X.env) :: starEach es X.env := by rfl) (hpl : (backTo pos (starEach es X.env)).any (·.1) = false := by rfl) : DE X W (.Call (.Name x p) (e :: es) [] pos) (mRd g f) :=
  ⟨pe_mono (pe_callTy hc hg hm hv ha.pa hn hdb he hpl) fun σ H Q ⟨F, E, rel, h⟩ => ⟨F, E, rel, GoodP.go ok h⟩⟩

def gLen : List D → Option R
  | [.lst ds] => some (.fz (.int ds.length))
  | [.tup ds] => some (.fz (.int ds.length))
  | [.tpf ds] => some (.fz (.int ds.length))
  | _ => none
theorem lenOk : CbOk X (fun xs H Q => ∃ p ys, xs = [.ref p] ∧ (SqL X.K H p ys ∨ SqT X.K H p ys) ∧ Q (.int ys.length) H) gLen := by
  intro vs F H Q ds z s hA e q
  cases hA with
  | nil => cases e
  | cons h t =>
    cases t with
    | cons _ _ => cases h <;> simp [gLen] at e
    | nil =>
      cases h with
      | @lst a vs ds h r =>
        cases e
        exact ⟨_, _, rfl, .inl (.inl (.inl h)), by rw [r.length]; exact q _ _ (.old (.int _))⟩
      | @tup a vs ds h r =>
        cases e
        exact ⟨_, _, rfl, .inr (tupS s h), by rw [r.length]; exact q _ _ (.old (.int _))⟩
      | @tpf a o vs ds h n r =>
        cases e
        exact ⟨_, _, rfl, .inr (tpfS s h), by rw [r.length]; exact q _ _ (.old (.int _))⟩
      | _ => simp [gLen] at e
def gList : List D → Option R
  | [.lst ds] => some (.fs (.lst ds))
  | [.tup ds] => some (.fs (.lst ds))
  | [.tpf ds] => some (.fs (.lst ds))
  | _ => none
theorem listOk : CbOk X (fun xs H Q => ∃ p ys, xs = [.ref p] ∧ (SqL X.K H p ys ∨ SqT X.K H p ys) ∧ ∀ l, H l = none → Q (.ref l) (upd H l (.lst ys))) gList := by
  intro vs F H Q ds z s hA e q
  cases hA with
  | nil => cases e
  | cons h t =>
    cases t with
    | cons _ _ => cases h <;> simp [gList] at e
    | nil =>
      cases h with
      | @lst a vs ds h r =>
        cases e
        exact ⟨_, _, rfl, .inl (.inl (.inl h)), fun l hl => q _ _ (out_lst hl r)⟩
      | @tup a vs ds h r =>
        cases e
        exact ⟨_, _, rfl, .inr (tupS s h), fun l hl => q _ _ (out_lst hl r)⟩
      | @tpf a o vs ds h n r =>
        cases e
        exact ⟨_, _, rfl, .inr (tpfS s h), fun l hl => q _ _ (out_lst hl r)⟩
      | _ => simp [gList] at e
def gTuple : List D → Option R
  | [.lst ds] => some (.fz (.tup ds))
  | [.tup ds] => some (.fz (.tup ds))
  | _ => none
theorem tupleOk : CbOk X (fun xs H Q => ∃ p ys, xs = [.ref p] ∧ ((SqL X.K H p ys ∧ ∀ l, H l = none → Q (.ref l) (upd H l (.tup ys))) ∨ (SqT X.K H p ys ∧ Q (.ref p) H))) gTuple := by
  intro vs F H Q ds z s hA e q
  cases hA with
  | nil => cases e
  | cons h t =>
    cases t with
    | cons _ _ => cases h <;> simp [gTuple] at e
    | nil =>
      cases h with
      | @lst a vs ds h r =>
        cases e
        exact ⟨_, _, rfl, .inl ⟨.inl (.inl h), fun l hl => q _ _ (out_cat s hl r)⟩⟩
      | @tup a vs ds h r =>
        cases e
        exact ⟨_, _, rfl, .inr ⟨tupS s h, q _ _ (.old (.tup h r))⟩⟩
      | _ => simp [gTuple] at e

def gIx : D → D → Option R
  | .lst ds, .int i => (atI ds i).map .fz
  | .tup ds, .int i => (atI ds i).map .fz
  | .tpf ds, .int i => (atI ds i).map .fz
  | _, _ => none
theorem atI_all {K : PySem.W.Frag} {mg : Str → Option Value} {vs : List V} {ds : List D} {i : Int} {d : D} (h : IsAll K mg F vs ds) (e : atI ds i = some d) : ∃ v, atI vs i = some v ∧ Is K mg F v d := by
  unfold atI at e ⊢
  rw [h.length]
  cases z : ixN ds.length i with
  | none => rw [z] at e; cases e
  | some j =>
    rw [z] at e
    exact h.get e
theorem ixOk : BinOk X (fun x y H Q => rIxL X.K x y H Q ∨ rIxT X.K x y H Q) gIx := by
  intro x y F H Q a b z s ha hb e q
  cases ha with
  | @lst l vs ds h r =>
    cases hb with
    | int i =>
      unfold gIx at e
      cases w : atI ds i with
      | none => simp [w] at e
      | some d =>
        simp only [w, Option.map_some, Option.some.injEq] at e
        subst e
        obtain ⟨v, h1, h2⟩ := atI_all r w
        exact .inl ⟨l, vs, i, v, rfl, rfl, .inl (.inl h), h1, q _ _ (.old h2)⟩
    | _ => simp [gIx] at e
  | @tup l vs ds h r =>
    cases hb with
    | int i =>
      unfold gIx at e
      cases w : atI ds i with
      | none => simp [w] at e
      | some d =>
        simp only [w, Option.map_some, Option.some.injEq] at e
        subst e
        obtain ⟨v, h1, h2⟩ := atI_all r w
        exact .inr ⟨l, vs, i, v, rfl, rfl, tupS s h, h1, q _ _ (.old h2)⟩
    | _ => simp [gIx] at e
  | @tpf l o vs ds h n r =>
    cases hb with
    | int i =>
      unfold gIx at e
      cases w : atI ds i with
      | none => simp [w] at e
      | some d =>
        simp only [w, Option.map_some, Option.some.injEq] at e
        subst e
        obtain ⟨v, h1, h2⟩ := atI_all r w
        exact .inr ⟨l, vs, i, v, rfl, rfl, tpfS s h, h1, q _ _ (.old h2)⟩
    | _ => simp [gIx] at e
  | _ => simp [gIx] at e
theorem d_ix (ha : DE X W a fa) (hb : DE X W b fb) (hs : PlainIx b := by exact fun _ _ => rfl) : DE X W (.Subscript a b pos) (mBin gIx fa fb) :=
  ⟨pe_mono (pe_ix (ix_list.or ix_tup) ha.pe hb.pe hs) fun σ H Q ⟨F, E, rel, h⟩ => h.bin ixOk rel⟩
end
end DL
-- DG
namespace DL
open PySem PySem.Spec PyProof.Rows L2
section
variable {X : Cx} {W : WX} {F F1 F' : Hp} {E E1 E' : En} {σ : L2.St} {H H1 H' : Hp}
variable {a b c e : Expr} {es rest : List Expr} {fa fb fc : M R} {pos : Pos}
def GoodB (X : Cx) (W : WX) (F : Hp) (E : En) (σ : L2.St) (H : Hp) (f : M Bool) (Q : Bool → Hp → Prop) : Prop := match f E with
  | .ok b E' => ∀ F' H', Stp X F E σ H F' E' σ H' → Q b H'
  | .ex x E' => ∀ F' H' cls d, Stp X F E σ H F' E' σ H' → XnOk X F' H' cls d x → W cls d σ H'
  | .no => False
def rdT (X : Cx) (W : WX) (f : M Bool) : TT := fun σ H Q => ∃ F E, Rel X F E σ H ∧ GoodB X W F E σ H f Q
structure DT (X : Cx) (W : WX) (e : Expr) (f : M Bool) : Prop where
  pt : PT X e (rdT X W f)
structure DW (X : Cx) (W : WX) (e : Expr) (f : M Bool) : Prop where
  pw : PW X e (rdT X W f)
theorem DW.dt {f : M Bool} (h : DW X W e f) : DT X W e f := ⟨h.pw.pt⟩
theorem GoodB.later {f g : M Bool} {Q : Bool → Hp → Prop} {E0 : En} (s : Stp X F E σ H F1 E1 σ H1) (e : g E = f E1) (h : GoodB X W F E σ H g Q) : GoodB X W F1 E1 σ H1 f Q := by
  unfold GoodB at h ⊢
  rw [e] at h
  cases q : f E1 with
  | ok r E2 => rw [q] at h; exact fun F' H' s2 => h F' H' (s.trans s2)
  | ex x E2 => rw [q] at h; exact fun F' H' c d s2 xo => h F' H' c d (s.trans s2) xo
  | no => rw [q] at h; exact h
/-- a value, then a test -/
theorem GoodB.val {f : M R} {k : R → M Bool} {Q : Bool → Hp → Prop} {P : VK} (h : GoodB X W F E σ H (M.bnd f k) Q)
    (m : ∀ F1 E1 H1 v r, Stp X F E σ H F1 E1 σ H1 → Res X F1 E1 σ H1 v r → GoodB X W F1 E1 σ H1 (k r) Q → P v H1) : Good X W F E σ H f P := by
  unfold Good
  cases q : f E with
  | ok r E1 => exact fun F1 H1 v s re nw => m F1 E1 H1 v r s re (h.later (E0 := E) s (by unfold M.bnd; rw [q]))
  | ex x E1 => unfold GoodB at h; simp only [M.bnd, q] at h; exact h
  | no => unfold GoodB at h; simp only [M.bnd, q] at h
/-- a test, then a test -/
theorem GoodB.tst {f : M Bool} {k : Bool → M Bool} {Q P : Bool → Hp → Prop} (h : GoodB X W F E σ H (M.bnd f k) Q)
    (m : ∀ F1 E1 H1 b, Stp X F E σ H F1 E1 σ H1 → GoodB X W F1 E1 σ H1 (k b) Q → P b H1) : GoodB X W F E σ H f P := by
  unfold GoodB
  cases q : f E with
  | ok r E1 => exact fun F1 H1 s => m F1 E1 H1 r s (h.later (E0 := E) s (by unfold M.bnd; rw [q]))
  | ex x E1 => unfold GoodB at h; simp only [M.bnd, q] at h; exact h
  | no => unfold GoodB at h; simp only [M.bnd, q] at h
/-- a test, then a value -/
theorem Good.tst {f : M Bool} {k : Bool → M R} {Q : VK} {P : Bool → Hp → Prop} (h : Good X W F E σ H (M.bnd f k) Q)
    (m : ∀ F1 E1 H1 b, Stp X F E σ H F1 E1 σ H1 → Good X W F1 E1 σ H1 (k b) Q → P b H1) : GoodB X W F E σ H f P := by
  unfold GoodB
  cases q : f E with
  | ok r E1 => exact fun F1 H1 s => m F1 E1 H1 r s (h.later (E0 := E) s (by unfold M.bnd; rw [q]))
  | ex x E1 => unfold Good at h; simp only [M.bnd, q] at h; exact h
  | no => unfold Good at h; simp only [M.bnd, q] at h
theorem GoodB.fin {f : M Bool} {Q : Bool → Hp → Prop} {b : Bool} (rel : Rel X F E σ H) (h : GoodB X W F E σ H f Q) (e : f E = .ok b E) : Q b H := by
  unfold GoodB at h
  rw [e] at h
  exact h F H (Stp.refl rel)

/-- a value's truth -/
def truD : D → Option Bool
  | .non => some false
  | .bl b => some b
  | .int i => some (i != 0)
  | .tup ds => some (!ds.isEmpty)
  | .lst ds => some (!ds.isEmpty)
  | .dk kvs => some (!kvs.isEmpty)
  | _ => none
def mTru (f : M R) : M Bool := M.bnd f fun r => fun E => match (pk r E).bind truD with
  | some b => .ok b E
  | none => .no
theorem empty_len {α β : Type} {xs : List α} {ys : List β} (h : xs.length = ys.length) : xs.isEmpty = ys.isEmpty := by
  cases xs <;> cases ys <;> simp_all
theorem truD_ok {K : PySem.W.Frag} {mg : Str → Option Value} {v : V} {d : D} {k : Bool} (s : Same F H) (h : Is1 K mg F H v d) (e : truD d = some k) : TruV K v H k := by
  cases h with
  | non => cases e; rfl
  | bl b => cases e; rfl
  | int i => cases e; rfl
  | str x => cases e
  | tup q r => cases e; exact .inr (.inl ⟨_, tupS s q, by rw [empty_len r.length]⟩)
  | lst q r => cases e; exact .inl ⟨_, .inl (.inl q), by rw [empty_len r.length]⟩
  | @dk a vs kvs q k r =>
    cases e
    refine .inr (.inr ⟨_, q, ?_⟩)
    have := congrArg List.length k
    simp only [List.length_map] at this
    rw [empty_len this]
  | dt q k r => cases e
  | ins m q k r => cases e
  | scr q => cases e
  | exc a => cases e
  | tpf q n r => cases e
  | ex0 m q => cases e
  | ex1 m q q2 r => cases e
theorem mTru_ok {f : M R} {Q : Bool → Hp → Prop} (h : GoodB X W F E σ H (mTru f) Q) : Good X W F E σ H f fun x H' => ∃ k, TruV X.K x H' k ∧ Q k H' :=
  GoodB.val h fun F1 E1 H1 v r s re g => by
    cases q : pk r E1 with
    | none => unfold GoodB at g; simp only [q, Option.bind_none] at g
    | some d =>
      cases q2 : truD d with
      | none => unfold GoodB at g; simp only [q, q2, Option.bind_some] at g
      | some k => exact ⟨k, truD_ok s.rel.le (re.peek1 s.rel q) q2, g.fin s.rel (by simp only [q, q2, Option.bind_some])⟩
/-- any expression as a test, by its value's truth -/
theorem t_val (h : DE X W e fa) (he : ∀ whole, isTrue e X.env whole = (do let v ← whole; standAt e.pos; holding [v] (truthy v)) := by intro _; rfl) : DT X W e (mTru fa) :=
  ⟨pt_mono (pt_truth h.pe he) fun σ H Q ⟨F, E, rel, g⟩ => ⟨F, E, rel, mTru_ok g⟩⟩
/-- a comparison as a test -/
def mBl (f : M R) : M Bool := M.bnd f fun r => fun E => match r with
  | .fz (.bl b) => .ok b E
  | _ => .no
theorem mBl_ok {f : M R} {Q : Bool → Hp → Prop} (h : GoodB X W F E σ H (mBl f) Q) : Good X W F E σ H f fun x H' => ∃ k, x = .bl k ∧ Q k H' :=
  GoodB.val h fun F1 E1 H1 v r s re g => by
    cases r with
    | fz d =>
      cases d with
      | bl b =>
        cases re
        exact ⟨b, rfl, g.fin s.rel rfl⟩
      | _ => exact g.elim
    | _ => exact g.elim
theorem Good.binT {g : D → D → Option R} {r : R2} {Q : Bool → Hp → Prop} (hr : BinOk X r g) (rel : Rel X F E σ H) (h : GoodB X W F E σ H (mBl (mBin g fa fb)) Q) : rdE X W fa σ H fun x H1 => rdE X W fb σ H1 fun y H2 => r x y H2 fun x H' => ∃ k, x = .bl k ∧ Q k H' :=
  Good.bin hr rel (mBl_ok h)
theorem t_cmp {op : CmpOp} {r : R2} {g : D → D → Option R} (ho : OpR X (compareOp op) r) (hr : BinOk X r g) (ha : DE X W a fa) (hb : DE X W b fb) (hm : behindInMarks op b = false) : DT X W (.Compare a [op] [b] pos) (mBl (mBin g fa fb)) :=
  ⟨pt_mono (pt_cmpR ho ha.pe hb.pe hm) fun σ H Q ⟨F, E, rel, h⟩ => Good.binT hr rel h⟩
theorem t_lt (ha : DE X W a fa) (hb : DE X W b fb) : DT X W (.Compare a [.Lt] [b] pos) (mBl (mBin gLt fa fb)) := t_cmp op_lt binB0 ha hb (nomark _)
theorem t_le (ha : DE X W a fa) (hb : DE X W b fb) : DT X W (.Compare a [.LtE] [b] pos) (mBl (mBin gLe fa fb)) := t_cmp op_le binB0 ha hb (nomark _)
theorem t_gt (ha : DE X W a fa) (hb : DE X W b fb) : DT X W (.Compare a [.Gt] [b] pos) (mBl (mBin gGt fa fb)) := t_cmp op_gt binB0 ha hb (nomark _)
theorem t_ge (ha : DE X W a fa) (hb : DE X W b fb) : DT X W (.Compare a [.GtE] [b] pos) (mBl (mBin gGe fa fb)) := t_cmp op_ge binB0 ha hb (nomark _)
theorem t_eq {k : Nat} (hr : Room k X.A) (ha : DE X W a fa) (hb : DE X W b fb) : DT X W (.Compare a [.Eq] [b] pos) (mBl (mBin gEq fa fb)) := t_cmp (op_eqD (hu64 hr)) eqOk ha hb (nomark _)
theorem t_ne {k : Nat} (hr : Room k X.A) (ha : DE X W a fa) (hb : DE X W b fb) : DT X W (.Compare a [.NotEq] [b] pos) (mBl (mBin gNe fa fb)) := t_cmp (op_neD (hu64 hr)) neOk ha hb (nomark _)
theorem t_isN {j pos'} (ha : DE X W a fa) : DT X W (.Compare a [.Is] [.Constant .none j pos'] pos) (mBl (mUn gIsN fa)) :=
  ⟨pt_mono (pt_cmp (pc_isN ha.pe)) fun σ H Q ⟨F, E, rel, h⟩ => ⟨F, E, rel, Good.un (r := fun x H Q => Q (.bl (decide (x = .non))) H) (fun x F H Q a z s ha e q => by
    cases e
    rw [is1_non ha]
    exact q _ _ (.old (.bl _))) (mBl_ok h)⟩⟩
theorem t_notN {j pos'} (ha : DE X W a fa) : DT X W (.Compare a [.IsNot] [.Constant .none j pos'] pos) (mBl (mUn gNotN fa)) :=
  ⟨pt_mono (pt_cmp (pc_notN ha.pe)) fun σ H Q ⟨F, E, rel, h⟩ => ⟨F, E, rel, Good.un (r := fun x H Q => Q (.bl (!decide (x = .non))) H) (fun x F H Q a z s ha e q => by
    cases e
    rw [is1_non ha]
    exact q _ _ (.old (.bl _))) (mBl_ok h)⟩⟩

def mChain (g g' : D → D → Option R) (fa fb fc : M R) : M R := M.bnd fa fun ra => M.bnd fb fun rb => fun E => match pk ra E, pk rb E with
  | some x, some y => (match g x y with
    | some (.fz (.bl true)) => M.bnd fc (fun rc => fun E' => match pk rb E', pk rc E' with
      | some y', some z => mOut (g' y' z) E'
      | _, _ => .no) E
    | some (.fz (.bl false)) => .ok (.fz (.bl false)) E
    | _ => .no)
  | _, _ => .no
theorem Good.chain {g g' : D → D → Option R} {r r' : R2} {Q : VK} (hr : BinOk X r g) (hr' : BinOk X r' g') (rel : Rel X F E σ H) (h : Good X W F E σ H (mChain g g' fa fb fc) Q) : tChain r r' (rdE X W fa) (rdE X W fb) (rdE X W fc) σ H Q := by
  refine ⟨F, E, rel, Good.imp (fun x H1 hx => ?_) (Good.bnd h)⟩
  obtain ⟨F1, E1, ra, s, re, nw, g1⟩ := hx
  refine ⟨F1, E1, s.rel, Good.imp (fun y H2 hy => ?_) (Good.bnd g1)⟩
  obtain ⟨F2, E2, rb, s2, re2, nw2, g2⟩ := hy
  cases q : pk ra E2 with
  | none => unfold Good at g2; simp only [q] at g2
  | some a =>
    cases q2 : pk rb E2 with
    | none => unfold Good at g2; simp only [q, q2] at g2
    | some b =>
      cases qz : g a b with
      | none => unfold Good at g2; simp only [q, q2, qz] at g2
      | some z =>
        refine hr x y F2 H2 _ a b z s2.rel.le ((re.step s2).peek1 s2.rel q) (re2.peek1 s2.rel q2) qz fun v H' o => ?_
        cases z with
        | fz d =>
          cases d with
          | bl k =>
            cases o with
            | newF _ i => cases i
            | old i =>
              cases i
              refine ⟨k, rfl, ?_⟩
              cases k with
              | false =>
                rw [if_neg Bool.false_ne_true]
                exact g2.out s2.rel (by simp only [q, q2, qz]) (.old (.bl false))
              | true =>
                rw [if_pos rfl]
                have g3 : Good X W F2 E2 σ H2 (M.bnd fc (fun rc => fun E' => match pk rb E', pk rc E' with
                  | some y', some z => mOut (g' y' z) E'
                  | _, _ => .no)) Q := g2.later (E0 := E2) (Stp.refl s2.rel) (by simp only [q, q2, qz])
                refine ⟨F2, E2, s2.rel, Good.imp (fun w H3 hw => ?_) (Good.bnd g3)⟩
                obtain ⟨F3, E3, rc, s3, re3, nw3, g4⟩ := hw
                cases p1 : pk rb E3 with
                | none => unfold Good at g4; simp only [p1] at g4
                | some b' =>
                  cases p2 : pk rc E3 with
                  | none => unfold Good at g4; simp only [p1, p2] at g4
                  | some c' =>
                    cases p3 : g' b' c' with
                    | none => unfold Good at g4; simp only [p1, p2, p3, mOut] at g4
                    | some z' => exact hr' y w F3 H3 Q b' c' z' s3.rel.le ((re2.step s3).peek1 s3.rel p1) (re3.peek1 s3.rel p2) p3 fun v H' o => g4.out s3.rel (by simp only [p1, p2, p3, mOut]) o
          | _ => unfold Good at g2; simp only [q, q2, qz] at g2
        | _ => unfold Good at g2; simp only [q, q2, qz] at g2
theorem d_chain {op op' : CmpOp} {r r' : R2} {g g' : D → D → Option R} (ho : OpR X (compareOp op) r) (ho' : OpR X (compareOp op') r') (hr : BinOk X r g) (hr' : BinOk X r' g') (ha : DE X W a fa) (hb : DE X W b fb) (hc : DE X W c fc)
    (hm : lastMarks [op, op'] [b, c] = false := by with_unfolding_all rfl) : DE X W (.Compare a [op, op'] [b, c] pos) (mChain g g' fa fb fc) :=
  ⟨pe_mono (pe_chain ho ho' ha.pe hb.pe hc.pe hm) fun σ H Q ⟨F, E, rel, h⟩ => h.chain hr hr' rel⟩
theorem t_chain {op op' : CmpOp} {r r' : R2} {g g' : D → D → Option R} (ho : OpR X (compareOp op) r) (ho' : OpR X (compareOp op') r') (hr : BinOk X r g) (hr' : BinOk X r' g') (ha : DE X W a fa) (hb : DE X W b fb) (hc : DE X W c fc)
    (hm : lastMarks [op, op'] [b, c] = false := by with_unfolding_all rfl) : DT X W (.Compare a [op, op'] [b, c] pos) (mBl (mChain g g' fa fb fc)) :=
  ⟨pt_mono (pt_chain ho ho' ha.pe hb.pe hc.pe hm) fun σ H Q ⟨F, E, rel, h⟩ => (mBl_ok h).chain hr hr' rel⟩

variable {ga gb : M Bool}
def mAndB (f g : M Bool) : M Bool := M.bnd f fun c => if c then g else M.ret false
def mOrB (f g : M Bool) : M Bool := M.bnd f fun c => if c then M.ret true else g
def mNotB (f : M Bool) : M Bool := M.bnd f fun c => M.ret (!c)
theorem w_and1 (ha : DT X W a ga) : DW X W (.BoolOp .And [a] pos) ga := ⟨pw_and1 ha.pt⟩
theorem w_or1 (ha : DT X W a ga) : DW X W (.BoolOp .Or [a] pos) ga := ⟨pw_or1 ha.pt⟩
theorem w_and (ha : DT X W a ga) (hb : DW X W (.BoolOp .And (b :: rest) pos) gb) : DW X W (.BoolOp .And (a :: b :: rest) pos) (mAndB ga gb) :=
  ⟨pw_mono (pw_and ha.pt hb.pw) fun σ H Q ⟨F, E, rel, h⟩ => ⟨F, E, rel, GoodB.tst h fun F1 E1 H1 c s g => by
    cases c with
    | true => rw [if_pos rfl] at g ⊢; exact ⟨F1, E1, s.rel, g⟩
    | false => rw [if_neg Bool.false_ne_true] at g ⊢; exact g.fin s.rel rfl⟩⟩
theorem w_or (ha : DT X W a ga) (hb : DW X W (.BoolOp .Or (b :: rest) pos) gb) : DW X W (.BoolOp .Or (a :: b :: rest) pos) (mOrB ga gb) :=
  ⟨pw_mono (pw_or ha.pt hb.pw) fun σ H Q ⟨F, E, rel, h⟩ => ⟨F, E, rel, GoodB.tst h fun F1 E1 H1 c s g => by
    cases c with
    | true => rw [if_pos rfl] at g ⊢; exact g.fin s.rel rfl
    | false => rw [if_neg Bool.false_ne_true] at g ⊢; exact ⟨F1, E1, s.rel, g⟩⟩⟩
theorem t_not (ha : DT X W a ga) : DT X W (.UnaryOp .Not a pos) (mNotB ga) :=
  ⟨pt_mono (pt_not ha.pt) fun σ H Q ⟨F, E, rel, h⟩ => ⟨F, E, rel, GoodB.tst h fun F1 E1 H1 c s g => g.fin s.rel rfl⟩⟩
/-- .. as values (bools) -/
def mAndV (f g : M R) : M R := M.bnd (mBl f) fun c => if c then g else M.ret (.fz (.bl false))
def mOrV (f g : M R) : M R := M.bnd (mBl f) fun c => if c then M.ret (.fz (.bl true)) else g
def mNotV (f : M R) : M R := M.bnd (mBl f) fun c => M.ret (.fz (.bl (!c)))
theorem d_one {op : BoolOp} (h : DE X W a fa) : DE X W (.BoolOp op [a] pos) fa := ⟨pe_one h.pe⟩
theorem d_and' (ha : DE X W a fa) (hb : DE X W (.BoolOp .And (b :: rest) pos) fb) : DE X W (.BoolOp .And (a :: b :: rest) pos) (mAndV fa fb) :=
  ⟨pe_mono (pe_and ha.pe hb.pe) fun σ H Q ⟨F, E, rel, h⟩ => ⟨F, E, rel, mBl_ok (Good.tst h fun F1 E1 H1 c s g => by
    cases c with
    | true => rw [if_pos rfl] at g ⊢; exact ⟨F1, E1, s.rel, g⟩
    | false => rw [if_neg Bool.false_ne_true] at g ⊢; exact g.here s.rel rfl (.bl false) trivial)⟩⟩
theorem d_or' (ha : DE X W a fa) (hb : DE X W (.BoolOp .Or (b :: rest) pos) fb) : DE X W (.BoolOp .Or (a :: b :: rest) pos) (mOrV fa fb) :=
  ⟨pe_mono (pe_or ha.pe hb.pe) fun σ H Q ⟨F, E, rel, h⟩ => ⟨F, E, rel, mBl_ok (Good.tst h fun F1 E1 H1 c s g => by
    cases c with
    | true => rw [if_pos rfl] at g ⊢; exact g.here s.rel rfl (.bl true) trivial
    | false => rw [if_neg Bool.false_ne_true] at g ⊢; exact ⟨F1, E1, s.rel, g⟩)⟩⟩
theorem d_not (ha : DE X W a fa) : DE X W (.UnaryOp .Not a pos) (mNotV fa) :=
  ⟨pe_mono (pe_not ha.pe) fun σ H Q ⟨F, E, rel, h⟩ => ⟨F, E, rel, mBl_ok (Good.tst h fun F1 E1 H1 c s g => g.here s.rel rfl (.bl _) trivial)⟩⟩
def mIf (f : M Bool) (g h : M R) : M R := M.bnd f fun c => if c then g else h
theorem d_if (hc : DT X W c ga) (ha : DE X W a fa) (hb : DE X W b fb) : DE X W (.IfExp c a b pos) (mIf ga fa fb) :=
  ⟨pe_mono (pe_ifExp hc.pt ha.pe hb.pe) fun σ H Q ⟨F, E, rel, h⟩ => ⟨F, E, rel, Good.tst h fun F1 E1 H1 c s g => by
    cases c with
    | true => rw [if_pos rfl] at g ⊢; exact ⟨F1, E1, s.rel, g⟩
    | false => rw [if_neg Bool.false_ne_true] at g ⊢; exact ⟨F1, E1, s.rel, g⟩⟩⟩
end
end DL
-- DH
namespace DL
open PySem PySem.Spec PyProof.Rows L2
section
variable {X : Cx} {W : WX} {F F1 F' : Hp} {E E1 E' : En} {σ σ1 σ' : L2.St} {H H1 H' : Hp}
variable {a b c e : Expr} {st : Stmt} {body rest orelse : List Stmt} {es : List Expr} {fa fb fc : M R} {pos : Pos}
def GoodS (X : Cx) (W : WX) (F : Hp) (E : En) (σ : L2.St) (H : Hp) (f : M Fl) (D : Ends) : Prop := match f E with
  | .ok .nx E' => ∀ F' σ' H', Stp X F E σ H F' E' σ' H' → D.nx σ' H'
  | .ok .bk E' => ∀ F' σ' H', Stp X F E σ H F' E' σ' H' → D.bk σ' H'
  | .ok .ct E' => ∀ F' σ' H', Stp X F E σ H F' E' σ' H' → D.ct σ' H'
  | .ok (.rt r) E' => ∀ F' σ' H' v, Stp X F E σ H F' E' σ' H' → Res X F' E' σ' H' v r → New E σ H v r → D.rt v H'
  | .ex x E' => ∀ F' σ' H' cls d, Stp X F E σ H F' E' σ' H' → XnOk X F' H' cls d x → W cls d σ' H'
  | .no => False
def rdS (X : Cx) (W : WX) (f : M Fl) : TS := fun D σ H => ∃ F E, Rel X F E σ H ∧ GoodS X W F E σ H f D
structure DS (X : Cx) (W : WX) (st : Stmt) (f : M Fl) : Prop where
  ps : PS X st (rdS X W f)
structure DB (X : Cx) (W : WX) (st : List Stmt) (f : M Fl) : Prop where
  pss : PSs X st (rdS X W f)
theorem GoodS.later {f g : M Fl} {D : Ends} {E0 : En} (s : Stp X F E σ H F1 E1 σ1 H1) (e : g E = f E1) (h : GoodS X W F E σ H g D) : GoodS X W F1 E1 σ1 H1 f D := by
  unfold GoodS at h ⊢
  rw [e] at h
  cases q : f E1 with
  | ok fl E2 =>
    rw [q] at h
    cases fl with
    | nx => exact fun F' σ' H' s2 => h F' σ' H' (s.trans s2)
    | bk => exact fun F' σ' H' s2 => h F' σ' H' (s.trans s2)
    | ct => exact fun F' σ' H' s2 => h F' σ' H' (s.trans s2)
    | rt r => exact fun F' σ' H' v s2 re nw => h F' σ' H' v (s.trans s2) re (nw.step s)
  | ex x E2 => rw [q] at h; exact fun F' σ' H' c d s2 xo => h F' σ' H' c d (s.trans s2) xo
  | no => rw [q] at h; exact h
theorem GoodS.val {f : M R} {k : R → M Fl} {D : Ends} {P : VK} (h : GoodS X W F E σ H (M.bnd f k) D)
    (m : ∀ F1 E1 H1 v r, Stp X F E σ H F1 E1 σ H1 → Res X F1 E1 σ H1 v r → New E σ H v r → GoodS X W F1 E1 σ H1 (k r) D → P v H1) : Good X W F E σ H f P := by
  unfold Good
  cases q : f E with
  | ok r E1 => exact fun F1 H1 v s re nw => m F1 E1 H1 v r s re nw (h.later (E0 := E) s (by unfold M.bnd; rw [q]))
  | ex x E1 => unfold GoodS at h; simp only [M.bnd, q] at h; exact fun F' H' c d s xo => h F' σ H' c d s xo
  | no => unfold GoodS at h; simp only [M.bnd, q] at h
theorem GoodS.tst {f : M Bool} {k : Bool → M Fl} {D : Ends} {P : Bool → Hp → Prop} (h : GoodS X W F E σ H (M.bnd f k) D)
    (m : ∀ F1 E1 H1 b, Stp X F E σ H F1 E1 σ H1 → GoodS X W F1 E1 σ H1 (k b) D → P b H1) : GoodB X W F E σ H f P := by
  unfold GoodB
  cases q : f E with
  | ok r E1 => exact fun F1 H1 s => m F1 E1 H1 r s (h.later (E0 := E) s (by unfold M.bnd; rw [q]))
  | ex x E1 => unfold GoodS at h; simp only [M.bnd, q] at h; exact fun F' H' c d s xo => h F' σ H' c d s xo
  | no => unfold GoodS at h; simp only [M.bnd, q] at h
def sSeq (f g : M Fl) : M Fl := fun E => match f E with
  | .ok .nx E' => g E'
  | .ok .bk E' => .ok .bk E'
  | .ok .ct E' => .ok .ct E'
  | .ok (.rt r) E' => .ok (.rt r) E'
  | .ex x E' => .ex x E'
  | .no => .no
def sNx : M Fl := M.ret .nx
theorem db_nil : DB X W [] sNx := ⟨pss_mono pss_nil fun D σ H ⟨F, E, rel, h⟩ => h F σ H (Stp.refl rel)⟩
theorem db_one {f : M Fl} (h : DS X W st f) : DB X W [st] f := ⟨pss_mono (pss_one h.ps) fun D σ H q => q⟩
theorem GoodS.seq {f g : M Fl} {D : Ends} (h : GoodS X W F E σ H (sSeq f g) D) : GoodS X W F E σ H f { D with nx := fun σ' H' => rdS X W g D σ' H' } := by
  have h0 := h
  unfold GoodS at h ⊢
  unfold sSeq at h
  cases q : f E with
  | ok fl E2 =>
    rw [q] at h
    cases fl with
    | nx => exact fun F' σ' H' s2 => ⟨F', E2, s2.rel, h0.later (E0 := E) s2 (by unfold sSeq; rw [q])⟩
    | bk => exact h
    | ct => exact h
    | rt r => exact h
  | ex x E2 => rw [q] at h; exact h
  | no => rw [q] at h; exact h
theorem db_cons {f g : M Fl} (h1 : DS X W st f) (h2 : DB X W rest g) : DB X W (st :: rest) (sSeq f g) :=
  ⟨pss_mono (pss_cons h1.ps h2.pss) fun D σ H ⟨F, E, rel, h⟩ => ⟨F, E, rel, h.seq⟩⟩
theorem s_pass : DS X W (.Pass pos) sNx := ⟨ps_mono ps_pass fun D σ H ⟨F, E, rel, h⟩ => h F σ H (Stp.refl rel)⟩
theorem s_break : DS X W (.Break pos) (M.ret .bk) := ⟨ps_mono ps_break fun D σ H ⟨F, E, rel, h⟩ => h F σ H (Stp.refl rel)⟩
theorem s_continue : DS X W (.Continue pos) (M.ret .ct) := ⟨ps_mono ps_continue fun D σ H ⟨F, E, rel, h⟩ => h F σ H (Stp.refl rel)⟩
def sDrop (f : M R) : M Fl := M.bnd f fun _ => M.ret .nx
theorem s_expr (he : DE X W e fa) (hs : swapsWith e none pos.line X.env = pure false := by rfl) : DS X W (.Expr e pos) (sDrop fa) :=
  ⟨ps_mono (ps_expr he.pe hs) fun D σ H ⟨F, E, rel, h⟩ => ⟨F, E, rel, h.val fun F1 E1 H1 v r s re nw g => g F1 σ H1 (Stp.refl s.rel)⟩⟩
def sRet (f : M R) : M Fl := M.bnd f fun r => M.ret (.rt r)
theorem s_ret (he : DE X W e fa) : DS X W (.Return (some e) pos) (sRet fa) :=
  ⟨ps_mono (ps_ret he.pe) fun D σ H ⟨F, E, rel, h⟩ => ⟨F, E, rel, by
    unfold GoodS sRet at h
    unfold Good
    cases q : fa E with
    | ok r E1 => simp only [M.bnd, q, M.ret] at h; exact fun F1 H1 v s re nw => h F1 σ H1 v s re nw
    | ex x E1 => simp only [M.bnd, q] at h; exact fun F' H' c d s xo => h F' σ H' c d s xo
    | no => simp only [M.bnd, q] at h⟩⟩
theorem s_retN : DS X W (.Return none pos) (M.ret (.rt (.fz .non))) := ⟨ps_mono ps_retN fun D σ H ⟨F, E, rel, h⟩ => h F σ H .non (Stp.refl rel) .non trivial⟩
def sIf (f : M Bool) (g h : M Fl) : M Fl := M.bnd f fun c => if c then g else h
theorem s_if {ga : M Bool} {g h : M Fl} (hc : DT X W c ga) (ha : DB X W body g) (hb : DB X W orelse h) : DS X W (.If c body orelse pos) (sIf ga g h) :=
  ⟨ps_mono (ps_if hc.pt ha.pss hb.pss) fun D σ H ⟨F, E, rel, q⟩ => ⟨F, E, rel, q.tst fun F1 E1 H1 c s g => by
    cases c with
    | true => rw [if_pos rfl] at g ⊢; exact ⟨F1, E1, s.rel, g⟩
    | false => rw [if_neg Bool.false_ne_true] at g ⊢; exact ⟨F1, E1, s.rel, g⟩⟩⟩

theorem own_set {i : Nat} {x : Sl} {v : V} {q : Addr} (w : Own (E.set i x) (σ.set i (some v)) q) : Own E σ q ∨ ∃ d, x = .ow d ∧ v = .ref q := by
  obtain ⟨j, d, h1, h2⟩ := w
  rw [getElem?_set_en] at h1
  by_cases e : j = i
  · subst e
    rw [if_pos rfl] at h1
    split at h1
    · cases h1
      right
      refine ⟨d, rfl, ?_⟩
      by_cases hl : j < σ.length
      · rw [List.getElem?_set_self hl] at h2; cases h2; rfl
      · rw [List.getElem?_eq_none (by simpa using hl)] at h2; cases h2
    · cases h1
  · rw [if_neg e] at h1
    rw [List.getElem?_set_ne (Ne.symm e)] at h2
    exact .inl ⟨j, d, h1, h2⟩
theorem Stp.setFr {i : Nat} {v : V} {d : D} (r : Rel X F E σ H) (hi : Is X.K X.mg F v d) (hl : i < E.length) : Stp X F E σ H F (E.set i (.fr d)) (σ.set i (some v)) H := by
  have hl' : i < σ.length := by rw [← r.len]; exact hl
  refine ⟨⟨r.le, by rw [List.length_set, List.length_set]; exact r.len, fun j d' h => ?_, fun j d' h => ?_, fun j k d1 d2 q ne a1 a2 b1 b2 => ?_⟩, Same.refl F, fun a x h _ => h, fun a h => .inl h, fun a w => ?_, fun d' h => ?_⟩
  · rw [getElem?_set_en] at h
    by_cases e : j = i
    · subst e
      rw [if_pos rfl, if_pos hl] at h
      cases h
      exact ⟨v, List.getElem?_set_self hl', hi⟩
    · rw [if_neg e] at h
      obtain ⟨u, h1, h2⟩ := r.fr j d' h
      exact ⟨u, by rw [List.getElem?_set_ne (Ne.symm e)]; exact h1, h2⟩
  · rw [getElem?_set_en] at h
    by_cases e : j = i
    · subst e
      rw [if_pos rfl, if_pos hl] at h
      cases h
    · rw [if_neg e] at h
      obtain ⟨u, h1, h2⟩ := r.ow j d' h
      exact ⟨u, by rw [List.getElem?_set_ne (Ne.symm e)]; exact h1, h2⟩
  · rw [getElem?_set_en] at a1 a2
    by_cases e1 : j = i
    · rw [if_pos e1, if_pos hl] at a1; cases a1
    · by_cases e2 : k = i
      · rw [if_pos e2, if_pos hl] at a2; cases a2
      · rw [if_neg e1] at a1
        rw [if_neg e2] at a2
        rw [List.getElem?_set_ne (Ne.symm e1)] at b1
        rw [List.getElem?_set_ne (Ne.symm e2)] at b2
        exact r.ne j k _ _ _ ne a1 a2 b1 b2
  · rcases own_set w with z | ⟨d', z, _⟩
    · exact .inr z
    · cases z
  · rw [getElem?_set_en] at h
    by_cases e : 0 = i
    · rw [if_pos e, if_pos hl] at h; cases h
    · rw [if_neg e] at h
      exact ⟨by rw [List.getElem?_set_ne (Ne.symm e)], d', h⟩
theorem Stp.setOw {F0 : Hp} {E0 : En} {σ0 : L2.St} {H0 : Hp} {i : Nat} {p : Addr} {d : D} (s : Stp X F0 E0 σ0 H0 F E σ H) (n : F p = none) (w : ¬ Own E σ p) (c : Cont X.K X.mg F H p d) (nw : H0 p = none ∨ Own E0 σ0 p) (hl : i < E.length) (i0 : i ≠ 0) :
    Stp X F0 E0 σ0 H0 F (E.set i (.ow d)) (σ.set i (some (.ref p))) H := by
  have r := s.rel
  have hl' : i < σ.length := by rw [← r.len]; exact hl
  refine ⟨⟨r.le, by rw [List.length_set, List.length_set]; exact r.len, fun j d' h => ?_, fun j d' h => ?_, fun j k d1 d2 q ne a1 a2 b1 b2 => ?_⟩, s.mono, s.kept, s.fnew, fun a u => ?_, fun d' h => ?_⟩
  · rw [getElem?_set_en] at h
    by_cases e : j = i
    · subst e
      rw [if_pos rfl, if_pos hl] at h
      cases h
    · rw [if_neg e] at h
      obtain ⟨u, h1, h2⟩ := r.fr j d' h
      exact ⟨u, by rw [List.getElem?_set_ne (Ne.symm e)]; exact h1, h2⟩
  · rw [getElem?_set_en] at h
    by_cases e : j = i
    · subst e
      rw [if_pos rfl, if_pos hl] at h
      cases h
      exact ⟨p, List.getElem?_set_self hl', n, c⟩
    · rw [if_neg e] at h
      obtain ⟨u, h1, h2⟩ := r.ow j d' h
      exact ⟨u, by rw [List.getElem?_set_ne (Ne.symm e)]; exact h1, h2⟩
  · rw [getElem?_set_en] at a1 a2
    by_cases e1 : j = i
    · by_cases e2 : k = i
      · exact ne (e1.trans e2.symm)
      · subst e1
        rw [if_neg e2] at a2
        rw [List.getElem?_set_self hl'] at b1
        cases b1
        rw [List.getElem?_set_ne (Ne.symm e2)] at b2
        exact w ⟨k, _, a2, b2⟩
    · by_cases e2 : k = i
      · subst e2
        rw [if_neg e1] at a1
        rw [List.getElem?_set_self hl'] at b2
        cases b2
        rw [List.getElem?_set_ne (Ne.symm e1)] at b1
        exact w ⟨j, _, a1, b1⟩
      · rw [if_neg e1] at a1
        rw [if_neg e2] at a2
        rw [List.getElem?_set_ne (Ne.symm e1)] at b1
        rw [List.getElem?_set_ne (Ne.symm e2)] at b2
        exact r.ne j k _ _ _ ne a1 a2 b1 b2
  · rcases own_set u with z | ⟨d', _, z⟩
    · exact s.onew a z
    · cases z; exact nw
  · rw [getElem?_set_en] at h
    rw [if_neg (fun e => i0 e.symm)] at h
    obtain ⟨e1, d0, h0⟩ := s.z0 d' h
    exact ⟨by rw [List.getElem?_set_ne i0]; exact e1, d0, h0⟩
/-- name = value -/
def stSl (i : Nat) (r : R) : M Fl := fun E => if i < E.length then (match r with
  | .fz d => .ok .nx (E.set i (.fr d))
  | .fs d => if i = 0 then .no else .ok .nx (E.set i (.ow d))
  | .sl j => M.bnd (take (.sl j)) (fun d => fun E' => .ok .nx (E'.set i (.fr d))) E) else .no
def sSet (i : Nat) (f : M R) : M Fl := M.bnd f (stSl i)
theorem take_len {r : R} {d : D} {E' : En} (e : take r E = .ok d E') : E'.length = E.length := by
  cases r with
  | fz d' => cases e; rfl
  | fs d' => cases e; rfl
  | sl i =>
    unfold take at e
    cases z : E[i]? with
    | none => simp [z] at e
    | some sl => cases sl <;> simp [z] at e <;> obtain ⟨_, rfl⟩ := e <;> simp
/-- the store's reading -/
theorem set_ok {i : Nat} {D : Ends} (h : GoodS X W F E σ H (sSet i fa) D) : Good X W F E σ H fa fun x H1 => D.nx (σ.set i (some x)) H1 := by
  unfold GoodS sSet at h
  unfold Good
  cases q : fa E with
  | ok r E1 =>
    simp only [M.bnd, q] at h
    intro F1 H1 v s re nw
    by_cases hl : i < E1.length
    · simp only [stSl, if_pos hl] at h
      cases r with
      | fz d => exact h F1 _ H1 (s.trans (Stp.setFr s.rel re hl))
      | fs d =>
        obtain ⟨p, rfl, n, w, c⟩ := re
        by_cases i0 : i = 0
        · simp only [if_pos i0] at h
        · simp only [if_neg i0] at h
          exact h F1 _ H1 (s.setOw n w c (nw p rfl) hl i0)
      | sl j =>
        cases qt : take (.sl j) E1 with
        | ok d E2 =>
          simp only [M.bnd, qt] at h
          obtain ⟨F2, s2, hI⟩ := take_ok s re trivial qt
          exact h F2 _ H1 (s2.trans (Stp.setFr s2.rel hI (by rw [take_len qt]; exact hl)))
        | ex x E2 => exact (take_no qt).elim
        | no => simp only [M.bnd, qt] at h
    · simp only [stSl, if_neg hl] at h
  | ex x E1 => simp only [M.bnd, q] at h; exact fun F' H' c d s xo => h F' σ H' c d s xo
  | no => simp only [M.bnd, q] at h
theorem s_set {i : Nat} {x : Str} {pos' : Pos} (he : DE X W e fa) (hN : X.N.Nodup) (hi : X.N[i]? = some x) (hx : Loc X.env.scope x) (hs : swapsWith e (some (.Name x pos')) pos.line X.env = pure false := by rfl) (hf : X.fn x = true ∨ X.env.scope.names.lookup x = some .local := by first | exact .inl rfl | exact .inr rfl | assumption) :
    DS X W (.Assign [.Name x pos'] e pos) (sSet i fa) := ⟨ps_mono (ps_set hN hi hx he.pe hs hf) fun D σ H ⟨F, E, rel, h⟩ => ⟨F, E, rel, set_ok h⟩⟩
end
end DL
-- DI
namespace DL
open PySem PySem.Spec PyProof.Rows L2
section
variable {X : Cx} {W : WX} {F F1 F' : Hp} {E E1 E' : En} {σ σ1 σ' : L2.St} {H H1 H' : Hp}
variable {a b c e tg iter : Expr} {st : Stmt} {body rest orelse : List Stmt} {es : List Expr} {fa fb fc : M R} {pos : Pos}
abbrev B := En → Option En
def GoodU (X : Cx) (F : Hp) (E : En) (σ : L2.St) (H : Hp) (f : B) (Q : L2.St → Hp → Prop) : Prop := match f E with
  | some E' => ∀ F' σ' H', Stp X F E σ H F' E' σ' H' → Q σ' H'
  | none => False
structure DG (X : Cx) (tg : Expr) (f : D → B) : Prop where
  pg : PG X tg fun v σ H Q => ∃ F E d, Rel X F E σ H ∧ Is X.K X.mg F v d ∧ GoodU X F E σ H (f d) Q
structure DGs (X : Cx) (ts : List Expr) (f : List D → B) : Prop where
  pgs : PGs X ts fun vs σ H Q => ∃ F E ds, Rel X F E σ H ∧ IsAll X.K X.mg F vs ds ∧ GoodU X F E σ H (f ds) Q
theorem pg_mono {t t' : TG} (h : PG X e t) (m : ∀ v σ H Q, t' v σ H Q → t v σ H Q) : PG X e t' := ⟨fun pins s σ H v u Q I r q => h.run pins s σ H v u Q I r (m v σ H Q q)⟩
theorem pgs_mono {t t' : TGs} (h : PGs X es t) (m : ∀ v σ H Q, t' v σ H Q → t v σ H Q) : PGs X es t' := ⟨fun pins s σ H v u Q I r q => h.run pins s σ H v u Q I r (m v σ H Q q)⟩
def bName (i : Nat) : D → B := fun d E => if i < E.length then some (E.set i (.fr d)) else none
theorem g_name {i : Nat} {x : Str} (hN : X.N.Nodup) (hi : X.N[i]? = some x) (hx : Loc X.env.scope x) (hf : X.fn x = true ∨ X.env.scope.names.lookup x = some .local := by first | exact .inl rfl | exact .inr rfl | assumption) : DG X (.Name x pos) (bName i) :=
  ⟨pg_mono (pg_name hN hi hx hf) fun v σ H Q ⟨F, E, d, rel, hI, g⟩ => by
    unfold GoodU bName at g
    by_cases hl : i < E.length
    · simp only [if_pos hl] at g; exact g F _ H (Stp.setFr rel hI hl)
    · simp only [if_neg hl] at g⟩
def bNil : List D → B := fun ds E => match ds with
  | [] => some E
  | _ => none
def bCons (f : D → B) (g : List D → B) : List D → B := fun ds E => match ds with
  | d :: r => (f d E).bind (g r)
  | [] => none
theorem gs_nil : DGs X [] bNil := ⟨pgs_mono pgs_nil fun vs σ H Q ⟨F, E, ds, rel, hA, g⟩ => by
  cases hA with
  | nil => exact ⟨rfl, g F σ H (Stp.refl rel)⟩
  | cons _ _ => exact g.elim⟩
theorem gs_cons {f : D → B} {g : List D → B} (h1 : DG X e f) (h2 : DGs X es g) (hs : (assignEach (e :: es) X.env).map (·.2) = assign e X.env :: (assignEach es X.env).map (·.2) := by rfl) : DGs X (e :: es) (bCons f g) :=
  ⟨pgs_mono (pgs_cons h1.pg h2.pgs hs) fun vs σ H Q ⟨F, E, ds, rel, hA, q⟩ => by
    cases hA with
    | nil => exact q.elim
    | @cons v vs d ds hI hA =>
      refine ⟨v, vs, rfl, F, E, d, rel, hI, ?_⟩
      unfold GoodU bCons at q
      unfold GoodU
      cases z : f d E with
      | some E1 =>
        simp only [z, Option.bind_some] at q
        intro F1 σ1 H1 s
        refine ⟨F1, E1, ds, s.rel, hA.mono s.mono, ?_⟩
        show GoodU X F1 E1 σ1 H1 (g ds) Q
        unfold GoodU
        cases z2 : g ds E1 with
        | some E2 => simp only [z2] at q; exact fun F2 σ2 H2 s2 => q F2 σ2 H2 (s.trans s2)
        | none => simp only [z2] at q
      | none => simp only [z, Option.bind_none] at q⟩
def bTup (n : Nat) (f : List D → B) : D → B := fun d => match d with
  | .tup ds => if ds.length = n then f ds else fun _ => none
  | _ => fun _ => none
theorem g_tup {k : Nat} {n : Nat} {f : List D → B} (hc : X.calm = true) (h : DGs X es f) (hn : (assignEach es X.env).length = n := by rfl) (hst : (assignEach es X.env).findIdx? (·.1) = none := by rfl) : DG X (.Tuple es k pos) (bTup n f) :=
  ⟨pg_mono (pg_tup hc h.pgs hn hst) fun v σ H Q ⟨F, E, d, rel, hI, g⟩ => by
    cases hI with
    | @tup a vs ds q r =>
      unfold bTup at g
      by_cases hl : ds.length = n
      · simp only [if_pos hl] at g
        exact ⟨a, vs, rfl, tupS rel.le q, by rw [r.length]; exact hl, F, E, ds, rel, r, g⟩
      · simp only [if_neg hl] at g; exact g.elim
    | _ => exact g.elim⟩
/-- target = value, any target -/
def lf (b : B) : M Fl := fun E => match b E with
  | some E' => .ok .nx E'
  | none => .no
def sAsg (f : M R) (g : D → B) : M Fl := M.bnd f fun r => M.bnd (take r) fun d => lf (g d)
theorem s_asg {g : D → B} (he : DE X W e fa) (hg : DG X tg g) (hs : swapsWithSole [tg] e pos.line X.env = pure false := by rfl) (hw : swappedStores [tg] e X.env = pure none := by rfl)
    (h1 : (assignEach [tg] X.env).map (·.2) = [assign tg X.env] := by rfl) : DS X W (.Assign [tg] e pos) (sAsg fa g) :=
  ⟨ps_mono (ps_asg he.pe hg.pg hs hw h1) fun D σ H ⟨F, E, rel, h⟩ => ⟨F, E, rel, by
    unfold GoodS sAsg at h
    unfold Good
    cases q : fa E with
    | ok r E1 =>
      simp only [M.bnd, q] at h
      intro F1 H1 v s re nw
      cases qt : take r E1 with
      | ok d E2 =>
        simp only [qt, lf] at h
        obtain ⟨F2, s2, hI⟩ := take_ok s re nw qt
        refine ⟨F2, E2, d, s2.rel, hI, ?_⟩
        unfold GoodU
        cases z : g d E2 with
        | some E3 => simp only [z] at h; exact fun F3 σ3 H3 s3 => h F3 σ3 H3 (s2.trans s3)
        | none => simp only [z] at h
      | ex x E2 => exact (take_no qt).elim
      | no => simp only [qt] at h
    | ex x E1 => simp only [M.bnd, q] at h; exact fun F' H' c d s xo => h F' σ H' c d s xo
    | no => simp only [M.bnd, q] at h⟩⟩

/-- J yields the data ds, one after another, while F stands -/
structure Wk (X : Cx) (F : Hp) (J : It) (ds : List D) : Prop where
  stop : ∀ i H, Same F H → ds.length ≤ i → J.stop i H
  go : ∀ i H, Same F H → i < ds.length → J.go i H
  yld : ∀ i H x H', Same F H → i < ds.length → J.yld i H x H' → ∃ d, ds[i]? = some d ∧ ((H' = H ∧ Is X.K X.mg F x d) ∨ (∃ p o, x = .ref p ∧ H p = none ∧ H' = upd H p o ∧ Is X.K X.mg (upd F p o) x d))
theorem Wk.mono {J : It} {ds : List D} (w : Wk X F J ds) (s : Same F F') : Wk X F' J ds := by
  refine ⟨fun i H h => w.stop i H (s.trans h), fun i H h => w.go i H (s.trans h), fun i H x H' h l y => ?_⟩
  obtain ⟨d, h1, h2⟩ := w.yld i H x H' (s.trans h) l y
  refine ⟨d, h1, ?_⟩
  rcases h2 with ⟨e, i⟩ | ⟨p, o, e1, e2, e3, i⟩
  · exact .inl ⟨e, i.mono s⟩
  · refine .inr ⟨p, o, e1, e2, e3, i.mono fun b z q => ?_⟩
    by_cases e : b = p
    · subst e; rw [upd_same] at q ⊢; exact q
    · rw [upd_ne e] at q ⊢; exact s b z q
def GoodI (X : Cx) (W : WX) (F : Hp) (E : En) (σ : L2.St) (H : Hp) (f : M (List D)) (R : It → Hp → Prop) : Prop := match f E with
  | .ok ds E' => ∀ F' H' J, Stp X F E σ H F' E' σ H' → Wk X F' J ds → R J H'
  | .ex x E' => ∀ F' H' cls d, Stp X F E σ H F' E' σ H' → XnOk X F' H' cls d x → W cls d σ H'
  | .no => False
structure DI (X : Cx) (W : WX) (tg iter : Expr) (f : M (List D)) : Prop where
  pi : PI X tg iter fun σ H R => ∃ F E, Rel X F E σ H ∧ GoodI X W F E σ H f R
theorem pi_mono {t t' : TI} (h : PI X tg iter t) (m : ∀ σ H Q, t' σ H Q → t σ H Q) : PI X tg iter t' := ⟨fun pins s σ H R I q => h.run pins s σ H R I (m σ H R q)⟩
/-- over a list or a tuple -/
theorem pi_seq {l : Expr} {tl : TE} (hl : PE X l tl) : PI X tg l fun σ H R => tl σ H fun x H1 => ∃ a, x = .ref a ∧ (((∃ xs, SqL X.K H1 a xs) ∧ R (Itl X.K a) H1) ∨ ((∃ xs, SqT X.K H1 a xs) ∧ R (Itt X.K a) H1)) := by
  refine ⟨fun pins s σ H R I h => ?_⟩
  refine thn (hl.run pins s σ H _ I h) fun v s1 ⟨x, H1, I1, r1, q1⟩ => ?_
  obtain ⟨a, e, q⟩ := q1
  subst e
  cases r1
  rcases q with ⟨⟨xs, hq⟩, q⟩ | ⟨⟨xs, hq⟩, q⟩
  · obtain ⟨its, rv, p, hz⟩ := I1.list hq
    refine wpAny_pyIter_list p.isList ?_
    refine ⟨s1.heap.objs.size, [s1.heap.objs.size], _, _, H1, rfl, I1.kept (t' := s1.toks) fun b o e => Heap.get?_push_of_some _ e, turn_list a _, ⟨_, Heap.get?_push_size _ rfl, rfl, rfl⟩, fun b hb => ?_, q⟩
    have e : b = s1.heap.objs.size := by simpa using hb
    subst e
    exact I1.fpOk (Nat.le_refl _) (I1.hok.fresh (Nat.le_refl _))
  · obtain ⟨its, rv, p, hz⟩ := I1.tuple hq
    refine wpAny_pyIter_tuple (show s1.heap.IsTuple a its.toArray from p) ?_
    refine ⟨s1.heap.objs.size, [s1.heap.objs.size], _, _, H1, rfl, I1.kept (t' := s1.toks) fun b o e => Heap.get?_push_of_some _ e, turn_tuple a _, ⟨_, Heap.get?_push_size _ rfl, rfl, rfl⟩, fun b hb => ?_, q⟩
    have e : b = s1.heap.objs.size := by simpa using hb
    subst e
    exact I1.fpOk (Nat.le_refl _) (I1.hok.fresh (Nat.le_refl _))
theorem wk_list {a : Addr} {vs : List V} {ds : List D} (h : F a = some (.lst vs)) (r : IsAll X.K X.mg F vs ds) : Wk X F (Itl X.K a) ds where
  stop := fun i H s hi => ⟨vs, .inl (.inl (s _ _ h)), by rw [r.length]; exact hi⟩
  go := fun i H s hi => by
    obtain ⟨v, h1, _⟩ := r.get (List.getElem?_eq_getElem hi)
    exact ⟨vs, v, .inl (.inl (s _ _ h)), h1⟩
  yld := fun i H x H' s hl y => by
    obtain ⟨e, y⟩ := y
    obtain ⟨d, h1, h2⟩ := r.getV (y vs (.inl (.inl (s _ _ h))))
    exact ⟨d, h1, .inl ⟨e, h2⟩⟩
theorem wk_tup {a : Addr} {vs : List V} {ds : List D} (h : F a = some (.tup vs)) (r : IsAll X.K X.mg F vs ds) : Wk X F (Itt X.K a) ds where
  stop := fun i H s hi => ⟨vs, tupS s h, by rw [r.length]; exact hi⟩
  go := fun i H s hi => by
    obtain ⟨v, h1, _⟩ := r.get (List.getElem?_eq_getElem hi)
    exact ⟨vs, v, tupS s h, h1⟩
  yld := fun i H x H' s hl y => by
    obtain ⟨e, y⟩ := y
    obtain ⟨d, h1, h2⟩ := r.getV (y vs (tupS s h))
    exact ⟨d, h1, .inl ⟨e, h2⟩⟩
theorem wk_tpf {a : Addr} {o : Obj} {vs : List V} {ds : List D} (h : F a = some (.frz o (.tup vs))) (r : IsAll X.K X.mg F vs ds) : Wk X F (Itt X.K a) ds where
  stop := fun i H s hi => ⟨vs, tpfS s h, by rw [r.length]; exact hi⟩
  go := fun i H s hi => by
    obtain ⟨v, h1, _⟩ := r.get (List.getElem?_eq_getElem hi)
    exact ⟨vs, v, tpfS s h, h1⟩
  yld := fun i H x H' s hl y => by
    obtain ⟨e, y⟩ := y
    obtain ⟨d, h1, h2⟩ := r.getV (y vs (tpfS s h))
    exact ⟨d, h1, .inl ⟨e, h2⟩⟩
def rngD (lo : Int) (n : Nat) : List D := (List.range n).map fun k : Nat => D.int (lo + (k : Int))
theorem rngD_length (lo : Int) (n : Nat) : (rngD lo n).length = n := by unfold rngD; simp
theorem wk_rng {lo : Int} {n : Nat} : Wk X F (Itr lo n) (rngD lo n) where
  stop := fun i H s hi => by rw [rngD_length] at hi; exact hi
  go := fun i H s hi => by rw [rngD_length] at hi; exact hi
  yld := fun i H x H' s hi y => by
    obtain ⟨e, rfl⟩ := y
    rw [rngD_length] at hi
    exact ⟨.int (lo + i), by unfold rngD; simp [hi], .inl ⟨e, .int _⟩⟩
def seqD : D → M (List D) := fun d E => match d with
  | .lst ds => .ok ds E
  | .tup ds => .ok ds E
  | .tpf ds => .ok ds E
  | _ => .no
def mIter (f : M R) : M (List D) := M.bnd f fun r => M.bnd (take r) seqD
theorem i_seq (h : DE X W e fa) : DI X W tg e (mIter fa) :=
  ⟨pi_mono (pi_seq h.pe) fun σ H R ⟨F, E, rel, g⟩ => ⟨F, E, rel, by
    unfold GoodI mIter at g
    unfold Good
    cases q : fa E with
    | ok r E1 =>
      simp only [M.bnd, q] at g
      intro F1 H1 v s re nw
      cases qt : take r E1 with
      | ok d E2 =>
        simp only [qt] at g
        obtain ⟨F2, s2, hI⟩ := take_ok s re nw qt
        cases hI with
        | @lst a vs ds h r => exact ⟨a, rfl, .inl ⟨⟨vs, .inl (.inl (s2.rel.le _ _ h))⟩, g F2 H1 _ s2 (wk_list h r)⟩⟩
        | @tup a vs ds h r => exact ⟨a, rfl, .inr ⟨⟨vs, tupS s2.rel.le h⟩, g F2 H1 _ s2 (wk_tup h r)⟩⟩
        | @tpf a o vs ds h n r => exact ⟨a, rfl, .inr ⟨⟨vs, tpfS s2.rel.le h⟩, g F2 H1 _ s2 (wk_tpf h r)⟩⟩
        | _ => exact g.elim
      | ex x E2 => exact (take_no qt).elim
      | no => simp only [qt] at g
    | ex x E1 => simp only [M.bnd, q] at g; exact g
    | no => simp only [M.bnd, q] at g⟩⟩
/-- over a range -/
def mRng1 (f : M (List D)) : M (List D) := M.bnd f fun ds => fun E => match ds with
  | [.int j] => if -(2 ^ 62) ≤ j ∧ j < 2 ^ 62 then .ok (rngD 0 j.toNat) E else .no
  | _ => .no
def mRng2 (f : M (List D)) : M (List D) := M.bnd f fun ds => fun E => match ds with
  | [.int i, .int j] => if -(2 ^ 62) ≤ i ∧ i < 2 ^ 62 ∧ -(2 ^ 62) ≤ j ∧ j < 2 ^ 62 then .ok (rngD i (j - i).toNat) E else .no
  | _ => .no
theorem GoodI.args {f : M (List D)} {k : List D → M (List D)} {R : It → Hp → Prop} {P : List V → Hp → Prop} (h : GoodI X W F E σ H (M.bnd f k) R)
    (m : ∀ F1 E1 H1 vs ds, Stp X F E σ H F1 E1 σ H1 → IsAll X.K X.mg F1 vs ds → GoodI X W F1 E1 σ H1 (k ds) R → P vs H1) : GoodA X W F E σ H f P := by
  unfold GoodA
  unfold GoodI at h
  cases q : f E with
  | ok ds E1 =>
    simp only [M.bnd, q] at h
    intro F1 H1 vs s hA
    refine m F1 E1 H1 vs ds s hA ?_
    unfold GoodI
    cases q2 : k ds E1 with
    | ok es E2 => simp only [q2] at h; exact fun F' H' J s2 w => h F' H' J (s.trans s2) w
    | ex x E2 => simp only [q2] at h; exact fun F' H' c d s2 xo => h F' H' c d (s.trans s2) xo
    | no => simp only [q2] at h
  | ex x E1 => simp only [M.bnd, q] at h; exact h
  | no => simp only [M.bnd, q] at h
theorem i_rng1 {f : M (List D)} {p : Pos} (hg : Gl X "range") (hm : X.mg "range" = none) (ha : DA X W [a] f) (hs : starEach [a] X.env = [(false, eval a X.env)] := by rfl) : DI X W tg (.Call (.Name "range" p) [a] [] pos) (mRng1 f) :=
  ⟨pi_mono (pi_range1 hg hm ha.pa hs) fun σ H R ⟨F, E, rel, g⟩ => ⟨F, E, rel, g.args fun F1 E1 H1 vs ds s hA g1 => by
    unfold GoodI at g1
    cases hA with
    | nil => exact g1.elim
    | cons h t =>
      cases h with
      | int j =>
        cases t with
        | nil =>
          by_cases hz : -(2 ^ 62) ≤ j ∧ j < 2 ^ 62
          · simp only [if_pos hz] at g1
            exact ⟨j, rfl, hz.1, hz.2, g1 F1 H1 _ (Stp.refl s.rel) wk_rng⟩
          · simp only [if_neg hz] at g1
        | cons _ _ => exact g1.elim
      | _ => exact g1.elim⟩⟩
theorem i_rng2 {f : M (List D)} {p : Pos} (hg : Gl X "range") (hm : X.mg "range" = none) (ha : DA X W [a, b] f) (hs : starEach [a, b] X.env = [(false, eval a X.env), (false, eval b X.env)] := by rfl) (hs2 : starEach [b] X.env = [(false, eval b X.env)] := by rfl) :
    DI X W tg (.Call (.Name "range" p) [a, b] [] pos) (mRng2 f) :=
  ⟨pi_mono (pi_range2 hg hm ha.pa hs hs2) fun σ H R ⟨F, E, rel, g⟩ => ⟨F, E, rel, g.args fun F1 E1 H1 vs ds s hA g1 => by
    unfold GoodI at g1
    cases hA with
    | nil => exact g1.elim
    | cons h t =>
      cases h with
      | int i =>
        cases t with
        | nil => exact g1.elim
        | cons h2 t2 =>
          cases h2 with
          | int j =>
            cases t2 with
            | nil =>
              by_cases hz : -(2 ^ 62) ≤ i ∧ i < 2 ^ 62 ∧ -(2 ^ 62) ≤ j ∧ j < 2 ^ 62
              · simp only [if_pos hz] at g1
                exact ⟨i, j, rfl, hz, g1 F1 H1 _ (Stp.refl s.rel) wk_rng⟩
              · simp only [if_neg hz] at g1
            | cons _ _ => exact g1.elim
          | _ => exact g1.elim
      | _ => exact g1.elim⟩⟩

def loop (g : D → B) (body : M Fl) : List D → M Fl
  | [] => M.ret .nx
  | d :: ds => fun E => match g d E with
    | none => .no
    | some E1 => match body E1 with
      | .ok .nx E2 => loop g body ds E2
      | .ok .ct E2 => loop g body ds E2
      | .ok .bk E2 => .ok .nx E2
      | .ok (.rt r) E2 => .ok (.rt r) E2
      | .ex x E2 => .ex x E2
      | .no => .no
def sFor (f : M (List D)) (g : D → B) (body : M Fl) : M Fl := M.bnd f fun ds => loop g body ds
theorem s_for {f : M (List D)} {g : D → B} {fb : M Fl} (hp : PassesOwn (model X.prog X.w) X.A X.env X.xe) (hc : X.calm = true) (hi : DI X W tg iter f) (hg : DG X tg g) (hb : DB X W body fb)
    (hs : ∀ x, foldedSetIterable iter X.env x = pure x := by intro _; rfl) : DS X W (.For tg iter body [] pos) (sFor f g fb) :=
  ⟨ps_mono (ps_for hp hc hi.pi hg.pg hb.pss hs) fun D σ H ⟨F, E, rel, h⟩ => ⟨F, E, rel, by
    have h0 := h
    unfold GoodS sFor at h
    unfold GoodI
    cases q : f E with
    | ok ds E1 =>
      intro F1 H1 J s w
      have g1 : GoodS X W F1 E1 σ H1 (loop g fb ds) D := h0.later (E0 := E) s (by unfold sFor M.bnd; rw [q])
      refine ⟨fun i m σ' H' => m = ds.length - i ∧ i ≤ ds.length ∧ ∃ F' E', Same F1 F' ∧ Rel X F' E' σ' H' ∧ GoodS X W F' E' σ' H' (loop g fb (ds.drop i)) D, ⟨ds.length, by simp, Nat.zero_le _, F1, E1, Same.refl _, s.rel, g1⟩, fun i m σ' H' hW => ?_⟩
      obtain ⟨rfl, hle, F', E', sF, rel', g2⟩ := hW
      have sH : Same F1 H' := sF.trans rel'.le
      by_cases hlt : i < ds.length
      · refine .inr ⟨w.go i H' sH hlt, fun σ2 H2 => ∃ F2 E2, Same F1 F2 ∧ Rel X F2 E2 σ2 H2 ∧ GoodS X W F2 E2 σ2 H2 (loop g fb (ds.drop (i + 1))) D, fun σ2 H2 hN => ⟨ds.length - (i + 1), by omega, rfl, hlt, hN⟩, fun x H2 hy => ?_⟩
        rw [List.drop_eq_getElem_cons hlt] at g2
        obtain ⟨d, hd, hd2⟩ := w.yld i H' x H2 sH hlt hy
        rw [List.getElem?_eq_getElem hlt] at hd
        cases hd
        -- the item, frozen
        obtain ⟨F2, s2, hI⟩ : ∃ F2, Stp X F' E' σ' H' F2 E' σ' H2 ∧ Is X.K X.mg F2 x ds[i] := by
          rcases hd2 with ⟨rfl, hI⟩ | ⟨p, o, rfl, hp, rfl, hI⟩
          · exact ⟨F', Stp.refl rel', hI.mono sF⟩
          · refine ⟨upd F' p o, Stp.allocF rel' hp, hI.mono fun b z q => ?_⟩
            by_cases e : b = p
            · subst e; rw [upd_same] at q ⊢; exact q
            · rw [upd_ne e] at q ⊢; exact sF b z q
        refine ⟨F2, E', ds[i], s2.rel, hI, ?_⟩
        unfold GoodU
        unfold GoodS loop at g2
        cases z : g ds[i] E' with
        | none => simp only [z] at g2
        | some E3 =>
          simp only [z] at g2
          intro F3 σ3 H3 s3
          refine ⟨F3, E3, s3.rel, ?_⟩
          have s23 := s2.trans s3
          unfold GoodS
          cases y : fb E3 with
          | ok fl E4 =>
            simp only [y] at g2
            have more : ∀ F4 σ4 H4, Stp X F3 E3 σ3 H3 F4 E4 σ4 H4 → (∀ (hg2 : GoodS X W F' E' σ' H' (fun _ => loop g fb (ds.drop (i + 1)) E4) D), ∃ F2 E2, Same F1 F2 ∧ Rel X F2 E2 σ4 H4 ∧ GoodS X W F2 E2 σ4 H4 (loop g fb (ds.drop (i + 1))) D) :=
              fun F4 σ4 H4 s4 hg2 => ⟨F4, E4, (sF.trans s23.mono).trans s4.mono, s4.rel, hg2.later (E0 := E') (s23.trans s4) rfl⟩
            cases fl with
            | nx => exact fun F4 σ4 H4 s4 => more F4 σ4 H4 s4 g2
            | ct => exact fun F4 σ4 H4 s4 => more F4 σ4 H4 s4 g2
            | bk => exact fun F4 σ4 H4 s4 => g2 F4 σ4 H4 (s23.trans s4)
            | rt r => exact fun F4 σ4 H4 v s4 re nw => g2 F4 σ4 H4 v (s23.trans s4) re (nw.step s23)
          | ex x E4 => simp only [y] at g2; exact fun F4 σ4 H4 c d s4 xo => g2 F4 σ4 H4 c d (s23.trans s4) xo
          | no => simp only [y] at g2
      · refine .inl ⟨w.stop i H' sH (by omega), ?_⟩
        rw [List.drop_of_length_le (by omega)] at g2
        exact g2 F' σ' H' (Stp.refl rel')
    | ex x E1 => simp only [M.bnd, q] at h; exact fun F' H' c d s xo => h F' σ H' c d s xo
    | no => simp only [M.bnd, q] at h⟩⟩

def wloop (t : M Bool) (body : M Fl) : Nat → M Fl
  | 0 => fun _ => .no
  | n + 1 => fun E => match t E with
    | .ok false E1 => .ok .nx E1
    | .ok true E1 => (match body E1 with
      | .ok .nx E2 => wloop t body n E2
      | .ok .ct E2 => wloop t body n E2
      | .ok .bk E2 => .ok .nx E2
      | .ok (.rt r) E2 => .ok (.rt r) E2
      | .ex x E2 => .ex x E2
      | .no => .no)
    | .ex x E1 => .ex x E1
    | .no => .no
theorem s_while (n : Nat) {t : M Bool} {fb : M Fl} (hp : PassesOwn (model X.prog X.w) X.A X.env X.xe) (hc : DT X W c t) (hb : DB X W body fb) : DS X W (.While c body [] pos) (wloop t fb n) :=
  ⟨ps_mono (ps_while hp hc.pt hb.pss) fun D σ H ⟨F, E, rel, h⟩ => by
    refine ⟨fun m σ' H' => ∃ F' E', Rel X F' E' σ' H' ∧ GoodS X W F' E' σ' H' (wloop t fb m) D, ⟨n, F, E, rel, h⟩, fun m σ' H' hW => ?_⟩
    obtain ⟨F', E', rel', g⟩ := hW
    cases m with
    | zero => exact g.elim
    | succ m =>
      refine ⟨F', E', rel', ?_⟩
      have g0 := g
      unfold GoodS wloop at g
      unfold GoodB
      cases q : t E' with
      | ok b E1 =>
        intro F1 H1 s
        cases b with
        | false => rw [if_neg Bool.false_ne_true]; simp only [q] at g; exact g F1 σ' H1 s
        | true =>
          rw [if_pos rfl]
          simp only [q] at g
          refine ⟨fun σ2 H2 => ∃ F2 E2, Rel X F2 E2 σ2 H2 ∧ GoodS X W F2 E2 σ2 H2 (wloop t fb m) D, fun σ2 H2 hN => ⟨m, Nat.lt_succ_self m, hN⟩, F1, E1, s.rel, ?_⟩
          unfold GoodS
          cases y : fb E1 with
          | ok fl E4 =>
            simp only [y] at g
            have more : ∀ F4 σ4 H4, Stp X F1 E1 σ' H1 F4 E4 σ4 H4 → (∀ (hg2 : GoodS X W F' E' σ' H' (fun _ => wloop t fb m E4) D), ∃ F2 E2, Rel X F2 E2 σ4 H4 ∧ GoodS X W F2 E2 σ4 H4 (wloop t fb m) D) :=
              fun F4 σ4 H4 s4 hg2 => ⟨F4, E4, s4.rel, hg2.later (E0 := E') (s.trans s4) rfl⟩
            cases fl with
            | nx => exact fun F4 σ4 H4 s4 => more F4 σ4 H4 s4 g
            | ct => exact fun F4 σ4 H4 s4 => more F4 σ4 H4 s4 g
            | bk => exact fun F4 σ4 H4 s4 => g F4 σ4 H4 (s.trans s4)
            | rt r => exact fun F4 σ4 H4 v s4 re nw => g F4 σ4 H4 v (s.trans s4) re (nw.step s)
          | ex x E4 => simp only [y] at g; exact fun F4 σ4 H4 c d s4 xo => g F4 σ4 H4 c d (s.trans s4) xo
          | no => simp only [y] at g
      | ex x E1 => simp only [q] at g; exact fun F4 H4 c d s4 xo => g F4 σ' H4 c d s4 xo
      | no => simp only [q] at g⟩
end
end DL
-- DJ
namespace DL
open PySem PySem.Spec PyProof.Rows L2
section
variable {X : Cx} {W : WX} {F F1 F' : Hp} {E E1 E' : En} {σ σ1 σ' : L2.St} {H H1 H' : Hp}
variable {a b c e o tg iter : Expr} {st : Stmt} {body rest orelse : List Stmt} {es : List Expr} {fa fb fc : M R} {pos : Pos}
theorem own_set_same {i : Nat} {d d' : D} {q : Addr} (h : E[i]? = some (.ow d)) (w : Own (E.set i (.ow d')) σ q) : Own E σ q := by
  obtain ⟨j, d2, h1, h2⟩ := w
  rw [getElem?_set_en] at h1
  by_cases e : j = i
  · subst e; exact ⟨j, d, h, h2⟩
  · rw [if_neg e] at h1; exact ⟨j, d2, h1, h2⟩
/-- an owned object has changed -/
theorem Stp.mut {i : Nat} {p : Addr} {d d' : D} {ob : HO} (r : Rel X F E σ H) (hi : E[i]? = some (.ow d)) (hs : σ[i]? = some (some (.ref p))) (c : Cont X.K X.mg F (upd H p ob) p d') : Stp X F E σ H F (E.set i (.ow d')) σ (upd H p ob) := by
  have hl : i < E.length := (List.getElem?_eq_some_iff.mp hi).1
  have hw : Own E σ p := ⟨i, d, hi, hs⟩
  have hF := r.ownF hw
  refine ⟨⟨fun b x h => by rw [upd_ne (ne_of_none h hF)]; exact r.le b x h, by rw [List.length_set]; exact r.len, fun j d2 h => ?_, fun j d2 h => ?_, fun j k d1 d2 q ne a1 a2 b1 b2 => ?_⟩, Same.refl F, fun b x h n => ?_, fun b h => .inl h, fun b w => .inr (own_set_same hi w), fun d2 h => ⟨rfl, ?_⟩⟩
  · rw [getElem?_set_en] at h
    by_cases e : j = i
    · rw [if_pos e, if_pos hl] at h; cases h
    · rw [if_neg e] at h; exact r.fr j d2 h
  · rw [getElem?_set_en] at h
    by_cases e : j = i
    · subst e
      rw [if_pos rfl, if_pos hl] at h
      cases h
      exact ⟨p, hs, hF, c⟩
    · rw [if_neg e] at h
      obtain ⟨q, h1, h2, h3⟩ := r.ow j d2 h
      have ne : q ≠ p := fun z => by subst z; exact r.ne j i _ _ _ e h hi h1 hs
      exact ⟨q, h1, h2, h3.mono (Same.refl F) (upd_ne ne)⟩
  · rw [getElem?_set_en] at a1 a2
    by_cases e1 : j = i
    · by_cases e2 : k = i
      · exact ne (e1.trans e2.symm)
      · subst e1
        rw [if_neg e2] at a2
        exact r.ne j k _ _ _ ne hi a2 b1 b2
    · by_cases e2 : k = i
      · subst e2
        rw [if_neg e1] at a1
        exact r.ne j k _ _ _ ne a1 hi b1 b2
      · rw [if_neg e1] at a1
        rw [if_neg e2] at a2
        exact r.ne j k _ _ _ ne a1 a2 b1 b2
  · exact (by rw [upd_ne (fun z => n (by rw [z]; exact hw))]; exact h)
  · rw [getElem?_set_en] at h
    by_cases e : 0 = i
    · subst e; exact ⟨d, hi⟩
    · rw [if_neg e] at h; exact ⟨d2, h⟩

def isL (T : String) : D → Bool
  | .lst _ => T == "list"
  | .dk _ => T == "dict"
  | .dt _ => T == "dict"
  | _ => false
/-- g: from the content and the arguments to the new content and the answer -/
def mMut (T : String) (i : Nat) (f : M (List D)) (g : D → List D → Option (D × D)) : M R := fun E => match E[i]? with
  | some (.ow c) => if isL T c = true then M.bnd f (fun ds => fun E1 => match E1[i]? with
    | some (.ow c1) => (match g c1 ds with
      | some (c2, v) => .ok (.fz v) (E1.set i (.ow c2))
      | none => .no)
    | _ => .no) E else .no
  | _ => .no
def MutOk (X : Cx) (r : V → List V → Hp → VK → Prop) (g : D → List D → Option (D × D)) : Prop := ∀ (p : Addr) (vs : List V) (F H : Hp) (Q : VK) (c c' v : D) (ds : List D), Same F H → F p = none → Cont X.K X.mg F H p c → IsAll X.K X.mg F vs ds → g c ds = some (c', v) →
  (∀ x ob, Is X.K X.mg F x v → Cont X.K X.mg F (upd H p ob) p c' → Q x (upd H p ob)) → r (.ref p) vs H Q
theorem isL_ty {T : String} {p : Addr} {c : D} (h : Cont X.K X.mg F H p c) (t : isL T c = true) : tyV X.K T (.ref p) H := by
  cases c with
  | lst ds => obtain ⟨vs, q, _⟩ := h; exact .inl ⟨by simpa [isL] using t, vs, .inl (.inl q)⟩
  | dk ds => obtain ⟨vs, q, _⟩ := h; exact .inr (.inr (.inl ⟨by simpa [isL] using t, .inl ⟨vs, q⟩⟩))
  | dt ds => obtain ⟨vs, q, _⟩ := h; exact .inr (.inr (.inl ⟨by simpa [isL] using t, .inr ⟨vs, q⟩⟩))
  | _ => cases t
variable {name : Str} {apos cpos p' : Pos} {T id : String} {r : V → List V → Hp → VK → Prop} {g : D → List D → Option (D × D)} {f : M (List D)} {i : Nat} {x : Str}
theorem mut_ok (ok : MutOk X r g) {Q : VK} (rel : Rel X F E σ H) (h : Good X W F E σ H (mMut T i f g) Q) : ∃ p, σ[i]? = some (some (.ref p)) ∧ tyV X.K T (.ref p) H ∧ GoodA X W F E σ H f fun vs H1 => r (.ref p) vs H1 Q := by
  have h0 := h
  unfold Good mMut at h
  cases z : E[i]? with
  | none => simp only [z] at h
  | some sl =>
    cases sl with
    | un => simp only [z] at h
    | fr d => simp only [z] at h
    | ow c =>
      simp only [z] at h
      obtain ⟨p, h1, h2, h3⟩ := rel.ow i c z
      by_cases ht : isL T c = true
      · simp only [if_pos ht] at h
        refine ⟨p, h1, isL_ty h3 ht, ?_⟩
        unfold GoodA
        cases q : f E with
        | ok ds E1 =>
          intro F1 H1 vs s hA
          simp only [M.bnd, q] at h
          cases z1 : E1[i]? with
          | none => simp only [z1] at h
          | some sl1 =>
            cases sl1 with
            | un => simp only [z1] at h
            | fr d => simp only [z1] at h
            | ow c1 =>
              simp only [z1] at h
              cases zg : g c1 ds with
              | none => simp only [zg] at h
              | some cv =>
                obtain ⟨c2, v⟩ := cv
                simp only [zg] at h
                obtain ⟨p1, k1, k2, k3⟩ := s.rel.ow i c1 z1
                rw [h1] at k1
                cases k1
                exact ok p vs F1 H1 Q c1 c2 v ds s.rel.le k2 k3 hA zg fun x ob hx hc => h F1 _ x (s.trans (Stp.mut s.rel z1 h1 hc)) hx trivial
        | ex x E1 => simp only [M.bnd, q] at h; exact h
        | no => simp only [M.bnd, q] at h
      · simp only [if_neg ht] at h
theorem d_mut (pa : PlainAttrs T) (slot : Slot T name id) (hty : typeOf (.builtin id) = pure (.type "method_descriptor")) (hm : MtR X id r) (ok : MutOk X r g) (ha : DA X W (e :: es) f) (hN : X.N[i]? = some x := by rfl) (hv : Vis X.env.scope x := by first | exact Or.inl rfl | exact Or.inr (Or.inl rfl) | exact Or.inr (Or.inr rfl))
    (hd : (x == ("__debug__" : Str)) = false := by decide) (hcd : (x == ("__classdict__" : Str)) = false := by decide)
    (hbase : attributeBase (.Name x p') name X.env (eval (.Name x p') X.env) = eval (.Name x p') X.env := by rfl)
    (hfew : ((backTo cpos (starEach (e :: es) X.env)).all (fun x => !x.1) && (backToKw cpos (keywordEach [] X.env)).all (fun x => x.1.isSome)
      && decide ((e :: es).length + ([] : List Keyword).length + (if ([] : List Keyword).isEmpty then 0 else 1) < 30)) = true := by rfl)
    (hline : (apos.endLine == cpos.line) = true := by rfl) (hs : starEach (e :: es) X.env = (false, eval e X.env) :: starEach es X.env := by rfl) (hplain : (backTo cpos (starEach es X.env)).any (·.1) = false := by rfl) :
    DE X W (.Call (.Attribute (.Name x p') name apos) (e :: es) [] cpos) (mMut T i f g) :=
  ⟨pe_mono (pe_bm pa slot hty hm (pe_var hN hv hd hcd) ha.pa hbase hfew hline hs hplain) fun σ H Q ⟨F, E, rel, h⟩ => by
    obtain ⟨p, h1, h2, h3⟩ := mut_ok ok rel h
    exact ⟨.ref p, h1, h2, F, E, rel, h3⟩⟩
theorem d_mut0 (pa : PlainAttrs T) (slot : Slot T name id) (hty : typeOf (.builtin id) = pure (.type "method_descriptor")) (hm : MtR X id r) (ok : MutOk X r g) (hN : X.N[i]? = some x := by rfl) (hv : Vis X.env.scope x := by first | exact Or.inl rfl | exact Or.inr (Or.inl rfl) | exact Or.inr (Or.inr rfl))
    (hd : (x == ("__debug__" : Str)) = false := by decide) (hcd : (x == ("__classdict__" : Str)) = false := by decide)
    (hbase : attributeBase (.Name x p') name X.env (eval (.Name x p') X.env) = eval (.Name x p') X.env := by rfl) (hline : (apos.endLine == cpos.line) = true := by rfl) :
    DE X W (.Call (.Attribute (.Name x p') name apos) [] [] cpos) (mMut T i mNil g) :=
  ⟨pe_mono (pe_bm0 pa slot hty hm (pe_var hN hv hd hcd) hbase hline) fun σ H Q ⟨F, E, rel, h⟩ => by
    obtain ⟨p, h1, h2, h3⟩ := mut_ok ok rel h
    exact ⟨.ref p, h1, h2, h3 F H [] (Stp.refl rel) .nil⟩⟩
def gApp : D → List D → Option (D × D)
  | .lst xs, [d] => if xs.length < 100000 then some (.lst (xs ++ [d]), .non) else none
  | _, _ => none
theorem line_lt {n : Nat} (h : n < 100000) : n < sizeLine := Nat.lt_of_lt_of_le h (by decide)
theorem appOk : MutOk X rAppend gApp := by
  intro p vs F H Q c c' v ds s n hc hA e q
  cases c with
  | lst xs =>
    obtain ⟨ws, hp, r⟩ := hc
    cases hA with
    | nil => simp [gApp] at e
    | @cons y ys d ds hy t =>
      cases t with
      | cons _ _ => simp [gApp] at e
      | nil =>
        by_cases hl : xs.length < 100000
        · simp only [gApp, if_pos hl, Option.some.injEq, Prod.mk.injEq] at e
          obtain ⟨rfl, rfl⟩ := e
          exact ⟨p, ws, y, rfl, rfl, hp, line_lt (by rw [r.length]; exact hl), q _ _ .non ⟨_, upd_same, r.append (.cons hy .nil)⟩⟩
        · simp only [gApp, if_neg hl, reduceCtorEq] at e
  | _ => simp [gApp] at e
def gExt : D → List D → Option (D × D)
  | .lst xs, [.lst ys] => if xs.length + ys.length ≤ 100000 then some (.lst (xs ++ ys), .non) else none
  | _, _ => none
theorem extOk : MutOk X rExtend gExt := by
  intro p vs F H Q c c' v ds s n hc hA e q
  cases c with
  | lst xs =>
    obtain ⟨ws, hp, r⟩ := hc
    cases hA with
    | nil => simp [gExt] at e
    | @cons y ys d ds hy t =>
      cases t with
      | cons _ _ => cases hy <;> simp [gExt] at e
      | nil =>
        cases hy with
        | @lst b us zs hb rb =>
          by_cases hl : xs.length + zs.length ≤ 100000
          · simp only [gExt, if_pos hl, Option.some.injEq, Prod.mk.injEq] at e
            obtain ⟨rfl, rfl⟩ := e
            exact ⟨p, b, ws, us, rfl, rfl, hp, s _ _ hb, line_le (by rw [r.length, rb.length]; exact hl), q _ _ .non ⟨_, upd_same, r.append rb⟩⟩
          · simp only [gExt, if_neg hl, reduceCtorEq] at e
        | _ => simp [gExt] at e
  | _ => simp [gExt] at e
def gPop : D → List D → Option (D × D)
  | .lst xs, [] => (match xs[xs.length - 1]? with
    | some d => some (.lst xs.dropLast, d)
    | none => none)
  | .lst xs, [.int i] => if 0 ≤ i then (match xs[i.toNat]? with
    | some d => if i < 100000 then some (.lst (xs.eraseIdx i.toNat), d) else none
    | none => none) else none
  | _, _ => none
theorem IsAll.dropLast {K : PySem.W.Frag} {mg : Str → Option Value} {vs : List V} {ds : List D} (h : IsAll K mg F vs ds) : IsAll K mg F vs.dropLast ds.dropLast := by
  rw [List.dropLast_eq_take, List.dropLast_eq_take, h.length]
  exact h.take _
theorem popOk : MutOk X (fun x xs H Q => rPop x xs H Q ∨ rPopAt x xs H Q) gPop := by
  intro p vs F H Q c c' v ds s n hc hA e q
  cases c with
  | lst xs =>
    obtain ⟨ws, hp, r⟩ := hc
    cases hA with
    | nil =>
      unfold gPop at e
      cases z : xs[xs.length - 1]? with
      | none => simp [z] at e
      | some d =>
        simp only [z, Option.some.injEq, Prod.mk.injEq] at e
        obtain ⟨rfl, rfl⟩ := e
        obtain ⟨u, h1, h2⟩ := r.get z
        exact .inl ⟨p, ws, u, rfl, rfl, hp, by rw [r.length]; exact h1, q _ _ h2 ⟨_, upd_same, r.dropLast⟩⟩
    | @cons y ys d ds hy t =>
      cases t with
      | cons _ _ => cases hy <;> simp [gPop] at e
      | nil =>
        cases hy with
        | int i =>
          unfold gPop at e
          by_cases h0 : 0 ≤ i
          · simp only [if_pos h0] at e
            cases z : xs[i.toNat]? with
            | none => simp [z] at e
            | some d =>
              simp only [z] at e
              by_cases hl : i < 100000
              · simp only [if_pos hl, Option.some.injEq, Prod.mk.injEq] at e
                obtain ⟨rfl, rfl⟩ := e
                obtain ⟨u, h1, h2⟩ := r.get z
                have hlt : i.toNat < xs.length := (List.getElem?_eq_some_iff.mp z).1
                have hx : ixN ws.length i = some i.toNat := by unfold ixN; rw [if_pos h0, if_pos (by rw [r.length]; omega)]
                exact .inr ⟨p, ws, i, i.toNat, u, rfl, rfl, hp, by omega, by omega, (ixN_seq hx).1, h1, q _ _ h2 ⟨_, upd_same, r.eraseIdx _⟩⟩
              · simp only [if_neg hl, reduceCtorEq] at e
          · simp only [if_neg h0, reduceCtorEq] at e
        | _ => simp [gPop] at e
  | _ => simp [gPop] at e
theorem mt_popD : MtR X "list.pop" (fun x xs H Q => rPop x xs H Q ∨ rPopAt x xs H Q) := MtR.or (r := rPop) (r' := rPopAt) mt_pop mt_popAt
theorem d_append (ha : DA X W [e] f) (hN : X.N[i]? = some x := by rfl) (hv : Vis X.env.scope x := by first | exact Or.inl rfl | exact Or.inr (Or.inl rfl) | exact Or.inr (Or.inr rfl))
    (hd : (x == ("__debug__" : Str)) = false := by decide) (hcd : (x == ("__classdict__" : Str)) = false := by decide) (hl : (apos.endLine == cpos.line) = true := by rfl) (hs : starEach [e] X.env = (false, eval e X.env) :: starEach [] X.env := by rfl)
    (hfew : ((backTo cpos (starEach [e] X.env)).all (fun x => !x.1) && (backToKw cpos (keywordEach [] X.env)).all (fun x => x.1.isSome)
      && decide (([e] : List Expr).length + ([] : List Keyword).length + (if ([] : List Keyword).isEmpty then 0 else 1) < 30)) = true := by rfl) : DE X W (.Call (.Attribute (.Name x p') "append" apos) [e] [] cpos) (mMut "list" i f gApp) :=
  d_mut PySem.F.plainAttrs_list PySem.F.slot_list_append PySem.F.type_list_append mt_append appOk ha hN hv hd hcd rfl hfew hl hs rfl
theorem d_extend (ha : DA X W [e] f) (hN : X.N[i]? = some x := by rfl) (hv : Vis X.env.scope x := by first | exact Or.inl rfl | exact Or.inr (Or.inl rfl) | exact Or.inr (Or.inr rfl))
    (hd : (x == ("__debug__" : Str)) = false := by decide) (hcd : (x == ("__classdict__" : Str)) = false := by decide) (hl : (apos.endLine == cpos.line) = true := by rfl) (hs : starEach [e] X.env = (false, eval e X.env) :: starEach [] X.env := by rfl)
    (hfew : ((backTo cpos (starEach [e] X.env)).all (fun x => !x.1) && (backToKw cpos (keywordEach [] X.env)).all (fun x => x.1.isSome)
      && decide (([e] : List Expr).length + ([] : List Keyword).length + (if ([] : List Keyword).isEmpty then 0 else 1) < 30)) = true := by rfl) : DE X W (.Call (.Attribute (.Name x p') "extend" apos) [e] [] cpos) (mMut "list" i f gExt) :=
  d_mut PySem.F.plainAttrs_list PySem.F.slot_list_extend PySem.F.type_list_extend mt_extend extOk ha hN hv hd hcd rfl hfew hl hs rfl
theorem d_pop1 (ha : DA X W [e] f) (hN : X.N[i]? = some x := by rfl) (hv : Vis X.env.scope x := by first | exact Or.inl rfl | exact Or.inr (Or.inl rfl) | exact Or.inr (Or.inr rfl))
    (hd : (x == ("__debug__" : Str)) = false := by decide) (hcd : (x == ("__classdict__" : Str)) = false := by decide) (hl : (apos.endLine == cpos.line) = true := by rfl) (hs : starEach [e] X.env = (false, eval e X.env) :: starEach [] X.env := by rfl)
    (hfew : ((backTo cpos (starEach [e] X.env)).all (fun x => !x.1) && (backToKw cpos (keywordEach [] X.env)).all (fun x => x.1.isSome)
      && decide (([e] : List Expr).length + ([] : List Keyword).length + (if ([] : List Keyword).isEmpty then 0 else 1) < 30)) = true := by rfl) : DE X W (.Call (.Attribute (.Name x p') "pop" apos) [e] [] cpos) (mMut "list" i f gPop) :=
  d_mut PySem.F.plainAttrs_list PySem.F.slot_list_pop PySem.F.type_list_pop mt_popD popOk ha hN hv hd hcd rfl hfew hl hs rfl
theorem d_pop0 (hN : X.N[i]? = some x := by rfl) (hv : Vis X.env.scope x := by first | exact Or.inl rfl | exact Or.inr (Or.inl rfl) | exact Or.inr (Or.inr rfl))
    (hd : (x == ("__debug__" : Str)) = false := by decide) (hcd : (x == ("__classdict__" : Str)) = false := by decide) (hl : (apos.endLine == cpos.line) = true := by rfl) : DE X W (.Call (.Attribute (.Name x p') "pop" apos) [] [] cpos) (mMut "list" i mNil gPop) :=
  d_mut0 PySem.F.plainAttrs_list PySem.F.slot_list_pop PySem.F.type_list_pop mt_popD popOk hN hv hd hcd rfl hl
end
end DL
-- DK
namespace DL
open PySem PySem.Spec PyProof.Rows L2
section
variable {X : Cx} {W : WX} {F F1 F' : Hp} {E E1 E' : En} {σ σ1 σ' : L2.St} {H H1 H' : Hp}
variable {a b c e o tg iter : Expr} {st : Stmt} {body rest orelse : List Stmt} {es : List Expr} {fa fb fc fi fv : M R} {pos tpos p' : Pos} {i : Nat} {x : Str}
def putL : D → D → D → Option D
  | .lst ds, .int k, d => (ixN ds.length k).map fun j => .lst (ds.set j d)
  | _, _, _ => none
def isOw (i : Nat) (E : En) : Bool := match E[i]? with
  | some (.ow _) => true
  | _ => false
theorem isOw_some (h : isOw i E = true) : ∃ d, E[i]? = some (.ow d) := by
  unfold isOw at h
  cases z : E[i]? with
  | none => simp [z] at h
  | some s => cases s <;> simp [z] at h; exact ⟨_, rfl⟩
/-- x[k] = e: the value, the object, the place -/
def sPut (i : Nat) (fv fi : M R) : M Fl := M.bnd fv fun r => M.bnd (take r) fun d => fun E => if isOw i E = true then M.bnd fi (fun rk => fun E1 => match E1[i]?, pk rk E1 with
    | some (.ow c), some k => (match putL c k d with
      | some c' => .ok .nx (E1.set i (.ow c'))
      | none => .no)
    | _, _ => .no) E else .no
theorem putL_ok {p : Addr} {c k d c' : D} {xk xv : V} (s : Same F H) (hc : Cont X.K X.mg F H p c) (hk : Is1 X.K X.mg F H xk k) (hv : Is X.K X.mg F xv d) (e : putL c k d = some c') {Q : Hp → Prop} (q : ∀ ob, Cont X.K X.mg F (upd H p ob) p c' → Q (upd H p ob)) : rSetL (.ref p) xk xv H Q := by
  cases c with
  | lst ds =>
    obtain ⟨ws, hp, r⟩ := hc
    cases hk with
    | int i =>
      unfold putL at e
      cases z : ixN ds.length i with
      | none => simp [z] at e
      | some j =>
        simp only [z, Option.map_some, Option.some.injEq] at e
        subst e
        exact ⟨p, ws, i, j, rfl, rfl, hp, by rw [r.length]; exact z, q _ ⟨_, upd_same, r.set hv j⟩⟩
    | _ => simp [putL] at e
  | _ => simp [putL] at e
theorem s_put (hv : DE X W e fv) (hi : DE X W b fi) (hN : X.N[i]? = some x := by rfl) (hvis : Vis X.env.scope x := by first | exact Or.inl rfl | exact Or.inr (Or.inl rfl) | exact Or.inr (Or.inr rfl)) (hd : (x == ("__debug__" : Str)) = false := by decide) (hcd : (x == ("__classdict__" : Str)) = false := by decide)
    (ha : ∀ v, assign (.Subscript (.Name x p') b tpos) X.env v = (do
      let ov ← holding [v] (eval (.Name x p') X.env)
      let iv ← holding [v, ov] (eval b X.env)
      standAt tpos
      holding [v, ov, iv] (setItem ov iv v)
      release [v, ov, iv] []) := by intro _; rfl)
    (hs : swapsWithSole [.Subscript (.Name x p') b tpos] e pos.line X.env = pure false := by rfl) (hw : swappedStores [.Subscript (.Name x p') b tpos] e X.env = pure none := by rfl)
    (h1 : (assignEach [.Subscript (.Name x p') b tpos] X.env).map (·.2) = [assign (.Subscript (.Name x p') b tpos) X.env] := by rfl) : DS X W (.Assign [.Subscript (.Name x p') b tpos] e pos) (sPut i fv fi) :=
  ⟨ps_mono (ps_asg hv.pe (pg_sub (pe_var hN hvis hd hcd) hi.pe set_list ha) hs hw h1) fun D σ H ⟨F, E, rel, h⟩ => ⟨F, E, rel, by
    unfold sPut at h
    unfold Good
    have h0 := h
    unfold GoodS at h
    cases q : fv E with
    | ok r E1 =>
      intro F1 H1 v s re nw
      simp only [M.bnd, q] at h
      cases qt : take r E1 with
      | ok d E2 =>
        obtain ⟨F2, s2, hI⟩ := take_ok s re nw qt
        simp only [qt] at h
        by_cases hw : isOw i E2 = true
        · simp only [if_pos hw] at h
          obtain ⟨c0, hc0⟩ := isOw_some hw
          obtain ⟨p, k1, k2, k3⟩ := s2.rel.ow i c0 hc0
          refine ⟨.ref p, k1, F2, E2, s2.rel, ?_⟩
          unfold Good
          cases q3 : fi E2 with
          | ok rk E3 =>
            simp only [q3] at h
            intro F3 H3 xk s3 rek nwk
            cases z : E3[i]? with
            | none => simp only [z] at h
            | some sl =>
              cases sl with
              | un => simp only [z] at h
              | fr d' => simp only [z] at h
              | ow c =>
                cases zk : pk rk E3 with
                | none => simp only [z, zk] at h
                | some k =>
                  simp only [z, zk] at h
                  cases zp : putL c k d with
                  | none => simp only [zp] at h
                  | some c' =>
                    simp only [zp] at h
                    obtain ⟨p1, m1, m2, m3⟩ := s3.rel.ow i c z
                    rw [k1] at m1
                    cases m1
                    exact putL_ok s3.rel.le m3 (rek.peek1 s3.rel zk) (hI.mono s3.mono) zp fun ob hc => h F3 σ _ ((s2.trans s3).trans (Stp.mut s3.rel z k1 hc))
          | ex x E3 => simp only [q3] at h; exact fun F' H' c d s3 xo => h F' σ H' c d (s2.trans s3) xo
          | no => simp only [q3] at h
        · simp only [if_neg hw] at h
      | ex x E2 => exact (take_no qt).elim
      | no => simp only [qt] at h
    | ex x E1 => simp only [M.bnd, q] at h; exact fun F' H' c d s xo => h F' σ H' c d s xo
    | no => simp only [M.bnd, q] at h⟩⟩

def sAug (i : Nat) (g : D → D → Option R) (f : M R) : M Fl := fun E => match E[i]? with
  | some (.fr d0) => M.bnd f (fun r => fun E1 => match pk r E1 with
    | some d => (match g d0 d with
      | some (.fz z) => if i < E1.length then .ok .nx (E1.set i (.fr z)) else .no
      | _ => .no)
    | none => .no) E
  | _ => .no
theorem s_aug {op : Operator} {r : R2} {g : D → D → Option R} (ho : OpR X (inplaceOp op) r) (hr : BinOk X r g) (he : DE X W e fa) (hN : X.N.Nodup) (hi : X.N[i]? = some x) (hx : Loc X.env.scope x) (hf : X.fn x = true ∨ X.env.scope.names.lookup x = some .local := by first | exact .inl rfl | exact .inr rfl | assumption) :
    DS X W (.AugAssign (.Name x p') op e pos) (sAug i g fa) :=
  ⟨ps_mono (ps_aug hN hi hx he.pe (show PIp X op r from ho) hf) fun D σ H ⟨F, E, rel, h⟩ => by
    unfold GoodS sAug at h
    cases z : E[i]? with
    | none => simp only [z] at h
    | some sl =>
      cases sl with
      | un => simp only [z] at h
      | ow d => simp only [z] at h
      | fr d0 =>
        simp only [z] at h
        obtain ⟨v0, h1, h2⟩ := rel.fr i d0 z
        refine ⟨v0, h1, F, E, rel, ?_⟩
        unfold Good
        cases q : fa E with
        | ok rr E1 =>
          simp only [M.bnd, q] at h
          intro F1 H1 y s re nw
          cases zk : pk rr E1 with
          | none => simp only [zk] at h
          | some d =>
            simp only [zk] at h
            cases zg : g d0 d with
            | none => simp only [zg] at h
            | some zr =>
              cases zr with
              | fz zd =>
                simp only [zg] at h
                by_cases hl : i < E1.length
                · simp only [if_pos hl] at h
                  refine hr v0 y F1 H1 _ d0 d (.fz zd) s.rel.le (Is1.of s.rel.le (h2.mono s.mono)) (re.peek1 s.rel zk) zg fun v H' ou => ?_
                  cases ou with
                  | old hI => exact h F1 _ _ (s.trans (Stp.setFr s.rel hI hl))
                  | @newF pn ob dn hp hI =>
                    have sa := Stp.allocF (o := ob) s.rel hp
                    exact h _ _ _ (s.trans (sa.trans (Stp.setFr sa.rel hI hl)))
                · simp only [if_neg hl] at h
              | _ => simp only [zg] at h
        | ex x E1 => simp only [M.bnd, q] at h; exact fun F' H' c d s xo => h F' σ H' c d s xo
        | no => simp only [M.bnd, q] at h⟩
theorem s_iadd (he : DE X W e fa) (hN : X.N.Nodup) (hi : X.N[i]? = some x) (hx : Loc X.env.scope x) (hf : X.fn x = true ∨ X.env.scope.names.lookup x = some .local := by first | exact .inl rfl | exact .inr rfl | assumption) : DS X W (.AugAssign (.Name x p') .Add e pos) (sAug i (gI (fun _ _ => true) (fun i j => i + j)) fa) :=
  s_aug iop_add binI0 he hN hi hx hf
theorem s_isub (he : DE X W e fa) (hN : X.N.Nodup) (hi : X.N[i]? = some x) (hx : Loc X.env.scope x) (hf : X.fn x = true ∨ X.env.scope.names.lookup x = some .local := by first | exact .inl rfl | exact .inr rfl | assumption) : DS X W (.AugAssign (.Name x p') .Sub e pos) (sAug i gSub fa) :=
  s_aug iop_sub binI0 he hN hi hx hf

def sAugS (i : Nat) (g : D → D → Option R) (fi fv : M R) : M Fl := fun E0 => if isOw i E0 = true then M.bnd fi (fun rk => fun E => match E[i]?, pk rk E with
    | some (.ow (.lst ds)), some (.int k) => (match atI ds k with
      | some d0 => M.bnd fv (fun r => fun E1 => match pk r E1, E1[i]? with
        | some d, some (.ow c) => (match g d0 d with
          | some (.fz z) => (match putL c (.int k) z with
            | some c' => .ok .nx (E1.set i (.ow c'))
            | none => .no)
          | _ => .no)
        | _, _ => .no) E
      | none => .no)
    | _, _ => .no) E0 else .no
theorem get_list : PGet X (rIxL X.K) := by
  intro pins s σ H x y v u Q I rx ry h
  obtain ⟨p, xs, i, z, rfl, rfl, hq, he, q⟩ := h
  cases rx
  obtain ⟨t, rfl⟩ := ry
  obtain ⟨its, r, pl, hz⟩ := I.list hq
  obtain ⟨j, h1, h2, h3, h4, h5⟩ := atI_get he
  obtain ⟨w, ew, rw'⟩ := r.get h2
  have hl := r.length
  have hn := line63
  have fin : EP X pins σ Q w s := ⟨z, H, I, rw', q⟩
  by_cases h0 : 0 ≤ i
  · have hj : i.toNat = j := by
      rw [seqIndex_of h0 h5] at h1
      exact Option.some.inj h1
    exact wpAny_getItem_list pl.isList h0 (by omega) (by rw [hj]; simpa using ew) fin
  · have hj : (i + (its.toArray.size : Int)).toNat = j := by
      rw [seqIndex_neg (by omega) h4] at h1
      rw [List.size_toArray, ← hl]
      exact Option.some.inj h1
    exact wpAny_getItem_list_neg pl.isList (by omega) (by rw [List.size_toArray] <;> omega) (by omega) (by rw [hj]; simpa using ew) fin
theorem s_augS {op : Operator} {r : R2} {g : D → D → Option R} (ho : OpR X (inplaceOp op) r) (hr : BinOk X r g) (hsc : ∀ a b z, g a b = some (.fz z) → ∃ n, z = .int n) (hi : DE X W b fi) (hv : DE X W e fv) (hN : X.N[i]? = some x := by rfl) (hvis : Vis X.env.scope x := by first | exact Or.inl rfl | exact Or.inr (Or.inl rfl) | exact Or.inr (Or.inr rfl)) (hd : (x == ("__debug__" : Str)) = false := by decide) (hcd : (x == ("__classdict__" : Str)) = false := by decide)
    (ha : ∀ ov iv new, augStore b ov iv new = (do holding [new, ov, iv] (setItem ov iv new); release [new, ov, iv] []; pure .next) := by intros; rfl) : DS X W (.AugAssign (.Subscript (.Name x p') b tpos) op e pos) (sAugS i g fi fv) :=
  ⟨ps_mono (ps_augS (pe_var hN hvis hd hcd) hi.pe get_list hv.pe (show PIp X op r from ho) set_list ha) fun D σ H ⟨F, E, rel, h⟩ => by
    unfold GoodS sAugS at h
    by_cases hw : isOw i E = true
    · simp only [if_pos hw] at h
      obtain ⟨c0, hc0⟩ := isOw_some hw
      obtain ⟨p, k1, k2, k3⟩ := rel.ow i c0 hc0
      refine ⟨.ref p, k1, F, E, rel, ?_⟩
      unfold Good
      cases q : fi E with
      | ok rk E1 =>
        simp only [M.bnd, q] at h
        intro F1 H1 xk s re nw
        cases z : E1[i]? with
        | none => simp only [z] at h
        | some sl =>
          cases sl with
          | un => simp only [z] at h
          | fr d => simp only [z] at h
          | ow c =>
            cases c with
            | lst ds =>
              cases zk : pk rk E1 with
              | none => simp only [z, zk] at h
              | some kd =>
                cases kd with
                | int k =>
                  simp only [z, zk] at h
                  cases za : atI ds k with
                  | none => simp only [za] at h
                  | some d0 =>
                    simp only [za] at h
                    obtain ⟨p1, m1, m2, m3⟩ := s.rel.ow i _ z
                    rw [k1] at m1
                    cases m1
                    obtain ⟨ws, hp, rr⟩ := m3
                    obtain ⟨v0, a1, a2⟩ := atI_all rr za
                    have hk1 := re.peek1 s.rel zk
                    have exk : xk = .int k := by cases hk1; rfl
                    subst exk
                    refine ⟨p, ws, k, v0, rfl, rfl, .inl (.inl hp), a1, F1, E1, s.rel, ?_⟩
                    unfold Good
                    cases q2 : fv E1 with
                    | ok r2 E2 =>
                      simp only [q2] at h
                      intro F2 H2 y s2 re2 nw2
                      cases zv : pk r2 E2 with
                      | none => simp only [zv] at h
                      | some d =>
                        cases z2 : E2[i]? with
                        | none => simp only [zv, z2] at h
                        | some sl2 =>
                          cases sl2 with
                          | un => simp only [zv, z2] at h
                          | fr d => simp only [zv, z2] at h
                          | ow c2 =>
                            simp only [zv, z2] at h
                            cases zg : g d0 d with
                            | none => simp only [zg] at h
                            | some zr =>
                              cases zr with
                              | fz zd =>
                                simp only [zg] at h
                                cases zp : putL c2 (.int k) zd with
                                | none => simp only [zp] at h
                                | some c' =>
                                  simp only [zp] at h
                                  refine hr v0 y F2 H2 _ d0 d (.fz zd) s2.rel.le (Is1.of s2.rel.le (a2.mono s2.mono)) (re2.peek1 s2.rel zv) zg fun w H' ou => ?_
                                  obtain ⟨n, rfl⟩ := hsc _ _ _ zg
                                  cases ou with
                                  | newF _ hI => cases hI
                                  | old hI =>
                                    obtain ⟨p2, n1, n2, n3⟩ := s2.rel.ow i c2 z2
                                    rw [k1] at n1
                                    cases n1
                                    exact putL_ok s2.rel.le n3 (.int k) hI zp fun ob hc => h F2 σ _ ((s.trans s2).trans (Stp.mut s2.rel z2 k1 hc))
                              | _ => simp only [zg] at h
                    | ex x E2 => simp only [q2] at h; exact fun F' H' c d s3 xo => h F' σ H' c d (s.trans s3) xo
                    | no => simp only [q2] at h
                | _ => simp only [z, zk] at h
            | _ => simp only [z] at h
      | ex x E1 => simp only [M.bnd, q] at h; exact fun F' H' c d s3 xo => h F' σ H' c d s3 xo
      | no => simp only [M.bnd, q] at h
    · simp only [if_neg hw] at h⟩
end
end DL
-- DL
namespace DL
open PySem PySem.Spec PyProof.Rows L2

/-- a def's end: what it hands back (new or frozen), the content of what was lent (the first parameter's) -/
inductive Rt where
  | ret (b : Bool) (d o : D) | exc (x : Xn) (o : D) | no
abbrev Dn := List D → Rt
def sl0 : Bool → List D → En
  | true, d :: ds => .ow d :: ds.map .fr
  | _, ds => ds.map .fr
def back : Bool → List D → D → List D
  | true, _ :: ds, o => o :: ds
  | _, ds, _ => ds
def rOf (b : Bool) (d : D) : R := if b then .fs d else .fz d
/-- the promise: l says whether the first parameter is lent -/
def spD (K : PySem.W.Frag) (mg : Str → Option Value) (l : Bool) (n : Nat) (G : Dn) : Sp := fun vs H Q E => ∃ F ds, ds.length = n ∧ vs.length = n ∧ RelK K mg F (sl0 l ds) (vs.map some) H ∧ match G ds with
  | .ret b d o => ∀ F' H' v, StpK K mg F (sl0 l ds) (vs.map some) H F' (sl0 l (back l ds o)) (vs.map some) H' → ResK K mg F' (sl0 l (back l ds o)) (vs.map some) H' v (rOf b d) → New (sl0 l ds) (vs.map some) H v (rOf b d) → Q v H'
  | .exc x o => ∀ F' H' cls d, StpK K mg F (sl0 l ds) (vs.map some) H F' (sl0 l (back l ds o)) (vs.map some) H' → XnK K mg F' H' cls d x → E cls d H'
  | .no => False
theorem spD_len {K : PySem.W.Frag} {mg : Str → Option Value} {l : Bool} {n : Nat} {G : Dn} {vs : List V} {H : Hp} {Q : VK} {E : XK} (h : spD K mg l n G vs H Q E) : vs.length = n := by
  obtain ⟨F, ds, h1, h2, _⟩ := h
  exact h2
/-- a promise about fewer arguments -/
theorem spD_imp {K : PySem.W.Frag} {mg : Str → Option Value} {l : Bool} {n : Nat} {G G' : Dn} (h : ∀ ds, ds.length = n → G' ds ≠ .no → G ds = G' ds) : ∀ vs H Q E, spD K mg l n G' vs H Q E → spD K mg l n G vs H Q E := by
  intro vs H Q E ⟨F, ds, h1, h2, h3, h4⟩
  refine ⟨F, ds, h1, h2, h3, ?_⟩
  by_cases e : G' ds = .no
  · rw [e] at h4; exact h4.elim
  · rw [h ds h1 e]; exact h4

theorem sl0_len (l : Bool) (ds : List D) : (sl0 l ds).length = ds.length := by
  cases l <;> cases ds <;> simp [sl0]
theorem sl0_ow {l : Bool} {ds : List D} {i : Nat} {d : D} (h : (sl0 l ds)[i]? = some (.ow d)) : l = true ∧ i = 0 ∧ ∃ r, ds = d :: r := by
  cases l with
  | false => simp [sl0] at h
  | true =>
    cases ds with
    | nil => simp [sl0] at h
    | cons x r =>
      cases i with
      | zero => simp only [sl0, List.getElem?_cons_zero, Option.some.injEq, Sl.ow.injEq] at h; subst h; exact ⟨rfl, rfl, r, rfl⟩
      | succ i => simp [sl0] at h
theorem own_sl0 {l : Bool} {ds : List D} {vs : List V} {a : Addr} (w : Own (sl0 l ds) (vs.map some) a) : l = true ∧ ∃ ws, vs = .ref a :: ws := by
  obtain ⟨i, d, h1, h2⟩ := w
  obtain ⟨rfl, rfl, r, rfl⟩ := sl0_ow h1
  cases vs with
  | nil => simp at h2
  | cons v ws =>
    simp only [List.map_cons, List.getElem?_cons_zero, Option.some.injEq] at h2
    subst h2
    exact ⟨rfl, ws, rfl⟩
section
variable {X : Cx} {W : WX} {F F1 F' : Hp} {E E1 E' : En} {σ σ1 σ' : L2.St} {H H1 H' : Hp}
variable {a b c e o tg iter : Expr} {st : Stmt} {es : List Expr} {fa fb fc : M R} {pos p p' : Pos} {i k : Nat} {x : Str}

def mCall (G : Dn) (f : M (List D)) : M R := M.bnd f fun ds => fun E => match G ds with
  | .ret b d _ => .ok (rOf b d) E
  | .exc x _ => .ex x E
  | .no => .no
theorem relK_frz (rel : Rel X F E σ H) {vs : List V} {ds : List D} (hA : IsAll X.K X.mg F vs ds) : RelK X.K X.mg F (sl0 false ds) (vs.map some) H := by
  refine ⟨rel.le, by rw [sl0_len, List.length_map, hA.length], fun i d h => ?_, fun i d h => ?_, fun i j d d' p ne h => ?_⟩
  · have h' : ds[i]? = some d := by simpa [sl0] using h
    obtain ⟨v, h1, h2⟩ := hA.get h'
    exact ⟨v, by rw [List.getElem?_map, h1]; rfl, h2⟩
  · exact absurd (sl0_ow h).1 Bool.false_ne_true
  · exact absurd (sl0_ow h).1 Bool.false_ne_true
/-- behind a call that was lent nothing -/
theorem stp_frz {vs : List V} {ds ds' : List D} (rel : Rel X F E σ H) (s : StpK X.K X.mg F (sl0 false ds) (vs.map some) H F' (sl0 false ds') (vs.map some) H') : Stp X F E σ H F' E σ H' := by
  have no : ∀ a, ¬ Own (sl0 false ds) (vs.map some) a := fun a w => absurd (own_sl0 w).1 Bool.false_ne_true
  have nf : ∀ a, F' a ≠ none → F a ≠ none ∨ H a = none := fun a h => by
    rcases s.fnew a h with q | q | q
    · exact .inl q
    · exact .inr q
    · exact (no a q).elim
  refine ⟨⟨s.rel.le, rel.len, fun i d h => ?_, fun i d h => ?_, rel.ne⟩, s.mono, fun a o h _ => s.kept a o h (no a), fun a h => ?_, fun a w => .inr w, fun d h => ⟨rfl, d, h⟩⟩
  · obtain ⟨v, h1, h2⟩ := rel.fr i d h
    exact ⟨v, h1, h2.mono s.mono⟩
  · obtain ⟨q, h1, h2, h3⟩ := rel.ow i d h
    obtain ⟨o, ho⟩ := h3.there
    refine ⟨q, h1, ?_, h3.mono s.mono ((s.kept q o ho (no q)).trans ho.symm)⟩
    cases z : F' q with
    | none => rfl
    | some u =>
      rcases nf q (by rw [z]; exact fun y => nomatch y) with y | y
      · exact absurd h2 y
      · rw [ho] at y; cases y
  · rcases nf a h with q | q
    · exact .inl q
    · exact .inr (.inl q)
theorem res_frz {vs : List V} {ds ds' : List D} {v : V} {b : Bool} {d : D} (rel : Rel X F E σ H) (s : Stp X F E σ H F' E σ H') (re : ResK X.K X.mg F' (sl0 false ds') (vs.map some) H' v (rOf b d)) (nw : New (sl0 false ds) (vs.map some) H v (rOf b d)) :
    Res X F' E σ H' v (rOf b d) ∧ New E σ H v (rOf b d) := by
  cases b with
  | false => exact ⟨re, trivial⟩
  | true =>
    obtain ⟨q, rfl, h1, h2, h3⟩ := re
    have hn : H q = none := by
      rcases nw q rfl with z | z
      · exact z
      · exact absurd (own_sl0 z).1 Bool.false_ne_true
    exact ⟨⟨q, rfl, h1, not_own_new rel hn, h3⟩, fun q' e => by cases e; exact .inl hn⟩
theorem call_ok {G : Dn} {f : M (List D)} {Q : VK} {n : Nat} (h : Good X W F E σ H (mCall G f) Q) (hn : ∀ ds E', f E = .ok ds E' → ds.length = n) : GoodA X W F E σ H f fun vs H1 => spD X.K X.mg false n G vs H1 Q (WE W σ) := by
  have h0 := h
  unfold Good mCall at h
  unfold GoodA
  cases q : f E with
  | ok ds E1 =>
    intro F1 H1 vs s hA
    simp only [M.bnd, q] at h
    refine ⟨F1, ds, hn ds E1 q, by rw [hA.length]; exact hn ds E1 q, relK_frz s.rel hA, ?_⟩
    cases qg : G ds with
    | ret b d o =>
      simp only [qg] at h
      intro F2 H2 v s2 re nw
      have s3 := stp_frz s.rel s2
      obtain ⟨r1, r2⟩ := res_frz s.rel s3 re nw
      exact h F2 H2 v (s.trans s3) r1 (r2.step s)
    | exc x o =>
      simp only [qg] at h
      exact fun F2 H2 c d s2 xo => h F2 H2 c d (s.trans (stp_frz s.rel s2)) xo
    | no => simp only [qg] at h
  | ex x E1 => simp only [M.bnd, q] at h; exact h
  | no => simp only [M.bnd, q] at h
/-- how many arguments -/
def nArgs (n : Nat) (f : M (List D)) : M (List D) := M.bnd f fun ds => if ds.length = n then M.ret ds else fun _ => .no
variable {f : Addr} {fd : FuncData} {ps : List Str} {G : Dn} {fs : M (List D)}
theorem goodA_of_all {P : List V → Hp → Prop} {n : Nat} (h : GoodA X W F E σ H (nArgs n fs) P) : GoodA X W F E σ H fs fun vs H1 => P vs H1 := by
  unfold GoodA nArgs at h
  unfold GoodA
  cases q : fs E with
  | ok ds E1 =>
    simp only [M.bnd, q] at h
    by_cases e : ds.length = n
    · simp only [if_pos e, M.ret] at h; exact h
    · simp only [if_neg e] at h
  | ex x E1 => simp only [M.bnd, q] at h; exact h
  | no => simp only [M.bnd, q] at h
theorem d_call (FO : FnOk X.prog X.w X.K X.mg X.base (L2.CX X.prog X.w) k f fd ps (spD X.K X.mg false ps.length G)) (tk : Takes X W) (hr : Room k X.A) (hg : Gl X x) (hm : X.mg x = some (.ref f)) (hk : PySem.W.keepIn X.K (.ref f) = true) (hb : Binds X.K fd ps [])
    (ha : DA X W (e :: es) fs) (hdb : (x == ("__debug__" : Str)) = false := by decide) (he : starEach (e :: es) X.env = (false, eval e X.env) :: starEach es X.env := by rfl) (hpl : (backTo pos (starEach es X.env)).any (·.1) = false := by rfl) :
    DE X W (.Call (.Name x p) (e :: es) [] pos) (mCall G (nArgs ps.length fs)) :=
  ⟨pe_mono (pe_callSD (E := WE W) FO hr hg hm hk hb .nil (fun σ => passAt tk σ) ha.pa hdb he hpl) fun σ H Q ⟨F, E, rel, h⟩ => ⟨F, E, rel, by
    have h1 := call_ok (n := ps.length) h fun ds E' q => by
      unfold nArgs M.bnd at q
      cases z : fs E with
      | ok ds' E1 =>
        simp only [z] at q
        by_cases e : ds'.length = ps.length
        · simp only [if_pos e, M.ret, Rs.ok.injEq] at q; obtain ⟨rfl, rfl⟩ := q; exact e
        · simp only [if_neg e, reduceCtorEq] at q
      | ex x E1 => simp only [z, reduceCtorEq] at q
      | no => simp only [z, reduceCtorEq] at q
    have h2 := goodA_of_all h1
    unfold GoodA at h2 ⊢
    cases z : fs E with
    | ok ds E1 => rw [z] at h2; exact fun F' H' vs s hA => by show spD _ _ _ _ _ (vs ++ []) H' Q _; rw [List.append_nil]; exact h2 F' H' vs s hA
    | ex x E1 => rw [z] at h2; exact h2
    | no => rw [z] at h2; exact h2⟩⟩

def mCallL (i n : Nat) (G : Dn) (f : M (List D)) : M R := fun E => if isOw i E = true then M.bnd f (fun ds => fun E1 => match E1[i]? with
  | some (.ow c) => if ds.length + 1 = n then (match G (c :: ds) with
    | .ret b d o => .ok (rOf b d) (E1.set i (.ow o))
    | .exc x o => .ex x (E1.set i (.ow o))
    | .no => .no) else .no
  | _ => .no) E else .no
theorem relK_lent {c : D} {q : Addr} (rel : Rel X F E σ H) (hi : E[i]? = some (.ow c)) (hs : σ[i]? = some (some (.ref q))) {vs : List V} {ds : List D} (hA : IsAll X.K X.mg F vs ds) : RelK X.K X.mg F (sl0 true (c :: ds)) ((V.ref q :: vs).map some) H := by
  refine ⟨rel.le, by rw [sl0_len, List.length_map, List.length_cons, List.length_cons, hA.length], fun j d h => ?_, fun j d h => ?_, fun j l d d' p ne h1 h2 => ?_⟩
  · cases j with
    | zero => simp [sl0] at h
    | succ j =>
      have h' : ds[j]? = some d := by simpa [sl0] using h
      obtain ⟨v, h1, h2⟩ := hA.get h'
      exact ⟨v, by rw [List.map_cons, List.getElem?_cons_succ, List.getElem?_map, h1]; rfl, h2⟩
  · obtain ⟨_, rfl, r, e⟩ := sl0_ow h
    cases e
    obtain ⟨p, h1, h2, h3⟩ := rel.ow i _ hi
    rw [hs] at h1
    cases h1
    exact ⟨q, rfl, h2, h3⟩
  · exact absurd ((sl0_ow h1).2.1.trans (sl0_ow h2).2.1.symm) ne
theorem stp_lent {c o : D} {q : Addr} {vs : List V} {ds : List D} (rel : Rel X F E σ H) (hi : E[i]? = some (.ow c)) (hs : σ[i]? = some (some (.ref q)))
    (s : StpK X.K X.mg F (sl0 true (c :: ds)) ((V.ref q :: vs).map some) H F' (sl0 true (o :: ds)) ((V.ref q :: vs).map some) H') : Stp X F E σ H F' (E.set i (.ow o)) σ H' := by
  have hl : i < E.length := (List.getElem?_eq_some_iff.mp hi).1
  have hw : Own E σ q := ⟨i, c, hi, hs⟩
  have cal : ∀ a, Own (sl0 true (c :: ds)) ((V.ref q :: vs).map some) a → a = q := fun a w => by
    obtain ⟨_, ws, e⟩ := own_sl0 w
    cases e; rfl
  have nf : ∀ a, F' a ≠ none → F a ≠ none ∨ H a = none ∨ a = q := fun a h => by
    rcases s.fnew a h with z | z | z
    · exact .inl z
    · exact .inr (.inl z)
    · exact .inr (.inr (cal a z))
  have kp : ∀ a o, H a = some o → a ≠ q → H' a = some o := fun a o h n => s.kept a o h fun w => n (cal a w)
  refine ⟨⟨s.rel.le, by rw [List.length_set]; exact rel.len, fun j d h => ?_, fun j d h => ?_, fun j l d1 d2 p ne a1 a2 b1 b2 => ?_⟩, s.mono, fun a o h n => kp a o h fun z => n (by rw [z]; exact hw), fun a h => ?_, fun a w => .inr (own_set_same hi w), fun d h => ⟨rfl, ?_⟩⟩
  · rw [getElem?_set_en] at h
    by_cases e : j = i
    · rw [if_pos e, if_pos hl] at h; cases h
    · rw [if_neg e] at h
      obtain ⟨v, h1, h2⟩ := rel.fr j d h
      exact ⟨v, h1, h2.mono s.mono⟩
  · rw [getElem?_set_en] at h
    by_cases e : j = i
    · subst e
      rw [if_pos rfl, if_pos hl] at h
      cases h
      obtain ⟨p, h1, h2, h3⟩ := s.rel.ow 0 o (by simp [sl0])
      simp only [List.map_cons, List.getElem?_cons_zero, Option.some.injEq, V.ref.injEq] at h1
      subst h1
      exact ⟨q, hs, h2, h3⟩
    · rw [if_neg e] at h
      obtain ⟨p, h1, h2, h3⟩ := rel.ow j d h
      have ne : p ≠ q := fun z => by subst z; exact rel.ne j i _ _ _ e h hi h1 hs
      obtain ⟨o', ho⟩ := h3.there
      refine ⟨p, h1, ?_, h3.mono s.mono ((kp p o' ho ne).trans ho.symm)⟩
      cases z : F' p with
      | none => rfl
      | some u =>
        rcases nf p (by rw [z]; exact fun y => nomatch y) with y | y | y
        · exact absurd h2 y
        · rw [ho] at y; cases y
        · exact absurd y ne
  · rw [getElem?_set_en] at a1 a2
    by_cases e1 : j = i
    · by_cases e2 : l = i
      · exact ne (e1.trans e2.symm)
      · subst e1
        rw [if_neg e2] at a2
        exact rel.ne j l _ _ _ ne hi a2 b1 b2
    · by_cases e2 : l = i
      · subst e2
        rw [if_neg e1] at a1
        exact rel.ne j l _ _ _ ne a1 hi b1 b2
      · rw [if_neg e1] at a1
        rw [if_neg e2] at a2
        exact rel.ne j l _ _ _ ne a1 a2 b1 b2
  · rcases nf a h with z | z | z
    · exact .inl z
    · exact .inr (.inl z)
    · exact .inr (.inr (by rw [z]; exact hw))
  · rw [getElem?_set_en] at h
    by_cases e : 0 = i
    · subst e; exact ⟨c, hi⟩
    · rw [if_neg e] at h; exact ⟨d, h⟩
theorem res_lent {c o : D} {q : Addr} {vs : List V} {ds : List D} {v : V} {b : Bool} {d : D} (rel : Rel X F E σ H) (hi : E[i]? = some (.ow c)) (hs : σ[i]? = some (some (.ref q)))
    (s : Stp X F E σ H F' (E.set i (.ow o)) σ H') (re : ResK X.K X.mg F' (sl0 true (o :: ds)) ((V.ref q :: vs).map some) H' v (rOf b d)) (nw : New (sl0 true (c :: ds)) ((V.ref q :: vs).map some) H v (rOf b d)) :
    Res X F' (E.set i (.ow o)) σ H' v (rOf b d) ∧ New E σ H v (rOf b d) := by
  cases b with
  | false => exact ⟨re, trivial⟩
  | true =>
    obtain ⟨r, rfl, h1, h2, h3⟩ := re
    have nq : r ≠ q := fun e => h2 (by subst e; exact ⟨0, o, by simp [sl0], by simp⟩)
    have hn : H r = none := by
      rcases nw r rfl with z | z
      · exact z
      · obtain ⟨_, ws, e⟩ := own_sl0 z
        cases e
        exact absurd rfl nq
    have no : ¬ Own E σ r := not_own_new rel hn
    exact ⟨⟨r, rfl, h1, fun w => no (own_set_same hi w), h3⟩, fun q' e => by cases e; exact .inl hn⟩
theorem d_callL {x' : Str} {p2 : Pos} (FO : FnOk X.prog X.w X.K X.mg X.base (L2.CX X.prog X.w) k f fd ps (spD X.K X.mg true ps.length G)) (tk : Takes X W) (hr : Room k X.A) (hg : Gl X x) (hm : X.mg x = some (.ref f)) (hk : PySem.W.keepIn X.K (.ref f) = true) (hb : Binds X.K fd ps [])
    (ha : DA X W es fs) (hN : X.N[i]? = some x' := by rfl) (hvis : Vis X.env.scope x' := by first | exact Or.inl rfl | exact Or.inr (Or.inl rfl) | exact Or.inr (Or.inr rfl)) (hd : (x' == ("__debug__" : Str)) = false := by decide) (hcd : (x' == ("__classdict__" : Str)) = false := by decide)
    (hdb : (x == ("__debug__" : Str)) = false := by decide) (he : starEach (.Name x' p2 :: es) X.env = (false, eval (.Name x' p2) X.env) :: starEach es X.env := by rfl) (hpl : (backTo pos (starEach es X.env)).any (·.1) = false := by rfl) :
    DE X W (.Call (.Name x p) (.Name x' p2 :: es) [] pos) (mCallL i ps.length G fs) :=
  ⟨pe_mono (pe_callSD (E := WE W) FO hr hg hm hk hb .nil (fun σ => passAt tk σ) (pa_cons (pe_var hN hvis hd hcd) ha.pa he) hdb he hpl) fun σ H Q ⟨F, E, rel, h⟩ => by
    have h0 := h
    unfold Good mCallL at h
    by_cases hw : isOw i E = true
    · simp only [if_pos hw] at h
      obtain ⟨c0, hc0⟩ := isOw_some hw
      obtain ⟨q, k1, k2, k3⟩ := rel.ow i c0 hc0
      refine ⟨.ref q, k1, F, E, rel, ?_⟩
      unfold GoodA
      cases z : fs E with
      | ok ds E1 =>
        simp only [M.bnd, z] at h
        intro F1 H1 vs s hA
        show spD _ _ _ _ _ ((V.ref q :: vs) ++ []) H1 Q _
        rw [List.append_nil]
        cases z1 : E1[i]? with
        | none => simp only [z1] at h
        | some sl =>
          cases sl with
          | un => simp only [z1] at h
          | fr d => simp only [z1] at h
          | ow c =>
            simp only [z1] at h
            by_cases hz : ds.length + 1 = ps.length
            · simp only [if_pos hz] at h
              refine ⟨F1, c :: ds, hz, by rw [List.length_cons, hA.length]; exact hz, relK_lent s.rel z1 k1 hA, ?_⟩
              cases qg : G (c :: ds) with
              | ret b d o =>
                simp only [qg] at h
                intro F2 H2 v s2 re nw
                have s3 := stp_lent s.rel z1 k1 s2
                obtain ⟨r1, r2⟩ := res_lent s.rel z1 k1 s3 re nw
                exact h F2 H2 v (s.trans s3) r1 (r2.step s)
              | exc x o =>
                simp only [qg] at h
                exact fun F2 H2 c d s2 xo => h F2 H2 c d (s.trans (stp_lent s.rel z1 k1 s2)) xo
              | no => simp only [qg] at h
            · simp only [if_neg hz] at h
      | ex x E1 => simp only [M.bnd, z] at h; exact h
      | no => simp only [M.bnd, z] at h
    · simp only [if_neg hw] at h⟩
end

/-- the state at the entry -/
def enter (l : Bool) (n : Nat) (ds : List D) : En := sl0 l ds ++ List.replicate (n - ds.length) .un
/-- what was lent, at the end -/
def lentO (l : Bool) (E : En) : Option D := if l then (match E[(0 : Nat)]? with
  | some (Sl.ow d) => some d
  | _ => none) else some .non
/-- a body's end as the def's -/
def runD (l : Bool) (n : Nat) (f : M Fl) : Dn := fun ds => match f (enter l n ds) with
  | .ok .nx E => (match lentO l E with
    | some o => .ret false .non o
    | none => .no)
  | .ok (.rt r) E => (match lentO l E with
    | some o => (match r with
      | .fz d => .ret false d o
      | .fs d => .ret true d o
      | .sl i => if l = true ∧ i = 0 then .no else (match E[i]? with
        | some (.fr d) => .ret false d o
        | some (.ow d) => .ret true d o
        | _ => .no))
    | none => .no)
  | .ex x E => (match lentO l E with
    | some o => .exc x o
    | none => .no)
  | _ => .no

section
variable {P : Program} {w : World} {K : PySem.W.Frag} {mg : Str → Option Value} {base : Heap}
theorem start_get {N : List Str} {vs : List V} {i : Nat} {v : Option V} (h : (vs.map some)[i]? = some v) : (L2.start N vs)[i]? = some v := by
  unfold L2.start
  rw [List.getElem?_append_left (by rw [List.length_map]; have := (List.getElem?_eq_some_iff.mp h).1; simpa using this)]
  exact h
theorem enter_get {l : Bool} {n : Nat} {ds : List D} {i : Nat} {s : Sl} (h : (enter l n ds)[i]? = some s) (hs : s ≠ .un) : (sl0 l ds)[i]? = some s := by
  unfold enter at h
  by_cases hl : i < (sl0 l ds).length
  · rw [List.getElem?_append_left hl] at h; exact h
  · rw [List.getElem?_append_right (by omega)] at h
    rw [List.getElem?_replicate] at h
    split at h
    · cases h; exact absurd rfl hs
    · cases h
theorem start_ref {N : List Str} {vs : List V} {i : Nat} {v : V} (h : (L2.start N vs)[i]? = some (some v)) : (vs.map some)[i]? = some (some v) := by
  unfold L2.start at h
  by_cases hl : i < (vs.map some).length
  · rw [List.getElem?_append_left hl] at h; exact h
  · rw [List.getElem?_append_right (by omega), List.getElem?_replicate] at h
    split at h <;> cases h
theorem rel_start {F H : Hp} {l : Bool} {ds : List D} {vs : List V} {N : List Str} (h : RelK K mg F (sl0 l ds) (vs.map some) H) (hn : ds.length ≤ N.length) : RelK K mg F (enter l N.length ds) (L2.start N vs) H := by
  have hv : vs.length = ds.length := by have := h.len; rw [sl0_len, List.length_map] at this; exact this.symm
  refine ⟨h.le, ?_, fun i d q => ?_, fun i d q => ?_, fun i j d d' p ne q1 q2 r1 r2 => ?_⟩
  · unfold enter L2.start
    rw [List.length_append, List.length_append, List.length_replicate, List.length_replicate, sl0_len, List.length_map]
    omega
  · obtain ⟨v, h1, h2⟩ := h.fr i d (enter_get q (fun z => nomatch z))
    exact ⟨v, start_get h1, h2⟩
  · obtain ⟨p, h1, h2, h3⟩ := h.ow i d (enter_get q (fun z => nomatch z))
    exact ⟨p, start_get h1, h2, h3⟩
  · exact h.ne i j d d' p ne (enter_get q1 (fun z => nomatch z)) (enter_get q2 (fun z => nomatch z)) (start_ref r1) (start_ref r2)
theorem own_enter {l : Bool} {ds : List D} {vs : List V} {N : List Str} {a : Addr} : Own (enter l N.length ds) (L2.start N vs) a ↔ Own (sl0 l ds) (vs.map some) a := by
  constructor
  · rintro ⟨i, d, h1, h2⟩
    exact ⟨i, d, enter_get h1 (fun z => nomatch z), start_ref h2⟩
  · rintro ⟨i, d, h1, h2⟩
    refine ⟨i, d, ?_, start_get h2⟩
    unfold enter
    rw [List.getElem?_append_left (List.getElem?_eq_some_iff.mp h1).1]
    exact h1
/-- what the caller gets of a body's steps: q is what was lent -/
theorem stp_leave {F F' H H' : Hp} {E' : En} {σ' : L2.St} {l : Bool} {ds : List D} {vs : List V} {N : List Str} {o : D} (rel : RelK K mg F (sl0 l ds) (vs.map some) H)
    (s : StpK K mg F (enter l N.length ds) (L2.start N vs) H F' E' σ' H') (hl : lentO l E' = some o) :
    StpK K mg F (sl0 l ds) (vs.map some) H F' (sl0 l (back l ds o)) (vs.map some) H' := by
  have kp : ∀ a x, H a = some x → ¬ Own (sl0 l ds) (vs.map some) a → H' a = some x := fun a x h n => s.kept a x h fun w => n (own_enter.mp w)
  have lenB : (back l ds o).length = ds.length := by
    cases l with
    | false => rfl
    | true => cases ds <;> rfl
  refine ⟨⟨s.rel.le, by rw [sl0_len, lenB, ← sl0_len l ds]; exact rel.len, fun i d h => ?_, fun i d h => ?_, fun i j d d' p ne h1 h2 => ?_⟩, s.mono, kp, fun a h => ?_, fun a w => ?_, fun d h => ⟨rfl, ?_⟩⟩
  · have h' : (sl0 l ds)[i]? = some (.fr d) := by
      cases l with
      | false => exact h
      | true =>
        cases ds with
        | nil => exact h
        | cons d0 r =>
          cases i with
          | zero => simp [sl0, back] at h
          | succ i => simpa [sl0, back] using h
    obtain ⟨v, h1, h2⟩ := rel.fr i d h'
    exact ⟨v, h1, h2.mono s.mono⟩
  · obtain ⟨rfl, rfl, r, e⟩ := sl0_ow h
    cases ds with
    | nil => cases e
    | cons d0 r0 =>
      simp only [back, List.cons.injEq] at e
      obtain ⟨rfl, rfl⟩ := e
      obtain ⟨p, h1, h2, h3⟩ := rel.ow 0 d0 (by simp [sl0])
      have hv : ∃ ws, vs = .ref p :: ws := by
        cases vs with
        | nil => simp at h1
        | cons v ws => simp only [List.map_cons, List.getElem?_cons_zero, Option.some.injEq] at h1; exact ⟨ws, by rw [h1]⟩
      obtain ⟨ws, rfl⟩ := hv
      unfold lentO at hl
      simp only [if_true] at hl
      cases z : E'[(0 : Nat)]? with
      | none => simp [z] at hl
      | some sl =>
        cases sl with
        | un => simp [z] at hl
        | fr d => simp [z] at hl
        | ow d =>
          simp only [z, Option.some.injEq] at hl
          subst hl
          obtain ⟨p', q1, q2, q3⟩ := s.rel.ow 0 d z
          rw [(s.z0 d z).1, start_get (v := some (V.ref p)) (by simp)] at q1
          cases q1
          exact ⟨p, h1, q2, q3⟩
  · exact absurd ((sl0_ow h1).2.1.trans (sl0_ow h2).2.1.symm) ne
  · rcases s.fnew a h with z | z | z
    · exact .inl z
    · exact .inr (.inl z)
    · exact .inr (.inr (own_enter.mp z))
  · obtain ⟨i, d, h1, h2⟩ := w
    obtain ⟨rfl, rfl, r, e⟩ := sl0_ow h1
    cases ds with
    | nil => cases e
    | cons d0 r0 => exact .inr ⟨0, d0, by simp [sl0], h2⟩
  · obtain ⟨rfl, _, r, e⟩ := sl0_ow h
    cases ds with
    | nil => cases e
    | cons d0 r0 => exact ⟨d0, by simp [sl0]⟩
end
end DL
-- DM
namespace DL
open PySem PySem.Spec PyProof.Rows L2
section
variable {P : Program} {w : World} {K : PySem.W.Frag} {mg : Str → Option Value} {base : Heap}
/-- the context of a def's body -/
abbrev cxD (P : Program) (w : World) (K : PySem.W.Frag) (mg : Str → Option Value) (base : Heap) (N : List Str) (qual : Str) (st : Stmt) (f : Addr) (cdv : Value) (A : Around) (outer : List Env) (s : Shared) (H : Hp) (E : XK) : Cx :=
  cxOf (L2.CX P w) P w K mg base N qual (defScope st) f cdv A outer s H E
abbrev wxD (E : XK) : WX := fun cls d _ H => E cls d H
theorem lent_not {F F' H H' : Hp} {E' : En} {σ' : L2.St} {l : Bool} {ds : List D} {vs : List V} {N : List Str} {o : D} {p : Addr} (rel : RelK K mg F (sl0 l ds) (vs.map some) H)
    (s : StpK K mg F (enter l N.length ds) (L2.start N vs) H F' E' σ' H') (hl : lentO l E' = some o) (hp : ∀ d, E'[(0 : Nat)]? = some (Sl.ow d) → σ'[(0 : Nat)]? = some (some (V.ref p)) → False) : ¬ Own (sl0 l (back l ds o)) (vs.map some) p := fun z => by
  obtain ⟨rfl, ws, rfl⟩ := own_sl0 z
  unfold lentO at hl
  simp only [if_true] at hl
  cases y : E'[(0 : Nat)]? with
  | none => simp [y] at hl
  | some sl =>
    cases sl with
    | un => simp [y] at hl
    | fr d => simp [y] at hl
    | ow d => exact hp d y (by rw [(s.z0 d y).1]; exact start_get (by simp))
theorem ends_ok {F H : Hp} {l : Bool} {ds : List D} {vs : List V} {N : List Str} {den : M Fl} {X : Cx} {Q : VK} {E : XK} (eK : X.K = K) (eM : X.mg = mg) (rel : RelK K mg F (sl0 l ds) (vs.map some) H)
    (h : match runD l N.length den ds with
      | .ret b d o => ∀ F' H' v, StpK K mg F (sl0 l ds) (vs.map some) H F' (sl0 l (back l ds o)) (vs.map some) H' → ResK K mg F' (sl0 l (back l ds o)) (vs.map some) H' v (rOf b d) → New (sl0 l ds) (vs.map some) H v (rOf b d) → Q v H'
      | .exc x o => ∀ F' H' cls d, StpK K mg F (sl0 l ds) (vs.map some) H F' (sl0 l (back l ds o)) (vs.map some) H' → XnK K mg F' H' cls d x → E cls d H'
      | .no => False) :
    GoodS X (wxD E) F (enter l N.length ds) (L2.start N vs) H den { nx := fun _ H' => Q .non H', rt := Q } := by
  subst eK eM
  unfold GoodS
  unfold runD at h
  cases q : den (enter l N.length ds) with
  | ok fl E' =>
    rw [q] at h
    cases fl with
    | bk => exact h.elim
    | ct => exact h.elim
    | nx =>
      simp only at h
      intro F' σ' H' s
      cases hl : lentO l E' with
      | none => simp only [hl] at h
      | some o => simp only [hl] at h; exact h F' H' .non (stp_leave rel s hl) .non trivial
    | rt r =>
      simp only at h
      intro F' σ' H' v s re nw
      cases hl : lentO l E' with
      | none => simp only [hl] at h
      | some o =>
        simp only [hl] at h
        cases r with
        | fz d => simp only at h; exact h F' H' v (stp_leave rel s hl) re trivial
        | fs d =>
          simp only at h
          obtain ⟨p, rfl, h1, h2, h3⟩ := re
          refine h F' H' _ (stp_leave rel s hl) ⟨p, rfl, h1, lent_not rel s hl fun d hd e => h2 ⟨0, d, hd, e⟩, h3⟩ fun p' e => ?_
          cases e
          rcases nw p rfl with z | z
          · exact .inl z
          · exact .inr (own_enter.mp z)
        | sl i =>
          simp only at h
          by_cases hc : l = true ∧ i = 0
          · simp only [if_pos hc] at h
          · simp only [if_neg hc] at h
            have hv : σ'[i]? = some (some v) := re
            cases z : E'[i]? with
            | none => simp only [z] at h
            | some sl =>
              cases sl with
              | un => simp only [z] at h
              | fr d =>
                simp only [z] at h
                obtain ⟨u, h1, h2⟩ := s.rel.fr i d z
                rw [hv] at h1
                cases h1
                exact h F' H' v (stp_leave rel s hl) h2 trivial
              | ow d =>
                simp only [z] at h
                obtain ⟨p, h1, h2, h3⟩ := s.rel.ow i d z
                rw [hv] at h1
                cases h1
                refine h F' H' _ (stp_leave rel s hl) ⟨p, rfl, h2, fun y => ?_, h3⟩ fun p' e => ?_
                · obtain ⟨hlt, _⟩ := own_sl0 y
                  have i0 : i ≠ 0 := fun e => hc ⟨hlt, e⟩
                  exact lent_not rel s hl (fun d0 hd e => s.rel.ne i 0 d d0 p i0 z hd hv e) y
                · cases e
                  rcases s.onew p ⟨i, d, z, hv⟩ with y | y
                  · exact .inl y
                  · exact .inr (own_enter.mp y)
  | ex x E' =>
    rw [q] at h
    simp only at h
    intro F' σ' H' cls d s xo
    cases hl : lentO l E' with
    | none => simp only [hl] at h
    | some o => simp only [hl] at h; exact h F' H' cls d (stp_leave rel s hl) xo
  | no => rw [q] at h; exact h.elim
/-- THE RULE for a def -/
theorem okD {x qual : Str} {st : Stmt} {f : Addr} {fd : FuncData} {N ps : List Str} {k : Nat} (l : Bool) (F : Fun K x qual st f fd) (S : FnScope N ps (defScope st)) (hN : ps.length ≤ N.length) {den : M Fl}
    (hb : ∀ (cdv : Value) (A : Around) (outer : List Env) (s : Shared) (H : Hp) (E : XK), Room k (A.deeper (envOfC qual (defScope st) s.heap.objs.size f cdv)) → DB (cxD P w K mg base N qual st f cdv A outer s H E) (wxD E) (defBody st) den) :
    FnOk P w K mg base (L2.CX P w) (k + 1) f fd ps (spD K mg l ps.length (runD l N.length den)) :=
  F.okX S (fun vs H Q E h => spD_len h) fun cdv A outer s H vs Q E hr h => by
    obtain ⟨F0, ds, h1, h2, rel, h3⟩ := h
    exact ⟨_, (hb cdv A outer s H E hr).pss, F0, enter l N.length ds, rel_start rel (by omega), ends_ok rfl rfl rel h3⟩
theorem okD' {x qual : Str} {st : Stmt} {f : Addr} {fd : FuncData} {N ps : List Str} {k : Nat} (l : Bool) (G : Dn) (F : Fun K x qual st f fd) (S : FnScope N ps (defScope st)) (hN : ps.length ≤ N.length) {den : M Fl}
    (hb : ∀ (cdv : Value) (A : Around) (outer : List Env) (s : Shared) (H : Hp) (E : XK), Room k (A.deeper (envOfC qual (defScope st) s.heap.objs.size f cdv)) → DB (cxD P w K mg base N qual st f cdv A outer s H E) (wxD E) (defBody st) den)
    (hG : ∀ ds, ds.length = ps.length → G ds ≠ .no → runD l N.length den ds = G ds) :
    FnOk P w K mg base (L2.CX P w) (k + 1) f fd ps (spD K mg l ps.length G) := (okD l F S hN hb).imp (spD_imp hG)
theorem takesD {N : List Str} {qual : Str} {st : Stmt} {f : Addr} {cdv : Value} {A : Around} {outer : List Env} {s : Shared} {H : Hp} {E : XK} : Takes (cxD P w K mg base N qual st f cdv A outer s H E) (wxD E) := takes_of rfl rfl rfl rfl
theorem passesD {N : List Str} {qual : Str} {st : Stmt} {f : Addr} {cdv : Value} {A : Around} {outer : List Env} {s : Shared} {H : Hp} {E : XK} : PassesOwn (model (cxD P w K mg base N qual st f cdv A outer s H E).prog (cxD P w K mg base N qual st f cdv A outer s H E).w) (cxD P w K mg base N qual st f cdv A outer s H E).A (cxD P w K mg base N qual st f cdv A outer s H E).env (cxD P w K mg base N qual st f cdv A outer s H E).xe := passes_of rfl
end
end DL
-- DN
namespace DL
open PySem PySem.Spec PyProof.Rows L2
section
variable {X : Cx} {W : WX} {F F1 F' : Hp} {E E1 E' : En} {σ σ1 σ' : L2.St} {H H1 H' : Hp}
abbrev W0 : WX := fun _ _ _ _ => False
def wipeE (E : En) : List Nat → En
  | [] => E
  | v :: vs => (wipeE E vs).set v .un
theorem wipeE_len (E : En) : ∀ vs : List Nat, (wipeE E vs).length = E.length
  | [] => rfl
  | v :: vs => by unfold wipeE; rw [List.length_set, wipeE_len E vs]
theorem wipeE_in {E : En} {j : Nat} : ∀ {vs : List Nat}, j ∈ vs → ∀ {s : Sl}, (wipeE E vs)[j]? = some s → s = .un
  | v :: vs, hj, s, h => by
    unfold wipeE at h
    rw [getElem?_set_en] at h
    by_cases e : j = v
    · rw [if_pos e] at h
      split at h <;> cases h
      rfl
    · rw [if_neg e] at h
      exact wipeE_in ((List.mem_cons.mp hj).resolve_left e) h
theorem wipeE_out {E : En} {j : Nat} : ∀ {vs : List Nat}, j ∉ vs → (wipeE E vs)[j]? = E[j]?
  | [], _ => rfl
  | v :: vs, hj => by
    unfold wipeE
    rw [getElem?_set_en, if_neg (fun e => hj (by rw [e]; exact List.mem_cons_self))]
    exact wipeE_out fun h => hj (List.mem_cons_of_mem _ h)
theorem wipe_out {σ : L2.St} {j : Nat} : ∀ {vs : List Nat}, j ∉ vs → (wipe σ vs)[j]? = σ[j]?
  | [], _ => rfl
  | v :: vs, hj => by
    unfold wipe
    rw [List.getElem?_set_ne (fun e => hj (by rw [← e]; exact List.mem_cons_self))]
    exact wipe_out fun h => hj (List.mem_cons_of_mem _ h)
theorem wipeE_some {E : En} {j : Nat} {vs : List Nat} {s : Sl} (h : (wipeE E vs)[j]? = some s) (n : s ≠ .un) : j ∉ vs ∧ E[j]? = some s := by
  by_cases hj : j ∈ vs
  · exact absurd (wipeE_in hj h) n
  · rw [wipeE_out hj] at h; exact ⟨hj, h⟩
theorem own_wipe {vs : List Nat} {a : Addr} (w : Own (wipeE E vs) (wipe σ vs) a) : Own E σ a := by
  obtain ⟨i, d, h1, h2⟩ := w
  obtain ⟨hj, h1⟩ := wipeE_some h1 (fun z => nomatch z)
  rw [wipe_out hj] at h2
  exact ⟨i, d, h1, h2⟩
theorem rel_wipe (vs : List Nat) (r : Rel X F E σ H) : Rel X F (wipeE E vs) (wipe σ vs) H := by
  refine ⟨r.le, by rw [wipeE_len, wipe_length]; exact r.len, fun i d h => ?_, fun i d h => ?_, fun i j d d' p ne h1 h2 q1 q2 => ?_⟩
  · obtain ⟨hj, h1⟩ := wipeE_some h (fun z => nomatch z)
    rw [wipe_out hj]
    exact r.fr i d h1
  · obtain ⟨hj, h1⟩ := wipeE_some h (fun z => nomatch z)
    rw [wipe_out hj]
    exact r.ow i d h1
  · obtain ⟨hi, h1⟩ := wipeE_some h1 (fun z => nomatch z)
    obtain ⟨hj, h2⟩ := wipeE_some h2 (fun z => nomatch z)
    rw [wipe_out hi] at q1
    rw [wipe_out hj] at q2
    exact r.ne i j d d' p ne h1 h2 q1 q2
/-- the block's names forgotten, behind a base -/
theorem stp_wipe {F0 : Hp} {E0 : En} {σ0 : L2.St} {H0 : Hp} (vs : List Nat) (s : Stp X F0 E0 σ0 H0 F E σ H) : Stp X F0 E0 σ0 H0 F (wipeE E vs) (wipe σ vs) H :=
  ⟨rel_wipe vs s.rel, s.mono, s.kept, s.fnew, fun a w => s.onew a (own_wipe w), fun d h => by
    obtain ⟨hj, h1⟩ := wipeE_some h (fun z => nomatch z)
    obtain ⟨e, d0, h0⟩ := s.z0 d h1
    exact ⟨by rw [wipe_out hj]; exact e, d0, h0⟩⟩
/-- a free object changes -/
theorem stp_updN {F0 : Hp} {E0 : En} {σ0 : L2.St} {H0 : Hp} {p : Addr} {o : HO} (s : Stp X F0 E0 σ0 H0 F E σ H) (n : F p = none) (w : ¬ Own E σ p) (n0 : H0 p = none) : Stp X F0 E0 σ0 H0 F E σ (upd H p o) :=
  ⟨⟨fun b x h => by rw [upd_ne (ne_of_none h n)]; exact s.rel.le b x h, s.rel.len, s.rel.fr, fun i d h => by
      obtain ⟨q, h1, h2, h3⟩ := s.rel.ow i d h
      exact ⟨q, h1, h2, h3.mono (Same.refl F) (upd_ne fun e => w ⟨i, d, h, by rw [← e]; exact h1⟩)⟩, s.rel.ne⟩,
    s.mono, fun a x h nw => by rw [upd_ne (ne_of_none h n0)]; exact s.kept a x h nw, s.fnew, s.onew, s.z0⟩
theorem free_kept {p : Addr} {o : HO} (s : Stp X F E σ H F' E' σ' H') (n : F p = none) (w : ¬ Own E σ p) (h : H p = some o) : F' p = none ∧ ¬ Own E' σ' p ∧ H' p = some o := by
  have no : ¬ (H p = none ∨ Own E σ p) := by
    rintro (q | q)
    · rw [h] at q; cases q
    · exact w q
  refine ⟨?_, fun q => no (s.onew p q), s.kept p o h w⟩
  cases q : F' p with
  | none => rfl
  | some u =>
    rcases s.fnew p (by rw [q]; exact fun z => nomatch z) with z | z
    · exact absurd n z
    · exact absurd z no

/-- the loop: own: the block's names; acc: what is made so far -/
def lcGo (own : List Nat) (g : D → B) (t : M Bool) (f : M R) : List D → List D → M (List D)
  | acc, [] => M.ret acc
  | acc, d :: ds => fun E => match g d E with
    | none => .no
    | some E1 => match t E1 with
      | .ok false E2 => lcGo own g t f acc ds (wipeE E2 own)
      | .ok true E2 => (match f E2 with
        | .ok r E3 => (match take r E3 with
          | .ok v E4 => if acc.length < 100000 then lcGo own g t f (acc ++ [v]) ds (wipeE E4 own) else .no
          | _ => .no)
        | _ => .no)
      | _ => .no
def rest0 (own : List Nat) (E0 E : En) : En := own.foldr (fun i e => match E0[i]? with
  | some s => e.set i s
  | none => e) E
def noOwn (own : List Nat) (E : En) : Bool := own.all fun i => !isOw i E
def mLc (own : List Nat) (it : M (List D)) (g : D → B) (t : M Bool) (f : M R) : M R := M.bnd it fun ds => fun E => if noOwn own E = true then (match lcGo own g t f [] ds (wipeE E own) with
  | .ok acc E' => .ok (.fs (.lst acc)) (rest0 own E E')
  | _ => .no) else .no
theorem rest0_len (own : List Nat) (E0 E : En) : (rest0 own E0 E).length = E.length := by
  induction own with
  | nil => rfl
  | cons i r ih =>
    unfold rest0 at ih ⊢
    rw [List.foldr_cons]
    split
    · rw [List.length_set]; exact ih
    · exact ih
theorem rest0_get {own : List Nat} {E0 E : En} (hl : E0.length = E.length) {j : Nat} : (rest0 own E0 E)[j]? = if j ∈ own then E0[j]? else E[j]? := by
  induction own with
  | nil => simp [rest0]
  | cons i r ih =>
    have key : (rest0 (i :: r) E0 E)[j]? = match E0[i]? with
      | some s => ((rest0 r E0 E).set i s)[j]?
      | none => (rest0 r E0 E)[j]? := by
      show (match E0[i]? with | some s => (rest0 r E0 E).set i s | none => rest0 r E0 E)[j]? = _
      split <;> rfl
    rw [key]
    cases z : E0[i]? with
    | some s =>
      have hlt : i < E0.length := (List.getElem?_eq_some_iff.mp z).1
      simp only
      rw [getElem?_set_en, rest0_len]
      by_cases e : j = i
      · subst e
        rw [if_pos rfl, if_pos (by omega), if_pos List.mem_cons_self, z]
      · rw [if_neg e, ih]
        simp only [List.mem_cons, e, false_or]
    | none =>
      simp only
      rw [ih]
      by_cases e : j = i
      · subst e
        have : E.length ≤ j := by rw [← hl]; exact List.getElem?_eq_none_iff.mp z
        simp only [List.mem_cons, true_or, if_true, z]
        split
        · rfl
        · exact List.getElem?_eq_none_iff.mpr this
      · simp only [List.mem_cons, e, false_or]
theorem noOwn_not {own : List Nat} (h : noOwn own E = true) {i : Nat} (hi : i ∈ own) {d : D} : E[i]? ≠ some (.ow d) := fun z => by
  have := List.all_eq_true.mp h i hi
  simp [isOw, z] at this
/-- the block is left: its names stand as they stood -/
theorem stp_rest {own : List Nat} (hn : noOwn own E = true) (rel : Rel X F E σ H) (s : Stp X F (wipeE E own) (wipe σ own) H F' E' (wipe σ own) H') : Stp X F E σ H F' (rest0 own E E') σ H' := by
  have hl : E.length = E'.length := by
    have h1 := s.rel.len
    rw [wipe_length] at h1
    rw [rel.len, h1]
  have own1 : ∀ a, Own (wipeE E own) (wipe σ own) a → Own E σ a := fun a w => own_wipe w
  have own2 : ∀ a, Own (rest0 own E E') σ a → Own E' (wipe σ own) a := fun a w => by
    obtain ⟨i, d, h1, h2⟩ := w
    rw [rest0_get hl] at h1
    by_cases hi : i ∈ own
    · rw [if_pos hi] at h1; exact absurd h1 (noOwn_not hn hi)
    · rw [if_neg hi] at h1; exact ⟨i, d, h1, by rw [wipe_out hi]; exact h2⟩
  refine ⟨⟨s.rel.le, by rw [rest0_len, ← hl]; exact rel.len, fun i d h => ?_, fun i d h => ?_, fun i j d d' p ne h1 h2 q1 q2 => ?_⟩, s.mono, fun a o h n => s.kept a o h fun w => n (own1 a w), fun a h => ?_, fun a w => ?_, fun d h => ?_⟩
  · rw [rest0_get hl] at h
    by_cases hi : i ∈ own
    · rw [if_pos hi] at h
      obtain ⟨v, h1, h2⟩ := rel.fr i d h
      exact ⟨v, h1, h2.mono s.mono⟩
    · rw [if_neg hi] at h
      obtain ⟨v, h1, h2⟩ := s.rel.fr i d h
      rw [wipe_out hi] at h1
      exact ⟨v, h1, h2⟩
  · rw [rest0_get hl] at h
    by_cases hi : i ∈ own
    · rw [if_pos hi] at h; exact absurd h (noOwn_not hn hi)
    · rw [if_neg hi] at h
      obtain ⟨v, h1, h2⟩ := s.rel.ow i d h
      rw [wipe_out hi] at h1
      exact ⟨v, h1, h2⟩
  · rw [rest0_get hl] at h1 h2
    by_cases hi : i ∈ own
    · rw [if_pos hi] at h1; exact absurd h1 (noOwn_not hn hi)
    · by_cases hj : j ∈ own
      · rw [if_pos hj] at h2; exact absurd h2 (noOwn_not hn hj)
      · rw [if_neg hi] at h1
        rw [if_neg hj] at h2
        exact s.rel.ne i j d d' p ne h1 h2 (by rw [wipe_out hi]; exact q1) (by rw [wipe_out hj]; exact q2)
  · rcases s.fnew a h with z | z | z
    · exact .inl z
    · exact .inr (.inl z)
    · exact .inr (.inr (own1 a z))
  · rcases s.onew a (own2 a w) with z | z
    · exact .inl z
    · exact .inr (own1 a z)
  · rw [rest0_get hl] at h
    by_cases hi : 0 ∈ own
    · rw [if_pos hi] at h; exact absurd h (noOwn_not hn hi)
    · rw [if_neg hi] at h
      obtain ⟨_, d0, h0⟩ := s.z0 d h
      obtain ⟨_, h1⟩ := wipeE_some h0 (fun z => nomatch z)
      exact ⟨rfl, d0, h1⟩

structure DTs (X : Cx) (W : WX) (ifs : List Expr) (t : M Bool) : Prop where
  pts : PTs X ifs (rdT X W t)
theorem pts_mono {ifs : List Expr} {t t' : TT} (h : PTs X ifs t) (m : ∀ σ H Q, t' σ H Q → t σ H Q) : PTs X ifs t' := ⟨fun pins s σ H Q I q => h.run pins s σ H Q I (m σ H Q q)⟩
theorem ts_nil : DTs X W [] (M.ret true) := ⟨pts_mono pts_nil fun σ H Q ⟨F, E, rel, g⟩ => g.fin rel rfl⟩
theorem ts_one {c : Expr} {t : M Bool} (h : DT X W c t) : DTs X W [c] t := ⟨pts_one h.pt⟩

/-- targets of a block: they write its own names alone -/
def Agree (own : List Nat) (σ σ' : L2.St) : Prop := σ'.length = σ.length ∧ ∀ j, j ∉ own → σ'[j]? = σ[j]?
theorem Agree.refl (own : List Nat) (σ : L2.St) : Agree own σ σ := ⟨rfl, fun _ _ => rfl⟩
theorem Agree.trans {own : List Nat} {σ σ1 σ2 : L2.St} (a : Agree own σ σ1) (b : Agree own σ1 σ2) : Agree own σ σ2 := ⟨b.1.trans a.1, fun j h => (b.2 j h).trans (a.2 j h)⟩
theorem wipe_in {j : Nat} : ∀ {vs : List Nat} {τ : L2.St}, j ∈ vs → (wipe τ vs)[j]? = if j < τ.length then some none else none
  | v :: r, τ, hj => by
    unfold wipe
    by_cases e : j = v
    · subst e
      by_cases hl : j < τ.length
      · rw [if_pos hl, List.getElem?_set_self (by rw [wipe_length]; exact hl)]
      · rw [if_neg hl]; exact List.getElem?_eq_none_iff.mpr (by rw [List.length_set, wipe_length]; omega)
    · rw [List.getElem?_set_ne (Ne.symm e)]
      exact wipe_in ((List.mem_cons.mp hj).resolve_left e)
theorem wipe_eq {own : List Nat} {σ σ' : L2.St} (a : Agree own σ σ') : wipe σ' own = wipe σ own := by
  apply List.ext_getElem?
  intro j
  by_cases hj : j ∈ own
  · rw [wipe_in hj, wipe_in hj, a.1]
  · rw [wipe_out hj, wipe_out hj, a.2 j hj]
theorem wipe_wipe (σ : L2.St) (own : List Nat) : wipe (wipe σ own) own = wipe σ own := wipe_eq ⟨wipe_length σ own, fun j h => wipe_out h⟩
def GoodW (X : Cx) (own : List Nat) (F : Hp) (E : En) (σ : L2.St) (H : Hp) (f : B) (Q : L2.St → Hp → Prop) : Prop := match f E with
  | some E' => ∀ F' σ' H', Stp X F E σ H F' E' σ' H' → Agree own σ σ' → Q σ' H'
  | none => False
def rdG (X : Cx) (own : List Nat) (f : D → B) : TG := fun v σ H Q => ∃ F E d, Rel X F E σ H ∧ Is X.K X.mg F v d ∧ GoodW X own F E σ H (f d) Q
structure DGw (X : Cx) (own : List Nat) (tg : Expr) (f : D → B) : Prop where
  pg : PG X tg (rdG X own f)
structure DGws (X : Cx) (own : List Nat) (ts : List Expr) (f : List D → B) : Prop where
  pgs : PGs X ts fun vs σ H Q => ∃ F E ds, Rel X F E σ H ∧ IsAll X.K X.mg F vs ds ∧ GoodW X own F E σ H (f ds) Q
variable {own : List Nat} {pos : Pos} {e : Expr} {es : List Expr}
theorem gw_name {i : Nat} {x : Str} (hN : X.N.Nodup) (hi : X.N[i]? = some x) (hx : Loc X.env.scope x) (ho : i ∈ own := by decide) (hf : X.fn x = true ∨ X.env.scope.names.lookup x = some .local := by first | exact .inl rfl | exact .inr rfl | assumption) : DGw X own (.Name x pos) (bName i) :=
  ⟨pg_mono (pg_name hN hi hx hf) fun v σ H Q ⟨F, E, d, rel, hI, g⟩ => by
    unfold GoodW bName at g
    by_cases hl : i < E.length
    · simp only [if_pos hl] at g
      exact g F _ H (Stp.setFr rel hI hl) ⟨by rw [List.length_set], fun j hj => by rw [List.getElem?_set_ne (fun e => hj (by rw [← e]; exact ho))]⟩
    · simp only [if_neg hl] at g⟩
theorem gws_nil : DGws X own [] bNil := ⟨pgs_mono pgs_nil fun vs σ H Q ⟨F, E, ds, rel, hA, g⟩ => by
  cases hA with
  | nil => exact ⟨rfl, g F σ H (Stp.refl rel) (Agree.refl own σ)⟩
  | cons _ _ => exact g.elim⟩
theorem gws_cons {f : D → B} {g : List D → B} (h1 : DGw X own e f) (h2 : DGws X own es g) (hs : (assignEach (e :: es) X.env).map (·.2) = assign e X.env :: (assignEach es X.env).map (·.2) := by rfl) : DGws X own (e :: es) (bCons f g) :=
  ⟨pgs_mono (pgs_cons h1.pg h2.pgs hs) fun vs σ H Q ⟨F, E, ds, rel, hA, q⟩ => by
    cases hA with
    | nil => exact q.elim
    | @cons v vs d ds hI hA =>
      refine ⟨v, vs, rfl, F, E, d, rel, hI, ?_⟩
      unfold GoodW bCons at q
      unfold GoodW
      cases z : f d E with
      | some E1 =>
        simp only [z, Option.bind_some] at q
        intro F1 σ1 H1 s a
        refine ⟨F1, E1, ds, s.rel, hA.mono s.mono, ?_⟩
        show GoodW X own F1 E1 σ1 H1 (g ds) Q
        unfold GoodW
        cases z2 : g ds E1 with
        | some E2 => simp only [z2] at q; exact fun F2 σ2 H2 s2 a2 => q F2 σ2 H2 (s.trans s2) (a.trans a2)
        | none => simp only [z2] at q
      | none => simp only [z, Option.bind_none] at q⟩
theorem gw_tup {k : Nat} {n : Nat} {f : List D → B} (hc : X.calm = true) (h : DGws X own es f) (hn : (assignEach es X.env).length = n := by rfl) (hst : (assignEach es X.env).findIdx? (·.1) = none := by rfl) : DGw X own (.Tuple es k pos) (bTup n f) :=
  ⟨pg_mono (pg_tup hc h.pgs hn hst) fun v σ H Q ⟨F, E, d, rel, hI, g⟩ => by
    cases hI with
    | @tup a vs ds q r =>
      unfold bTup at g
      by_cases hl : ds.length = n
      · simp only [if_pos hl] at g
        exact ⟨a, vs, rfl, tupS rel.le q, by rw [r.length]; exact hl, F, E, ds, rel, r, g⟩
      · simp only [if_neg hl] at g; exact g.elim
    | _ => exact g.elim⟩
theorem own_rest (hn : noOwn own E = true) (hl : E.length = E'.length) {a : Addr} (w : Own (rest0 own E E') σ a) : Own E' (wipe σ own) a := by
  obtain ⟨i, d, h1, h2⟩ := w
  rw [rest0_get hl] at h1
  by_cases hi : i ∈ own
  · rw [if_pos hi] at h1; exact absurd h1 (noOwn_not hn hi)
  · rw [if_neg hi] at h1; exact ⟨i, d, h1, by rw [wipe_out hi]; exact h2⟩
section
variable {own : List Nat} {g : D → B} {t : M Bool} {f : M R} {acc ds : List D} {d v : D} {r : R} {E0 E3 E4 E5 E6 : En}
theorem lcGo_none (z : g d E0 = none) : lcGo own g t f acc (d :: ds) E0 = .no := by
  simp only [lcGo, z]
theorem lcGo_false (z : g d E0 = some E3) (zt : t E3 = .ok false E4) : lcGo own g t f acc (d :: ds) E0 = lcGo own g t f acc ds (wipeE E4 own) := by
  rw [lcGo]; simp only [z, zt]
theorem lcGo_true (z : g d E0 = some E3) (zt : t E3 = .ok true E4) (zf : f E4 = .ok r E5) (zk : take r E5 = .ok v E6) : lcGo own g t f acc (d :: ds) E0 = if acc.length < 100000 then lcGo own g t f (acc ++ [v]) ds (wipeE E6 own) else .no := by
  rw [lcGo]; simp only [z, zt, zf, zk]
theorem lcGo_nok (z : g d E0 = some E3) (zt : t E3 = .ok true E4) (zf : f E4 = .ok r E5) (zk : take r E5 = .no) : lcGo own g t f acc (d :: ds) E0 = .no := by
  rw [lcGo]; simp only [z, zt, zf, zk]
theorem lcGo_nof (z : g d E0 = some E3) (zt : t E3 = .ok true E4) (zf : ∀ r e, f E4 ≠ .ok r e) : lcGo own g t f acc (d :: ds) E0 = .no := by
  rw [lcGo]; simp only [z, zt]
theorem lcGo_not (z : g d E0 = some E3) (zt : ∀ b e, t E3 ≠ .ok b e) : lcGo own g t f acc (d :: ds) E0 = .no := by
  rw [lcGo]; simp only [z]
  cases q : t E3 with
  | ok b e => exact absurd q (zt b e)
  | ex x e => rfl
  | no => rfl
end
def rdI (X : Cx) (W : WX) (it : M (List D)) : TI := fun σ H R => ∃ F E, Rel X F E σ H ∧ GoodI X W F E σ H it R
/-- the core: from what the comprehension does to a state to its reading -/
theorem lc_ok {it : M (List D)} {g : D → B} {t : M Bool} {f : M R} {Q : VK} (rel : Rel X F E σ H) (h : Good X W F E σ H (mLc own it g t f) Q) :
    tLc (rdI X W it) (rdG X own g) (rdT X W0 t) (rdE X W0 f) own σ H Q := by
  refine ⟨F, E, rel, ?_⟩
  have h0 := h
  unfold Good mLc at h
  unfold GoodI
  cases q : it E with
  | ok ds E1 =>
    simp only [M.bnd, q] at h
    intro F1 H1 J s w D0 hD
    by_cases hn : noOwn own E1 = true
    · simp only [if_pos hn] at h
      have sb : Stp X F1 E1 σ H1 F1 (wipeE E1 own) (wipe σ own) H1 := stp_wipe own (Stp.refl s.rel)
      have rb := sb.rel
      refine ⟨fun i m H' => m = ds.length - i ∧ i ≤ ds.length ∧ ∃ F' E' acc ws, Stp X F1 (wipeE E1 own) (wipe σ own) H1 F' E' (wipe σ own) H' ∧ F' D0 = none ∧ ¬ Own E' (wipe σ own) D0 ∧ H' D0 = some (.lst ws) ∧ IsAll X.K X.mg F' ws acc ∧
          lcGo own g t f acc (ds.drop i) E' = lcGo own g t f [] ds (wipeE E1 own), ⟨ds.length, by simp, Nat.zero_le _, F1, wipeE E1 own, [], [], ?_⟩, fun i m H' hW => ?_⟩
      · have n1 : F1 D0 = none := rb.le.free hD
        have n2 : ¬ Own (wipeE E1 own) (wipe σ own) D0 := not_own_new rb hD
        exact ⟨stp_updN (Stp.refl rb) n1 n2 hD, n1, n2, upd_same, .nil, rfl⟩
      · obtain ⟨rfl, hle, F', E', acc, ws, s1, n1, n2, hH, hA, heq⟩ := hW
        have sF : Same F1 F' := s1.mono
        have sH : Same F1 H' := sF.trans s1.rel.le
        by_cases hlt : i < ds.length
        · rw [List.drop_eq_getElem_cons hlt] at heq
          refine .inr ⟨w.go i H' sH hlt, fun H2 => ∃ F' E' acc ws, Stp X F1 (wipeE E1 own) (wipe σ own) H1 F' E' (wipe σ own) H2 ∧ F' D0 = none ∧ ¬ Own E' (wipe σ own) D0 ∧ H2 D0 = some (.lst ws) ∧ IsAll X.K X.mg F' ws acc ∧
            lcGo own g t f acc (ds.drop (i + 1)) E' = lcGo own g t f [] ds (wipeE E1 own), fun H2 hN => ⟨ds.length - (i + 1), by omega, rfl, hlt, hN⟩, fun x H2 hy => ?_⟩
          obtain ⟨d, hd, hd2⟩ := w.yld i H' x H2 sH hlt hy
          rw [List.getElem?_eq_getElem hlt] at hd
          cases hd
          obtain ⟨F2, s2, hI⟩ : ∃ F2, Stp X F' E' (wipe σ own) H' F2 E' (wipe σ own) H2 ∧ Is X.K X.mg F2 x ds[i] := by
            rcases hd2 with ⟨rfl, hI⟩ | ⟨p, o, rfl, hp, rfl, hI⟩
            · exact ⟨F', Stp.refl s1.rel, hI.mono sF⟩
            · refine ⟨upd F' p o, Stp.allocF s1.rel hp, hI.mono fun b z q => ?_⟩
              by_cases e : b = p
              · subst e; rw [upd_same] at q ⊢; exact q
              · rw [upd_ne e] at q ⊢; exact sF b z q
          obtain ⟨a0, b0, hZ⟩ : ∃ a b, lcGo own g t f [] ds (wipeE E1 own) = .ok a b := by
            cases z : lcGo own g t f [] ds (wipeE E1 own) with
            | ok a b => exact ⟨a, b, rfl⟩
            | ex x e => simp only [z] at h
            | no => simp only [z] at h
          rw [hZ] at heq ⊢
          refine ⟨F2, E', ds[i], s2.rel, hI, ?_⟩
          unfold GoodW
          cases z : g ds[i] E' with
          | none => rw [lcGo_none z] at heq; cases heq
          | some E3 =>
            intro F3 σ3 H3 s3 ag
            have ew : wipe σ3 own = wipe σ own := (wipe_eq ag).trans (wipe_wipe σ own)
            refine ⟨ew, F3, E3, s3.rel, ?_⟩
            have s23 := s2.trans s3
            unfold GoodB
            cases zt : t E3 with
            | ok b E4 =>
              simp only
              intro F4 H4 s4
              have s24 := s23.trans s4
              cases b with
              | false =>
                rw [lcGo_false z zt] at heq
                simp only [Bool.false_eq_true, if_false]
                obtain ⟨m1, m2, m3⟩ := free_kept s24 n1 n2 hH
                have s5 := stp_wipe own (s1.trans s24)
                rw [ew] at s5
                exact ⟨F4, wipeE E4 own, acc, ws, s5, m1, fun wn => m2 (own_wipe (vs := own) (by rw [ew]; exact wn)), m3, hA.mono s24.mono, heq⟩
              | true =>
                simp only [if_true]
                refine ⟨F4, E4, s4.rel, ?_⟩
                unfold Good
                cases zf : f E4 with
                | ok r E5 =>
                  simp only
                  intro F5 H5 y s5 re nw
                  cases zk : take r E5 with
                  | ok v E6 =>
                    obtain ⟨F6, s6, hI6⟩ := take_ok s5 re nw zk
                    have s26 := s24.trans s6
                    obtain ⟨m1, m2, m3⟩ := free_kept s26 n1 n2 hH
                    by_cases hl : acc.length < 100000
                    · rw [lcGo_true z zt zf zk, if_pos hl] at heq
                      refine ⟨ws, m3, line_lt (by rw [hA.length]; exact hl), F6, wipeE E6 own, acc ++ [v], ws ++ [y], ?_, m1, fun wn => m2 (own_wipe (vs := own) (by rw [ew]; exact wn)), upd_same, (hA.mono s26.mono).append (.cons hI6 .nil), heq⟩
                      have s7 := stp_wipe own (s1.trans s26)
                      rw [ew] at s7
                      exact stp_updN s7 m1 (fun wn => m2 (own_wipe (vs := own) (by rw [ew]; exact wn))) hD
                    · rw [lcGo_true z zt zf zk, if_neg hl] at heq; cases heq
                  | ex x e => exact (take_no zk).elim
                  | no => rw [lcGo_nok z zt zf zk] at heq; cases heq
                | ex x e => rw [lcGo_nof z zt (by rw [zf]; exact fun _ _ y => nomatch y)] at heq; cases heq
                | no => rw [lcGo_nof z zt (by rw [zf]; exact fun _ _ y => nomatch y)] at heq; cases heq
            | ex x e => rw [lcGo_not z (by rw [zt]; exact fun _ _ y => nomatch y)] at heq; cases heq
            | no => rw [lcGo_not z (by rw [zt]; exact fun _ _ y => nomatch y)] at heq; cases heq
        · refine .inl ⟨w.stop i H' sH (by omega), ?_⟩
          rw [List.drop_of_length_le (by omega)] at heq
          have heq' : lcGo own g t f [] ds (wipeE E1 own) = .ok acc E' := heq.symm
          simp only [heq'] at h
          have s4 := stp_rest hn s.rel s1
          have hl : E1.length = E'.length := by
            have h1 := s1.rel.len
            rw [wipe_length] at h1
            rw [s.rel.len, h1]
          exact h F' H' _ (s.trans s4) ⟨D0, rfl, n1, fun wn => n2 (own_rest hn hl wn), ⟨ws, hH, hA⟩⟩ fun p e => by cases e; exact s.hnone hD
    · simp only [if_neg hn] at h
  | ex x E1 => simp only [M.bnd, q] at h; exact h
  | no => simp only [M.bnd, q] at h
variable {elt tg iter : Expr} {ifs : List Expr} {scope : Scope} {ow : List (Str × Nat)} {it : M (List D)} {g : D → B} {t : M Bool} {f : M R}
abbrev owS (ow : List (Str × Nat)) : List Nat := ow.map (·.2)
theorem d_lc (ow : List (Str × Nat)) (hc : X.calm = true) (hN : X.N.Nodup) (hi : DI X W tg iter it) (ok : BlkOk X.N X.env.scope scope ow)
    (hg : ∀ (s : Shared) (H : Hp) (C : Addr) (cl : List (Str × Addr)) (fp : List Addr), DGw (X.blk s H scope (compEnvC scope cl C X.env) fp) (ow.map (·.2)) tg g) (ht : ∀ (s : Shared) (H : Hp) (C : Addr) (cl : List (Str × Addr)) (fp : List Addr), DTs (X.blk s H scope (compEnvC scope cl C X.env) fp) W0 ifs t)
    (he : ∀ (s : Shared) (H : Hp) (C : Addr) (cl : List (Str × Addr)) (fp : List Addr), DE (X.blk s H scope (compEnvC scope cl C X.env) fp) W0 elt f) (hs : ∀ x, foldedSetIterable iter X.env x = pure x := by intro _; rfl) :
    DE X W (.ListComp elt [⟨tg, iter, ifs, 0⟩] scope pos) (mLc (ow.map (·.2)) it g t f) :=
  ⟨pe_mono (pe_lc (wi := rdI X W it) (g := rdG X (owS ow) g) (tt := rdT X W0 t) (te := rdE X W0 f) hc hN hi.pi ok (fun s H C cl fp => (hg s H C cl fp).pg) (fun s H C cl fp => (ht s H C cl fp).pts) (fun s H C cl fp => (he s H C cl fp).pe) hs) fun σ H Q ⟨F, E, rel, h⟩ => lc_ok rel h⟩
theorem s_setLc {i : Nat} {y : Str} {py spos : Pos} (ow : List (Str × Nat)) (hc : X.calm = true) (hN : X.N.Nodup) (hy : X.N[i]? = some y) (hyl : X.env.scope.names.lookup y = some .local)
    (hsw : swapsWith (.ListComp elt [⟨tg, iter, ifs, 0⟩] scope pos) (some (.Name y py)) spos.line X.env = pure true) (hi : DI X W tg iter it) (ok : BlkOk X.N X.env.scope scope ow)
    (hg : ∀ (s : Shared) (H : Hp) (C : Addr) (cl : List (Str × Addr)) (fp : List Addr), DGw (X.blk s H scope (compEnvC scope cl C X.env) fp) (ow.map (·.2)) tg g) (ht : ∀ (s : Shared) (H : Hp) (C : Addr) (cl : List (Str × Addr)) (fp : List Addr), DTs (X.blk s H scope (compEnvC scope cl C X.env) fp) W0 ifs t)
    (he : ∀ (s : Shared) (H : Hp) (C : Addr) (cl : List (Str × Addr)) (fp : List Addr), DE (X.blk s H scope (compEnvC scope cl C X.env) fp) W0 elt f) (hs : ∀ x, foldedSetIterable iter X.env x = pure x := by intro _; rfl) :
    DS X W (.Assign [.Name y py] (.ListComp elt [⟨tg, iter, ifs, 0⟩] scope pos) spos) (sSet i (mLc (ow.map (·.2)) it g t f)) :=
  ⟨ps_mono (ps_setLc (wi := rdI X W it) (g := rdG X (owS ow) g) (tt := rdT X W0 t) (te := rdE X W0 f) hc hN hy hyl hsw hi.pi ok (fun s H C cl fp => (hg s H C cl fp).pg) (fun s H C cl fp => (ht s H C cl fp).pts) (fun s H C cl fp => (he s H C cl fp).pe) hs) fun D σ H ⟨F, E, rel, h⟩ => lc_ok rel (set_ok h)⟩
end
end DL
-- SA
set_option maxHeartbeats 2000000
namespace DL
open PySem PySem.Spec PyProof.Rows L2 PpSet
section
variable {X : Cx}
abbrev KeysL (L : List (Addr × List Int)) : List (List Int) := L.map (·.2)
/-- what the set holds after one more -/
def Put1 (t : Addr) (ns : List Int) (L L' : List (Addr × List Int)) : Prop := (ns ∈ KeysL L → L' = L) ∧ (ns ∉ KeysL L → L'.Perm ((t, ns) :: L))
theorem add_tup {pins : List (Addr × Obj)} {σ : L2.St} {H : Hp} {s : Shared} {Er : Value → Shared → Prop} {S t : Addr} {ns : List Int} {L : List (Addr × List Int)} {Q : Value → Shared → Prop} (I : Inv X pins σ H s) (hS : H S = some (SetTO X.prog X.w S L)) (ht : SqT X.K H t (ns.map V.int))
    (hL : ∀ p ∈ L, SqT X.K H p.1 (p.2.map V.int)) (few : L.length + 1 < 64) (hu : X.A.units + 8 < cLine) (h : ∀ s' L', Put1 t ns L L' → Inv X pins σ (upd H S (SetTO X.prog X.w S L')) s' → Q .none s') : wpAny (model X.prog X.w) X.A (call (.builtin "set.add") [.ref S, .ref t]) Q Er s := by
  have R0 : SetT0 X.prog X.w s.heap S L := (I.hok S _ hS).1
  obtain ⟨es, ep, tb, R⟩ := R0.full fun p hp => I.isT (hL p hp)
  obtain ⟨ob, hob, hex, hdat⟩ := R.ob
  have kx := I.isT ht
  have ha : X.A.in1.units < cLine := by show X.A.units + 1 < cLine; omega
  refine wpAny_call_entry F.slot_set_add (show s.TypeIs (.ref S) "set" from ⟨ob, hob, hex.1⟩) F.entry_set_add ?_ (F.args_set_add_2 _ _)
  unfold Builtin.«set.add» Builtin.Frozenset.oneOther
  simp only [List.isEmpty_nil, bind_assoc]
  unfold Builtin.Frozenset.addrOf setAdd
  refine wpAny_bind (wpAny_pure ?_); try dsimp only
  refine wpAny_bind (wpAny_pure ?_); try dsimp only
  refine wpAny_bind (wpAny_holding (wpAny_bind (wpAny_pyHash_tuple ha kx ?_)))
  refine add_at (s := { s with toks := s.toks + (ns.length + 1) }) R kx ha few fun b h' L' es' ep' t' sb R' c1 c2 => ?_
  show wpAny _ _ (ret Value.none) _ _ _
  refine wpAny_pure ⟨_, rfl, h _ L' ⟨c1, c2⟩ ?_⟩
  have he : ∃ u, h'.get? S = some u := by obtain ⟨o', ho', _⟩ := R'.ob; exact ⟨o', ho'⟩
  exact I.write (e := S) (t' := s.toks + (ns.length + 1)) (by rw [hS]; trivial) (.inl rfl) (fun c u hc hu => (sb.2 c hc).trans hu) he (setTO_new R'.t0)
/-- {elt for target in iter if ..}: S the new set -/
def tScT (P : Program) (w : World) (K : PySem.W.Frag) (wi : TI) (g : TG) (tt : TT) (te : TE) (vs : List Nat) : TE := fun σ H Q => wi σ H fun J H1 => ∀ S, H1 S = none → ∃ W : Nat → Nat → Hp → Prop, (∃ m, W 0 m (upd H1 S (SetTO P w S []))) ∧ ∀ i m G, W i m G →
  (J.stop i G ∧ Q (.ref S) G) ∨ (J.go i G ∧ ∃ N : Hp → Prop, (∀ G', N G' → ∃ m', m' < m ∧ W (i + 1) m' G') ∧ ∀ x G1, J.yld i G x G1 → g x (wipe σ vs) G1 fun τ G2 => wipe τ vs = wipe σ vs ∧ tt τ G2 fun b G3 =>
    if b = true then te τ G3 fun y G4 => ∃ (t : Addr) (ns : List Int) (L : List (Addr × List Int)), y = .ref t ∧ SqT K G4 t (ns.map V.int) ∧ G4 S = some (SetTO P w S L) ∧ (∀ p ∈ L, SqT K G4 p.1 (p.2.map V.int)) ∧ L.length + 1 < 64 ∧ ∀ L', Put1 t ns L L' → N (upd G4 S (SetTO P w S L')) else N G3)
theorem pe_scT {elt tg iter : Expr} {ifs : List Expr} {scope : Scope} {own : List (PySem.Str × Nat)} {pos : Pos} {wi : TI} {g : TG} {tt : TT} {te : TE} (hu : X.A.units + 8 < cLine) (hc : X.calm = true) (hN : X.N.Nodup) (hi : PI X tg iter wi) (ok : BlkOk X.N X.env.scope scope own)
    (hg : ∀ (s : Shared) (G : Hp) (C : Addr) (cl : List (PySem.Str × Addr)) (fp : List Addr), PG (X.blk s G scope (compEnvC scope cl C X.env) fp) tg g) (ht : ∀ (s : Shared) (G : Hp) (C : Addr) (cl : List (PySem.Str × Addr)) (fp : List Addr), PTs (X.blk s G scope (compEnvC scope cl C X.env) fp) ifs tt)
    (he : ∀ (s : Shared) (G : Hp) (C : Addr) (cl : List (PySem.Str × Addr)) (fp : List Addr), PE (X.blk s G scope (compEnvC scope cl C X.env) fp) elt te) (hs : ∀ x, foldedSetIterable iter X.env x = pure x := by intro _; rfl) :
    PE X (.SetComp elt [⟨tg, iter, ifs, 0⟩] scope pos) (tScT X.prog X.w X.K wi g tt te (own.map (·.2))) := by
  refine ⟨fun pins s σ H Q I h => ?_⟩
  rw [eval_SetComp]
  have cap : ∀ y ∈ scope.names, y.2 = .free → ∃ c, X.env.cells.lookup y.1 = some c := fun y hy e => (ok.free y hy e).elim (fun z => I.ok.has _ (.inl z)) fun z => I.ok.has _ (.inr z)
  refine wpAny_comprehension_free (use := none) rfl hs (closure_ok cap) ok.kind (fun y hy e => by rw [ok.uniq y hy, e]) (thn (hi.run pins s σ H _ I h) fun xv s1 hx => thn hx fun itv s2 h2 => ?_)
  obtain ⟨it, fp, tn, J, H2, e, I2, T, st2, f2, q⟩ := h2
  subst e
  refine newSet_ok (newEnv_comp ?_)
  -- the set, empty, at S
  obtain ⟨S, hS⟩ : ∃ S, S = s2.heap.objs.size := ⟨_, rfl⟩
  rw [← hS]
  have hSn : H2 S = none := I2.hok.fresh (Nat.le_of_eq hS.symm)
  obtain ⟨W, ⟨m0, w0⟩, turn⟩ := q S hSn
  obtain ⟨so, hso⟩ : ∃ so : Obj, so = { cls := .type "set", dict := none, data := .set #[] 0 (.fresh 0 0 (!X.w.params.followText "set-order")) } := ⟨_, rfl⟩
  rw [← hso]
  obtain ⟨s3, hs3⟩ : ∃ s3 : Shared, s3 = { s2 with heap := s2.heap.push so } := ⟨_, rfl⟩
  have p3 : s3.heap = s2.heap.push so := by rw [hs3]
  have I3 : Inv X pins σ (upd H2 S (SetTO X.prog X.w S [])) s3 := by
    rw [hs3]
    refine I2.laid (t' := s2.toks) (fun b o e => Heap.get?_push_of_some _ e) (Nat.le_of_eq hS.symm) (setTO_new (SetTR.t0 (setTR_fresh (P := X.prog) (w := X.w) ?_)))
    rw [hS, hso]
    exact Heap.get?_push_size _ rfl
  have old : ∀ b ∈ fp, b < s2.heap.objs.size := fun b hb => (T.obj _ _ st2 b hb).elim fun o z => Heap.lt_size z.1
  have f3 : ∀ b ∈ fp, FpOk X pins (upd H2 S (SetTO X.prog X.w S [])) b ∧ b < s3.heap.objs.size := fun b hb => ⟨⟨by rw [upd_ne (by rw [hS]; exact Nat.ne_of_lt (old b hb))]; exact (f2 b hb).1, (f2 b hb).2⟩, by rw [p3, Heap.size_push]; exact Nat.lt_succ_of_lt (old b hb)⟩
  have st3 : tn 0 s3.heap := T.keep _ _ _ st2 fun b _ o e => by rw [p3]; exact Heap.get?_push_of_some _ e
  rw [← hs3]
  have I4 := block_start I3 ok hN f3
  have pg := hg s3 (upd H2 S (SetTO X.prog X.w S [])) s3.heap.objs.size (cellsFrom (s3.heap.objs.size + 1) scope.names (cloFrom X.env.cells scope.names [])) fp
  have pt := ht s3 (upd H2 S (SetTO X.prog X.w S [])) s3.heap.objs.size (cellsFrom (s3.heap.objs.size + 1) scope.names (cloFrom X.env.cells scope.names [])) fp
  have pe := he s3 (upd H2 S (SetTO X.prog X.w S [])) s3.heap.objs.size (cellsFrom (s3.heap.objs.size + 1) scope.names (cloFrom X.env.cells scope.names [])) fp
  obtain ⟨ce, hce⟩ : ∃ ce, ce = compEnvC scope (cellsFrom (s3.heap.objs.size + 1) scope.names (cloFrom X.env.cells scope.names [])) s3.heap.objs.size X.env := ⟨_, rfl⟩
  show codeAny _ _ (.compStart (.SetComp elt [⟨tg, iter, ifs, 0⟩] scope pos) 0 (.ref it) (.ref S) (compEnvC scope (cellsFrom (s3.heap.objs.size + 1) scope.names (cloFrom X.env.cells scope.names [])) s3.heap.objs.size X.env)) (compPost (model X.prog X.w) X.A X.xe none (EP X pins σ Q) (.ref S) s3.heap.objs.size)
    { s3 with heap := pushCells (s3.heap.push { cls := .type "dict", data := .dict #[] }) scope.names }
  rw [← hce] at I4 pg pt pe ⊢
  have cL : ce.locals = s3.heap.objs.size := by rw [hce]; rfl
  obtain ⟨s4, hs4⟩ : ∃ s4 : Shared, s4 = { s3 with heap := pushCells (s3.heap.push { cls := .type "dict", data := .dict #[] }) scope.names } := ⟨_, rfl⟩
  rw [← hs4] at I4 ⊢
  have st4 : tn 0 s4.heap := T.keep _ _ _ st3 fun b _ o e => by rw [hs4]; exact pushCells_keeps _ _ _ _ (Heap.get?_push_of_some _ e)
  obtain ⟨H3, hH3⟩ : ∃ H3, H3 = upd H2 S (SetTO X.prog X.w S []) := ⟨_, rfl⟩
  rw [← hH3] at I3 I4 pg pt pe w0 f3
  have free0 : ∀ b ∈ fp, H3 b = none := fun b hb => (f3 b hb).1.1
  have still : ∀ {σ' : L2.St} {H' : Hp} {s' : Shared}, Inv (X.blk s3 H3 scope ce fp) [] σ' H' s' → (∀ b ∈ fp, H' b = none) → ∀ b ∈ fp, FpOk (X.blk s3 H3 scope ce fp) [] H' b := fun {σ' H' s'} J' hn b hb =>
    ⟨hn b hb, (J'.ok.exf b hb).1, J'.ok.exfs b hb, .inl hb, fun x c e => (J'.ok.exf b hb).2 x c e, fun p hp => absurd (show p ∈ ([] : List (Addr × Obj)) ++ [] from hp) (by simp)⟩
  have loop : codeAny (model X.prog X.w) X.A (.compLoop (.SetComp elt [⟨tg, iter, ifs, 0⟩] scope pos) 0 (.ref it) (.ref S) ce) (compPost (model X.prog X.w) X.A X.xe none (EP X pins σ Q) (.ref S) s3.heap.objs.size) s4 := by
    refine compLoopS_any (fun n s' => ∃ i G, Inv (X.blk s3 H3 scope ce fp) [] (wipe σ (own.map (·.2))) G s' ∧ tn i s'.heap ∧ (∀ b ∈ fp, G b = none) ∧ W i n G) (fun n s5 hh => ?_) m0 ⟨0, H3, I4, st4, free0, w0⟩
    obtain ⟨i, H5, I5, st5, n5, w5⟩ := hh
    rcases turn i n H5 w5 with ⟨stop, qq⟩ | ⟨go, N, hN', step⟩
    · refine thnF (T.done (X.blk s3 H3 scope ce fp) rfl rfl rfl hc i [] s5 _ H5 (fun _ _ => False) I5 (still I5 n5) st5 stop) fun r s6 ⟨hr, I6⟩ => ?_
      subst hr
      have I7 : Inv X pins σ H5 s6 := I3.call' (ch := fp) I6.os I6.base I6.hok I6.bare fun b hb => let z := (f3 b hb).1.2; ⟨z.2.2.1, z.1, z.2.2.2.1, z.2.2.2.2⟩
      have nC : H5 s3.heap.objs.size = none := by rw [← cL]; exact I6.free
      obtain ⟨m, hn, _⟩ := I6.loc
      replace hn : s6.heap.Ns ce.locals m := hn
      rw [cL] at hn
      refine ⟨m, hn, fun h'' sb => ?_⟩
      obtain ⟨y0, y1, y2, y3, y4, y5⟩ := I3.fpOk (Nat.le_refl _) nC
      exact ⟨.ref S, H5, I7.turned (t' := s6.toks) (fun b o hb e => (sb.2 b hb).trans e) y0 y1 y3 y4 y5, rfl, qq⟩
    · refine thnF (T.item (X.blk s3 H3 scope ce fp) rfl rfl rfl hc i [] s5 _ H5 (fun _ _ => False) I5 (still I5 n5) st5 go) fun r s6 ⟨u, hr, h6⟩ => ?_
      subst hr
      refine thnF h6 fun _ s7 ⟨x, H7, I7, r7, y7, st7, n7⟩ => ?_
      refine thnF (pg.run _ s7 _ H7 x u _ (I7.pinned (still I7 n7) (T.obj _ _ st7)) r7 (step x H7 y7)) fun _ s8 ⟨σ8, H8, I8, hw8, q8⟩ => ?_
      refine thnF (pt.run _ s8 σ8 H8 _ I8 q8) fun b s9 ⟨H9, I9, q9⟩ => ?_
      have fin : ∀ {s' : Shared} {G : Hp}, Inv (X.blk s3 H3 scope ce fp) ([] ++ pinsAt fp s7.heap) σ8 G s' → N G → ∃ m, m < n ∧ ∃ i G, Inv (X.blk s3 H3 scope ce fp) [] (wipe σ (own.map (·.2))) G s' ∧ tn i s'.heap ∧ (∀ b ∈ fp, G b = none) ∧ W i m G := fun {s' G} J' nx => by
        obtain ⟨m', hm, w'⟩ := hN' G nx
        have kp : ∀ b ∈ fp, ∀ o, s7.heap.get? b = some o → s'.heap.get? b = some o ∧ G b = none := fun b hb o e => let z := J'.pin (b, o) (List.mem_append_right _ (List.mem_append_right _ (mem_pinsAt hb e))); ⟨z.1, z.2.1⟩
        refine ⟨m', hm, i + 1, G, (J'.unpinned (pins := [])).weak (by rw [← hw8, wipe_length]) (fun j v e => ?_), T.keep _ _ _ st7 fun b hb o e => (kp b hb o e).1, fun b hb => ?_, w'⟩
        · rw [← hw8] at e; exact (wipe_some e).1
        · exact (T.obj _ _ st7 b hb).elim fun o z => (kp b hb o z.1).2
      cases b with
      | false =>
        rw [if_neg Bool.false_ne_true] at q9 ⊢
        exact fin I9 q9
      | true =>
        rw [if_pos rfl] at q9 ⊢
        refine thnF (pe.run _ s9 σ8 H9 _ I9 q9) fun z s10 ⟨yv, H10, I10, r10, t, ns, L, ey, hsq, hS10, hL10, few, nx⟩ => ?_
        subst ey
        cases (show z = Value.ref t from r10)
        exact add_tup (X := X.blk s3 H3 scope ce fp) I10 hS10 hsq hL10 few hu fun s11 L' pt I11 => fin I11 (nx L' pt)
  exact codeAny_compStart_set loop (T.self X.A 0 _ _ _ st4 loop)
end
end DL
-- DO
namespace DL
open PySem PySem.Spec PyProof.Rows L2
section
variable {X : Cx} {W : WX} {F F1 F' : Hp} {E E1 E' : En} {σ σ1 σ' : L2.St} {H H1 H' : Hp}
variable {a b c e tg iter : Expr} {es : List Expr} {fa fb fc : M R} {pos p p2 : Pos}
def gAbs : List D → Option R
  | [.int i] => some (.fz (.int (if i < 0 then -i else i)))
  | _ => none
theorem absOk : CbOk X (fun xs H Q => ∃ i, xs = [.int i] ∧ Q (.int (if i < 0 then -i else i)) H) gAbs := by
  intro vs F H Q ds z s hA e q
  cases hA with
  | nil => cases e
  | cons h t =>
    cases t with
    | cons _ _ => cases h <;> simp [gAbs] at e
    | nil =>
      cases h with
      | int i => cases e; exact ⟨i, rfl, q _ _ (.old (.int _))⟩
      | _ => simp [gAbs] at e
def gInt : List D → Option R
  | [.int i] => some (.fz (.int i))
  | [.bl b] => some (.fz (.int (if b then 1 else 0)))
  | _ => none
theorem intOk : CbOk X (fun xs H Q => (∃ i, xs = [.int i] ∧ Q (.int i) H) ∨ ∃ k, xs = [.bl k] ∧ Q (.int (if k then 1 else 0)) H) gInt := by
  intro vs F H Q ds z s hA e q
  cases hA with
  | nil => cases e
  | cons h t =>
    cases t with
    | cons _ _ => cases h <;> simp [gInt] at e
    | nil =>
      cases h with
      | int i => cases e; exact .inl ⟨i, rfl, q _ _ (.old (.int _))⟩
      | bl i => cases e; exact .inr ⟨i, rfl, q _ _ (.old (.int _))⟩
      | _ => simp [gInt] at e

abbrev pD (p : Int × Int) : D := .tup [.int p.1, .int p.2]
def unP : D → Option (Int × Int)
  | .tup [.int i, .int j] => some (i, j)
  | _ => none
theorem unP_some {d : D} {p : Int × Int} (h : unP d = some p) : d = pD p := by
  unfold unP at h
  split at h
  · cases h; rfl
  · cases h
def unPs : List D → Option (List (Int × Int))
  | [] => some []
  | d :: ds => match unP d, unPs ds with
    | some p, some ps => some (p :: ps)
    | _, _ => none
theorem unPs_some : ∀ {ds : List D} {ps : List (Int × Int)}, unPs ds = some ps → ds = ps.map pD
  | [], ps, h => by cases h; rfl
  | d :: ds, ps, h => by
    unfold unPs at h
    cases z1 : unP d with
    | none => simp [z1] at h
    | some p =>
      cases z2 : unPs ds with
      | none => simp [z1, z2] at h
      | some qs =>
        simp only [z1, z2, Option.some.injEq] at h
        subst h
        rw [List.map_cons, unP_some z1, unPs_some z2]
theorem unPs_map (ps : List (Int × Int)) : unPs (ps.map pD) = some ps := by
  induction ps with
  | nil => rfl
  | cons p ps ih => simp only [List.map_cons, unPs, unP, ih]
/-- less, by places -/
def ltP2 (p q : Int × Int) : Bool := SrtO.lexB p q
def insP (p : Int × Int) : List (Int × Int) → List (Int × Int)
  | [] => [p]
  | q :: qs => if ltP2 q p then q :: insP p qs else p :: q :: qs
def sortP : List (Int × Int) → List (Int × Int)
  | [] => []
  | p :: ps => insP p (sortP ps)
theorem insP_perm (p : Int × Int) : ∀ qs, (insP p qs).Perm (p :: qs)
  | [] => List.Perm.refl _
  | q :: qs => by
    unfold insP
    split
    · exact ((insP_perm p qs).cons q).trans (List.Perm.swap p q qs)
    · exact List.Perm.refl _
theorem sortP_perm : ∀ ps, (sortP ps).Perm ps
  | [] => List.Perm.refl _
  | p :: ps => (insP_perm p (sortP ps)).trans ((sortP_perm ps).cons p)
theorem ltP2_iff {p q : Int × Int} : ltP2 p q = true ↔ p.1 < q.1 ∨ (p.1 = q.1 ∧ p.2 < q.2) := SrtO.lexB_iff
theorem ltP2_no {p q : Int × Int} : ltP2 p q = false ↔ ¬ (p.1 < q.1 ∨ (p.1 = q.1 ∧ p.2 < q.2)) := SrtO.lexB_no
def SortedP (ps : List (Int × Int)) : Prop := ps.Pairwise fun p q => ltP2 q p = false
theorem insP_sorted (p : Int × Int) : ∀ {qs}, SortedP qs → SortedP (insP p qs)
  | [], _ => List.pairwise_singleton _ _
  | q :: qs, h => by
    have hh := List.pairwise_cons.mp h
    unfold insP
    split
    · rename_i hq
      refine List.pairwise_cons.mpr ⟨fun r hr => ?_, insP_sorted p hh.2⟩
      rcases List.mem_cons.mp ((insP_perm p qs).mem_iff.mp hr) with rfl | hr
      · have := ltP2_iff.mp hq
        exact ltP2_no.mpr (by omega)
      · exact hh.1 r hr
    · rename_i hq
      have hq' : ltP2 q p = false := by simpa using hq
      refine List.pairwise_cons.mpr ⟨fun r hr => ?_, h⟩
      rcases List.mem_cons.mp hr with rfl | hr
      · exact hq'
      · have h1 := ltP2_no.mp hq'
        have h2 := ltP2_no.mp (hh.1 r hr)
        exact ltP2_no.mpr (by omega)
theorem sortP_sorted : ∀ ps, SortedP (sortP ps)
  | [] => List.Pairwise.nil
  | p :: ps => insP_sorted p (sortP_sorted ps)
/-- there is one sorted list of such items -/
theorem sortedP_uniq : ∀ {ps qs : List (Int × Int)}, SortedP ps → SortedP qs → ps.Perm qs → ps = qs
  | [], qs, _, _, h => (List.Perm.eq_nil h.symm).symm
  | p :: ps, [], _, _, h => absurd h.length_eq (by simp)
  | p :: ps, q :: qs, hp, hq, h => by
    have h1 := List.pairwise_cons.mp hp
    have h2 := List.pairwise_cons.mp hq
    have e : p = q := by
      have a1 : ltP2 q p = false ∨ p = q := by
        rcases List.mem_cons.mp (h.mem_iff.mpr (List.mem_cons_self (a := q) (l := qs))) with z | z
        · exact .inr z.symm
        · exact .inl (h1.1 q z)
      have a2 : ltP2 p q = false ∨ p = q := by
        rcases List.mem_cons.mp (h.mem_iff.mp (List.mem_cons_self (a := p) (l := ps))) with z | z
        · exact .inr z
        · exact .inl (h2.1 p z)
      rcases a1 with a1 | a1
      · rcases a2 with a2 | a2
        · have b1 := ltP2_no.mp a1
          have b2 := ltP2_no.mp a2
          exact Prod.ext (by omega) (by omega)
        · exact a2
      · exact a1
    subst e
    rw [sortedP_uniq h1.2 h2.2 ((List.perm_cons p).mp h)]
theorem sortP_of_perm {ps qs : List (Int × Int)} (h : ps.Perm qs) : sortP ps = sortP qs := sortedP_uniq (sortP_sorted _) (sortP_sorted _) ((sortP_perm ps).trans (h.trans (sortP_perm qs).symm))
theorem sortP_id {ps : List (Int × Int)} (h : SortedP ps) : sortP ps = ps := sortedP_uniq (sortP_sorted _) h (sortP_perm ps)
def unIs : List D → Option (List Int)
  | [] => some []
  | .int i :: ds => (unIs ds).map (i :: ·)
  | _ => none
theorem unIs_some : ∀ {ds : List D} {ns : List Int}, unIs ds = some ns → ds = ns.map .int
  | [], ns, h => by cases h; rfl
  | .int i :: ds, ns, h => by
    unfold unIs at h
    cases z : unIs ds with
    | none => simp [z] at h
    | some ms =>
      simp only [z, Option.map_some, Option.some.injEq] at h
      subst h
      rw [List.map_cons, unIs_some z]
  | .non :: _, _, h => by cases h
  | .bl _ :: _, _, h => by cases h
  | .str _ :: _, _, h => by cases h
  | .tup _ :: _, _, h => by cases h
  | .lst _ :: _, _, h => by cases h
  | .dk _ :: _, _, h => by cases h
  | .dt _ :: _, _, h => by cases h
  | .ins _ _ :: _, _, h => by cases h
  | .scr _ :: _, _, h => by cases h
  | .exc _ :: _, _, h => by cases h
  | .tpf _ :: _, _, h => by cases h
  | .ex0 _ :: _, _, h => by cases h
  | .ex1 _ _ _ :: _, _, h => by cases h
theorem unIs_map (ns : List Int) : unIs (ns.map .int) = some ns := by
  induction ns with
  | nil => rfl
  | cons n ns ih => simp only [List.map_cons, unIs, ih, Option.map_some]
def insI (p : Int) : List Int → List Int
  | [] => [p]
  | q :: qs => if q < p then q :: insI p qs else p :: q :: qs
def sortI : List Int → List Int
  | [] => []
  | p :: ps => insI p (sortI ps)
theorem insI_perm (p : Int) : ∀ qs, (insI p qs).Perm (p :: qs)
  | [] => List.Perm.refl _
  | q :: qs => by
    unfold insI
    split
    · exact ((insI_perm p qs).cons q).trans (List.Perm.swap p q qs)
    · exact List.Perm.refl _
theorem sortI_perm : ∀ ps, (sortI ps).Perm ps
  | [] => List.Perm.refl _
  | p :: ps => (insI_perm p (sortI ps)).trans ((sortI_perm ps).cons p)
theorem insI_sorted (p : Int) : ∀ {qs : List Int}, qs.Pairwise (· ≤ ·) → (insI p qs).Pairwise (· ≤ ·)
  | [], _ => List.pairwise_singleton _ _
  | q :: qs, h => by
    have hh := List.pairwise_cons.mp h
    unfold insI
    split
    · rename_i hq
      refine List.pairwise_cons.mpr ⟨fun r hr => ?_, insI_sorted p hh.2⟩
      rcases List.mem_cons.mp ((insI_perm p qs).mem_iff.mp hr) with rfl | hr
      · omega
      · exact hh.1 r hr
    · rename_i hq
      refine List.pairwise_cons.mpr ⟨fun r hr => ?_, h⟩
      rcases List.mem_cons.mp hr with rfl | hr
      · omega
      · have := hh.1 r hr; omega
theorem sortI_sorted : ∀ ps : List Int, (sortI ps).Pairwise (· ≤ ·)
  | [] => List.Pairwise.nil
  | p :: ps => insI_sorted p (sortI_sorted ps)
theorem sortedI_uniq : ∀ {ps qs : List Int}, ps.Pairwise (· ≤ ·) → qs.Pairwise (· ≤ ·) → ps.Perm qs → ps = qs
  | [], qs, _, _, h => (List.Perm.eq_nil h.symm).symm
  | p :: ps, [], _, _, h => absurd h.length_eq (by simp)
  | p :: ps, q :: qs, hp, hq, h => by
    have h1 := List.pairwise_cons.mp hp
    have h2 := List.pairwise_cons.mp hq
    have e : p = q := by
      have a1 : p ≤ q := by
        rcases List.mem_cons.mp (h.mem_iff.mpr (List.mem_cons_self (a := q) (l := qs))) with z | z
        · omega
        · exact h1.1 q z
      have a2 : q ≤ p := by
        rcases List.mem_cons.mp (h.mem_iff.mp (List.mem_cons_self (a := p) (l := ps))) with z | z
        · omega
        · exact h2.1 p z
      omega
    subst e
    rw [sortedI_uniq h1.2 h2.2 ((List.perm_cons p).mp h)]
def gSorted : List D → Option R
  | [.lst ds] => (match unIs ds with
    | some ns => some (.fs (.lst ((sortI ns).map .int)))
    | none => match unPs ds with
      | some ps => some (.fs (.lst ((sortP ps).map pD)))
      | none => none)
  | _ => none
theorem op_sorted : CallR X (.builtin "sorted") (fun vs H Q => rSortedI X.K vs H Q ∨ rSortedPO X.K vs H Q) := CallR.or cr_sortedI cr_sortedPO
theorem isAll_ints {K : PySem.W.Frag} {mg : Str → Option Value} : ∀ {vs : List V} {ns : List Int}, IsAll K mg F vs (ns.map .int) → vs = ns.map V.int
  | _, [], h => by cases h; rfl
  | _, n :: ns, h => by
    cases h with
    | cons h t => cases h; rw [List.map_cons, isAll_ints t]
/-- the pair at a value -/
noncomputable def kOf (H : Hp) (x : V) : Int × Int := match x with
  | .ref t => (match H t with
    | some (.tup [.int i, .int j]) => (i, j)
    | _ => (0, 0))
  | _ => (0, 0)
theorem is_pair {K : PySem.W.Frag} {mg : Str → Option Value} {x : V} {p : Int × Int} (s : Same F H) (h : Is K mg F x (pD p)) : kOf H x = p ∧ ∃ t, x = .ref t ∧ H t = some (.tup [.int p.1, .int p.2]) := by
  cases h with
  | @tup a vs ds q r =>
    cases r with
    | cons h1 r =>
      cases h1
      cases r with
      | cons h2 r =>
        cases h2
        cases r
        have := s _ _ q
        exact ⟨by simp [kOf, this], a, rfl, this⟩
theorem isAll_pairs {K : PySem.W.Frag} {mg : Str → Option Value} (s : Same F H) : ∀ {vs : List V} {ps : List (Int × Int)}, IsAll K mg F vs (ps.map pD) → vs.map (kOf H) = ps ∧ ∀ x ∈ vs, ∃ t, x = V.ref t ∧ H t = some (.tup [.int (kOf H x).1, .int (kOf H x).2])
  | _, [], h => by cases h; exact ⟨rfl, fun x hx => nomatch hx⟩
  | _, p :: ps, h => by
    cases h with
    | cons h t =>
      obtain ⟨e, t', rfl, ht⟩ := is_pair s h
      obtain ⟨e2, h2⟩ := isAll_pairs s t
      refine ⟨by rw [List.map_cons, e, e2], fun x hx => ?_⟩
      rcases List.mem_cons.mp hx with rfl | hx
      · rw [e]; exact ⟨t', rfl, ht⟩
      · exact h2 x hx
theorem isAll_perm {K : PySem.W.Frag} {mg : Str → Option Value} (s : Same F H) {vs : List V} {ps : List (Int × Int)} (h : IsAll K mg F vs (ps.map pD)) : ∀ {ws : List V}, (∀ w ∈ ws, w ∈ vs) → IsAll K mg F ws ((ws.map (kOf H)).map pD)
  | [], _ => .nil
  | w :: ws, hw => by
    refine .cons ?_ (isAll_perm s h fun x hx => hw x (List.mem_cons_of_mem _ hx))
    obtain ⟨i, hi, e⟩ := List.mem_iff_getElem.mp (hw w List.mem_cons_self)
    obtain ⟨d, h1, h2⟩ := h.getV (i := i) (v := w) (by rw [List.getElem?_eq_getElem hi, e])
    rw [List.getElem?_map] at h1
    cases z : ps[i]? with
    | none => simp [z] at h1
    | some p =>
      simp only [z, Option.map_some, Option.some.injEq] at h1
      subst h1
      rw [(is_pair s h2).1]
      exact h2
theorem sortedOk : CbOk X (fun vs H Q => rSortedI X.K vs H Q ∨ rSortedPO X.K vs H Q) gSorted := by
  intro vs F H Q ds z s hA e q
  cases hA with
  | nil => cases e
  | cons h t =>
    cases t with
    | cons _ _ => cases h <;> simp [gSorted] at e
    | nil =>
      cases h with
      | @lst a ws ds h r =>
        unfold gSorted at e
        cases z1 : unIs ds with
        | some ns =>
          simp only [z1, Option.some.injEq] at e
          subst e
          rw [unIs_some z1] at r
          obtain rfl := isAll_ints r
          refine .inl ⟨a, ns, rfl, .inl (.inl h), fun ns' p pm so hp => q _ _ (out_lst hp ?_)⟩
          rw [sortedI_uniq (sortI_sorted ns) so ((sortI_perm ns).trans pm.symm)]
          exact IsAll.ints ns'
        | none =>
          simp only [z1] at e
          cases z2 : unPs ds with
          | none => simp [z2] at e
          | some ps =>
            simp only [z2, Option.some.injEq] at e
            subst e
            rw [unPs_some z2] at r
            obtain ⟨e1, h2⟩ := isAll_pairs s r
            refine .inr ⟨a, ws, kOf H, rfl, .inl (.inl h), h2, fun ys p so sb hp => q _ _ (out_lst hp ?_)⟩
            have pm : (ys.map (kOf H)).Perm ps := by rw [← e1]; exact sb.perm.map _
            have so' : SortedP (ys.map (kOf H)) := List.pairwise_map.mpr so
            rw [sortedP_uniq (sortP_sorted ps) so' ((sortP_perm ps).trans pm.symm)]
            exact isAll_perm s r fun w hw => sb.perm.mem_iff.mp hw
      | _ => simp [gSorted] at e

def GoodO (X : Cx) (W : WX) (F : Hp) (E : En) (σ : L2.St) (H : Hp) (f : M (Option Int)) (Q : Option Int → Hp → Prop) : Prop := match f E with
  | .ok b E' => ∀ F' H', Stp X F E σ H F' E' σ H' → Q b H'
  | .ex x E' => ∀ F' H' cls d, Stp X F E σ H F' E' σ H' → XnOk X F' H' cls d x → W cls d σ H'
  | .no => False
structure DPo (X : Cx) (W : WX) (o : Option Expr) (f : M (Option Int)) : Prop where
  po : PO X o fun σ H Q => ∃ F E, Rel X F E σ H ∧ GoodO X W F E σ H f Q
theorem po_mono {o : Option Expr} {t t' : TO} (h : PO X o t) (m : ∀ σ H Q, t' σ H Q → t σ H Q) : PO X o t' := ⟨fun pins s σ H Q I q => h.run pins s σ H Q I (m σ H Q q)⟩
theorem o_none : DPo X W none (M.ret none) := ⟨po_mono po_none fun σ H Q ⟨F, E, rel, g⟩ => g F H (Stp.refl rel)⟩
def mPart (f : M R) : M (Option Int) := M.bnd f fun r => fun E => match pk r E with
  | some (.int i) => .ok (some i) E
  | _ => .no
theorem o_some (h : DE X W e fa) : DPo X W (some e) (mPart fa) :=
  ⟨po_mono (po_some h.pe) fun σ H Q ⟨F, E, rel, g⟩ => ⟨F, E, rel, by
    unfold GoodO mPart at g
    unfold Good
    cases q : fa E with
    | ok r E1 =>
      simp only [M.bnd, q] at g
      intro F1 H1 v s re nw
      cases z : pk r E1 with
      | none => simp only [z] at g
      | some d =>
        have h1 := re.peek1 s.rel z
        cases d with
        | int i => simp only [z] at g; cases h1; exact ⟨i, rfl, g F1 H1 s⟩
        | _ => simp only [z] at g
    | ex x E1 => simp only [M.bnd, q] at g; exact g
    | no => simp only [M.bnd, q] at g⟩⟩
def cutD {α : Type} (xs : List α) (lo hi : Option Int) : List α := (xs.drop (HT.sIx xs.length 0 lo)).take (HT.sIx xs.length xs.length hi - HT.sIx xs.length 0 lo)
def gSl : D → Option Int → Option Int → Option R
  | .lst ds, lo, hi => some (.fs (.lst (cutD ds lo hi)))
  | .tup ds, lo, hi => some (.fz (.tup (cutD ds lo hi)))
  | .scr ns, lo, hi => some (.fs (.lst ((cutD ns lo hi).map .int)))
  | .tpf ds, lo, hi => if HT.sIx ds.length 0 lo = 0 ∧ HT.sIx ds.length ds.length hi = ds.length then none else some (.fz (.tup (cutD ds lo hi)))
  | _, _, _ => none
def mSl (f : M R) (lo hi : M (Option Int)) : M R := M.bnd f fun r => M.bnd lo fun l => M.bnd hi fun h => fun E => match pk r E with
  | some d => mOut (gSl d l h) E
  | none => .no
theorem isAll_cut {K : PySem.W.Frag} {mg : Str → Option Value} {vs : List V} {ds : List D} (h : IsAll K mg F vs ds) (lo hi : Option Int) : IsAll K mg F (cutV vs lo hi) (cutD ds lo hi) := by
  unfold cutV cutD
  rw [h.length]
  exact (h.drop _).take _
theorem cut_whole {α : Type} {xs : List α} {lo hi : Option Int} (h : HT.sIx xs.length 0 lo = 0 ∧ HT.sIx xs.length xs.length hi = xs.length) : cutD xs lo hi = xs := by
  unfold cutD
  rw [h.1, h.2, List.drop_zero, Nat.sub_zero, List.take_length]
def rSlD (K : PySem.W.Frag) : V → Option Int → Option Int → Hp → VK → Prop := fun x lo hi H Q => rSlL K x lo hi H Q ∨ rSlA K x lo hi H Q
theorem slOk {x : V} {d : D} {lo hi : Option Int} {z : R} {Q : VK} (s : Same F H) (h : Is1 X.K X.mg F H x d) (e : gSl d lo hi = some z) (q : ∀ v H', Out X.K X.mg F H v H' z → Q v H') : rSlD X.K x lo hi H Q := by
  cases h with
  | @lst a vs ds h r =>
    cases e
    exact .inl ⟨a, vs, rfl, .inl (.inl h), fun p hp => q _ _ (out_lst hp (isAll_cut r lo hi))⟩
  | @scr a ns h =>
    cases e
    refine .inl ⟨a, _, rfl, h, fun p hp => q _ _ (out_lst hp ?_)⟩
    have := isAll_cut (IsAll.ints (K := X.K) (mg := X.mg) (F := F) ns) lo hi
    unfold cutD at this ⊢
    rw [List.length_map] at this
    rw [List.map_take, List.map_drop]
    exact this
  | @tup a vs ds h r =>
    cases e
    refine .inr ⟨a, vs, rfl, tupS s h, fun w => ?_, fun _ p hp => q _ _ (out_cat s hp (isAll_cut r lo hi))⟩
    rw [r.length] at w
    rw [cut_whole w] at q
    exact q _ _ (.old (.tup h r))
  | @tpf a o vs ds h n r =>
    unfold gSl at e; dsimp only at e
    by_cases w : HT.sIx ds.length 0 lo = 0 ∧ HT.sIx ds.length ds.length hi = ds.length
    · rw [if_pos w] at e; cases e
    · rw [if_neg w] at e
      cases e
      refine .inr ⟨a, vs, rfl, tpfS s h, fun w' => absurd (by rw [r.length] at w'; exact w') w, fun _ p hp => q _ _ (out_cat s hp (isAll_cut r lo hi))⟩
  | _ => simp [gSl] at e
theorem d_sl {lo hi : Option Expr} {fl fh : M (Option Int)} (he : DE X W e fa) (hl : DPo X W lo fl) (hh : DPo X W hi fh) : DE X W (.Subscript e (.Slice lo hi none p2) pos) (mSl fa fl fh) :=
  ⟨pe_mono (pe_slice (sl_list.or sl_tupA) he.pe hl.po hh.po) fun σ H Q ⟨F, E, rel, g⟩ => ⟨F, E, rel, by
    unfold Good mSl at g
    unfold Good
    cases q : fa E with
    | ok r E1 =>
      simp only [M.bnd, q] at g
      intro F1 H1 v s re nw
      refine ⟨F1, E1, s.rel, ?_⟩
      unfold GoodO
      cases ql : fl E1 with
      | ok l E2 =>
        simp only [ql] at g
        intro F2 H2 s2
        refine ⟨F2, E2, s2.rel, ?_⟩
        cases qh : fh E2 with
        | ok h E3 =>
          simp only [qh] at g
          intro F3 H3 s3
          cases z : pk r E3 with
          | none => simp only [z] at g
          | some d =>
            simp only [z] at g
            have h1 := ((re.step s2).step s3).peek1 s3.rel z
            cases zg : gSl d l h with
            | none => simp only [mOut, zg] at g
            | some w =>
              simp only [mOut, zg] at g
              refine slOk s3.rel.le h1 zg fun v H' o => ?_
              have g' : Good X W F E σ H (fun _ => .ok w E3) Q := g
              exact (g'.later (E0 := E) (f := fun _ => .ok w E3) ((s.trans s2).trans s3) rfl).out s3.rel rfl o
        | ex x E3 => simp only [qh] at g; exact fun F3 H3 c d s3 xo => g F3 H3 c d ((s.trans s2).trans s3) xo
        | no => simp only [qh] at g
      | ex x E2 => simp only [ql] at g; exact fun F3 H3 c d s3 xo => g F3 H3 c d (s.trans s3) xo
      | no => simp only [ql] at g
    | ex x E1 => simp only [M.bnd, q] at g; exact g
    | no => simp only [M.bnd, q] at g⟩⟩

def mLR1 (f : M R) : M R := mUn (fun d => match d with
  | .int n => if n ≤ 100000 ∧ 0 ≤ n then some (.fs (.lst (rngD 0 n.toNat))) else none
  | _ => none) f
theorem rg_all {K : PySem.W.Frag} {mg : Str → Option Value} (n : Int) : IsAll K mg F (rgV 0 n) (rngD 0 n.toNat) := by
  have h1 := rgV_length 0 n
  rw [Int.sub_zero] at h1
  have key : ∀ (vs : List V) (ds : List D), vs.length = ds.length → (∀ (i : Nat) (v : V) (d : D), vs[i]? = some v → ds[i]? = some d → Is K mg F v d) → IsAll K mg F vs ds := by
    intro vs
    induction vs with
    | nil => intro ds h _; cases ds with
      | nil => exact .nil
      | cons _ _ => simp at h
    | cons v vs ih =>
      intro ds h hI
      cases ds with
      | nil => simp at h
      | cons d ds => exact .cons (hI 0 v d rfl rfl) (ih ds (by simpa using h) fun i v d a b => hI (i + 1) v d (by simpa using a) (by simpa using b))
  refine key _ _ (by rw [h1, rngD_length]) fun i v d a b => ?_
  unfold rgV at a
  unfold rngD at b
  simp only [List.getElem?_map, Option.map_eq_some_iff] at a b
  obtain ⟨x, hx, rfl⟩ := a
  obtain ⟨y, hy, rfl⟩ := b
  have hx' := (List.getElem?_eq_some_iff.mp hx)
  have hy' := (List.getElem?_eq_some_iff.mp hy)
  obtain ⟨h3, h4⟩ := hx'
  obtain ⟨h5, h6⟩ := hy'
  rw [List.getElem_range] at h4 h6
  subst h4 h6
  exact .int _
theorem d_listRg {pr ppos : Pos} (hc : X.calm = true) (hg : Gl X "list") (hm : X.mg "list" = none) (hg2 : Gl X "range") (hm2 : X.mg "range" = none) (ha : DE X W a fa) (na0 : starEach [a] X.env = (false, eval a X.env) :: starEach [] X.env := by rfl)
    (na : starEach [.Call (.Name "range" pr) [a] [] ppos] X.env = (false, eval (.Call (.Name "range" pr) [a] [] ppos) X.env) :: starEach [] X.env := by rfl) : DE X W (.Call (.Name "list" p) [.Call (.Name "range" pr) [a] [] ppos] [] pos) (mLR1 fa) :=
  ⟨pe_mono (pe_listRg hc hg hm (prg_1 hg2 hm2 ha.pe na0) na) fun σ H Q ⟨F, E, rel, h⟩ => ⟨F, E, rel, Good.un (r := fun x H1 Q => ∃ n, x = .int n ∧ RgOk 0 n ∧ ∀ q, H1 q = none → Q (.ref q) (upd H1 q (.lst (rgV 0 n)))) (fun x F H Q a z s ha e q => by
    cases ha with
    | int n =>
      by_cases hn : n ≤ 100000 ∧ 0 ≤ n
      · simp only [if_pos hn, Option.some.injEq] at e
        subst e
        exact ⟨n, rfl, RgOk.of_le (by omega) (by omega) (by omega) (by omega), fun p hp => q _ _ (out_lst hp (rg_all n))⟩
      · simp only [if_neg hn, reduceCtorEq] at e
    | _ => simp at e) h⟩⟩

theorem gInOk_list {x y : V} {a : D} {ys : List D} {pa : PyData} {ps : List PyData} (s : Same F H) (ha : Is X.K X.mg H x a) (hy : IsAll X.K X.mg H [y] [.lst ys]) : True := trivial
def rInS (K : PySem.W.Frag) (n : Bool) : R2 := fun x y H Q => ∃ d ds, Dp K H x d ∧ (Dp K H y (.list ds) ∨ Dp K H y (.tuple ds)) ∧ SeqAt.shaped d = true ∧ SeqAt.shaped (.list ds) = true ∧ Q (.bl (if n then !(ds.any fun z => PyData.eqv z d) else ds.any fun z => PyData.eqv z d)) H
theorem op_inS (hu : X.A.units + 65 < cLine) : OpR X (compareOp .In) (rInS X.K false) := by
  intro pins s σ H x y v u Q I rx ry h
  obtain ⟨d, ds, hd, he, sd, se, q⟩ := h
  obtain ⟨as, r1⟩ := Dp.reads I d x v hd rx
  rcases he with he | he
  · obtain ⟨bs, r2⟩ := Dp.reads I (.list ds) y u he ry
    exact SeqAt.in_list_reads r2 r1 (SeqAt.canLay_of_shaped se) (SeqAt.canLay_of_shaped sd) (room_in_shaped sd hu) ⟨.bl _, H, I, rfl, q⟩
  · obtain ⟨bs, r2⟩ := Dp.reads I (.tuple ds) y u he ry
    exact SeqAt.in_tuple_reads r2 r1 (SeqAt.canLay_of_shaped se) (SeqAt.canLay_of_shaped sd) (room_in_shaped sd hu) ⟨.bl _, H, I, rfl, q⟩
theorem op_notInS (hu : X.A.units + 65 < cLine) : OpR X (compareOp .NotIn) (rInS X.K true) := by
  intro pins s σ H x y v u Q I rx ry h
  obtain ⟨d, ds, hd, he, sd, se, q⟩ := h
  obtain ⟨as, r1⟩ := Dp.reads I d x v hd rx
  rcases he with he | he
  · obtain ⟨bs, r2⟩ := Dp.reads I (.list ds) y u he ry
    exact SeqAt.notIn_list_reads r2 r1 (SeqAt.canLay_of_shaped se) (SeqAt.canLay_of_shaped sd) (room_in_shaped sd hu) ⟨.bl _, H, I, rfl, q⟩
  · obtain ⟨bs, r2⟩ := Dp.reads I (.tuple ds) y u he ry
    exact SeqAt.notIn_tuple_reads r2 r1 (SeqAt.canLay_of_shaped se) (SeqAt.canLay_of_shaped sd) (room_in_shaped sd hu) ⟨.bl _, H, I, rfl, q⟩
def seqOf : D → Option (List D)
  | .lst ds => some ds
  | .tup ds => some ds
  | .tpf ds => some ds
  | _ => none
/-- whether x is among the items -/
def inS (x y : D) : Option Bool := match toP x, (seqOf y).bind toPs with
  | some p, some ps => if SeqAt.shaped p = true ∧ SeqAt.shaped (.list ps) = true then some (ps.any fun z => PyData.eqv z p) else none
  | _, _ => none
def gInS (x y : D) : Option R := (inS x y).map fun c => .fz (.bl c)
def gNotInS (x y : D) : Option R := (inS x y).map fun c => .fz (.bl (!c))
theorem inS_ok {x y : V} {a b : D} {c : Bool} (s : Same F H) (ha : Is1 X.K X.mg F H x a) (hb : Is1 X.K X.mg F H y b) (e : inS a b = some c) : ∃ d ds, Dp X.K H x d ∧ (Dp X.K H y (.list ds) ∨ Dp X.K H y (.tuple ds)) ∧ SeqAt.shaped d = true ∧ SeqAt.shaped (.list ds) = true ∧ c = ds.any fun z => PyData.eqv z d := by
  unfold inS at e
  cases z1 : toP a with
  | none => simp [z1] at e
  | some p =>
    cases z2 : (seqOf b).bind toPs with
    | none => simp [z1, z2] at e
    | some ps =>
      by_cases hs : SeqAt.shaped p = true ∧ SeqAt.shaped (.list ps) = true
      · simp only [z1, z2, if_pos hs, Option.some.injEq] at e
        refine ⟨p, ps, (ha.is s).dp z1, ?_, hs.1, hs.2, e.symm⟩
        cases hb with
        | lst h r => exact .inl (.lst (.inl (.inl h)) ((r.mono s).dp (by simpa [seqOf] using z2)))
        | tup h r => exact .inr (.tup (tupS s h) ((r.mono s).dp (by simpa [seqOf] using z2)))
        | tpf h n r => exact .inr (.tup (tpfS s h) ((r.mono s).dp (by simpa [seqOf] using z2)))
        | _ => simp [seqOf] at z2
      · simp only [z1, z2, if_neg hs, reduceCtorEq] at e
theorem inOk : BinOk X (rInS X.K false) gInS := by
  intro x y F H Q a b z s ha hb e q
  unfold gInS at e
  cases z1 : inS a b with
  | none => rw [z1] at e; cases e
  | some c =>
    rw [z1] at e
    cases e
    obtain ⟨d, ds, h1, h2, h3, h4, rfl⟩ := inS_ok s ha hb z1
    exact ⟨d, ds, h1, h2, h3, h4, q _ _ (.old (.bl _))⟩
theorem notInOk : BinOk X (rInS X.K true) gNotInS := by
  intro x y F H Q a b z s ha hb e q
  unfold gNotInS at e
  cases z1 : inS a b with
  | none => rw [z1] at e; cases e
  | some c =>
    rw [z1] at e
    cases e
    obtain ⟨d, ds, h1, h2, h3, h4, rfl⟩ := inS_ok s ha hb z1
    exact ⟨d, ds, h1, h2, h3, h4, q _ _ (.old (.bl _))⟩
theorem d_in {k : Nat} (hr : Room k X.A) (ha : DE X W a fa) (hb : DE X W b fb) (hm : behindInMarks .In b = false := by with_unfolding_all rfl) : DE X W (.Compare a [.In] [b] pos) (mBin gInS fa fb) := d_cmp (op_inS (hu65 hr)) inOk ha hb hm
theorem d_notin {k : Nat} (hr : Room k X.A) (ha : DE X W a fa) (hb : DE X W b fb) (hm : behindInMarks .NotIn b = false := by with_unfolding_all rfl) : DE X W (.Compare a [.NotIn] [b] pos) (mBin gNotInS fa fb) := d_cmp (op_notInS (hu65 hr)) notInOk ha hb hm
theorem t_in {k : Nat} (hr : Room k X.A) (ha : DE X W a fa) (hb : DE X W b fb) (hm : behindInMarks .In b = false := by with_unfolding_all rfl) : DT X W (.Compare a [.In] [b] pos) (mBl (mBin gInS fa fb)) := t_cmp (op_inS (hu65 hr)) inOk ha hb hm
theorem t_notin {k : Nat} (hr : Room k X.A) (ha : DE X W a fa) (hb : DE X W b fb) (hm : behindInMarks .NotIn b = false := by with_unfolding_all rfl) : DT X W (.Compare a [.NotIn] [b] pos) (mBl (mBin gNotInS fa fb)) := t_cmp (op_notInS (hu65 hr)) notInOk ha hb hm
end
end DL
-- SB
namespace DL
open PySem PySem.Spec PyProof.Rows L2 PpSet
section
variable {X : Cx} {W : WX} {F F1 F' : Hp} {E E1 E' : En} {σ σ1 σ' : L2.St} {H H1 H' : Hp}
def unT : D → Option (List Int)
  | .tup ds => unIs ds
  | _ => none
theorem unT_some {d : D} {k : List Int} (h : unT d = some k) : d = .tup (k.map .int) := by
  cases d <;> first
    | exact congrArg D.tup (unIs_some h)
    | cases h
theorem is_keyT {K : PySem.W.Frag} {mg : Str → Option Value} {v : V} {k : List Int} (h : Is K mg F v (.tup (k.map .int))) : ∃ t, v = .ref t ∧ F t = some (.tup (k.map V.int)) := by
  cases h with
  | tup q r => exact ⟨_, rfl, by rw [q, isAll_ints r]⟩
/-- one more key -/
def putK (k : List Int) (acc : List (List Int)) : List (List Int) := if k ∈ acc then acc else acc ++ [k]
def scGo (own : List Nat) (g : D → B) (t : M Bool) (f : M R) : List (List Int) → List D → M (List (List Int))
  | acc, [] => M.ret acc
  | acc, d :: ds => fun E => match g d E with
    | none => .no
    | some E1 => match t E1 with
      | .ok false E2 => scGo own g t f acc ds (wipeE E2 own)
      | .ok true E2 => (match f E2 with
        | .ok r E3 => (match take r E3 with
          | .ok v E4 => (match unT v with
            | some k => if acc.length < 63 then scGo own g t f (putK k acc) ds (wipeE E4 own) else .no
            | none => .no)
          | _ => .no)
        | _ => .no)
      | _ => .no
def mSc (own : List Nat) (it : M (List D)) (g : D → B) (t : M Bool) (f : M R) (z : List (List Int) → Option R) : M R := M.bnd it fun ds => fun E => if noOwn own E = true then (match scGo own g t f [] ds (wipeE E own) with
  | .ok acc E' => (match z acc with
    | some r => .ok r (rest0 own E E')
    | none => .no)
  | _ => .no) else .no
section
variable {own : List Nat} {g : D → B} {t : M Bool} {f : M R} {acc : List (List Int)} {ds : List D} {d v : D} {r : R} {E0 E3 E4 E5 E6 : En} {k : List Int}
theorem scGo_none (z : g d E0 = none) : scGo own g t f acc (d :: ds) E0 = .no := by simp only [scGo, z]
theorem scGo_false (z : g d E0 = some E3) (zt : t E3 = .ok false E4) : scGo own g t f acc (d :: ds) E0 = scGo own g t f acc ds (wipeE E4 own) := by
  rw [scGo]; simp only [z, zt]
theorem scGo_true (z : g d E0 = some E3) (zt : t E3 = .ok true E4) (zf : f E4 = .ok r E5) (zk : take r E5 = .ok v E6) (zu : unT v = some k) : scGo own g t f acc (d :: ds) E0 = if acc.length < 63 then scGo own g t f (putK k acc) ds (wipeE E6 own) else .no := by
  rw [scGo]; simp only [z, zt, zf, zk, zu]
theorem scGo_nou (z : g d E0 = some E3) (zt : t E3 = .ok true E4) (zf : f E4 = .ok r E5) (zk : take r E5 = .ok v E6) (zu : unT v = none) : scGo own g t f acc (d :: ds) E0 = .no := by
  rw [scGo]; simp only [z, zt, zf, zk, zu]
theorem scGo_nok (z : g d E0 = some E3) (zt : t E3 = .ok true E4) (zf : f E4 = .ok r E5) (zk : take r E5 = .no) : scGo own g t f acc (d :: ds) E0 = .no := by
  rw [scGo]; simp only [z, zt, zf, zk]
theorem scGo_nof (z : g d E0 = some E3) (zt : t E3 = .ok true E4) (zf : ∀ r e, f E4 ≠ .ok r e) : scGo own g t f acc (d :: ds) E0 = .no := by
  rw [scGo]; simp only [z, zt]
theorem scGo_not (z : g d E0 = some E3) (zt : ∀ b e, t E3 ≠ .ok b e) : scGo own g t f acc (d :: ds) E0 = .no := by
  rw [scGo]; simp only [z]
  cases q : t E3 with
  | ok b e => exact absurd q (zt b e)
  | ex x e => rfl
  | no => rfl
end
/-- what the machine's set holds, by the keys that were met -/
structure Held (K : PySem.W.Frag) (F : Hp) (L : List (Addr × List Int)) (acc : List (List Int)) : Prop where
  pm : (KeysL L).Perm acc
  tp : ∀ p ∈ L, F p.1 = some (.tup (p.2.map V.int))
theorem Held.mono {K : PySem.W.Frag} {L : List (Addr × List Int)} {acc : List (List Int)} (h : Held K F L acc) (s : Same F F') : Held K F' L acc := ⟨h.pm, fun p hp => s _ _ (h.tp p hp)⟩
theorem Held.put {K : PySem.W.Frag} {L L' : List (Addr × List Int)} {acc : List (List Int)} {k : List Int} {a : Addr} (h : Held K F L acc) (ha : F a = some (.tup (k.map V.int))) (p : Put1 a k L L') : Held K F L' (putK k acc) := by
  by_cases hk : k ∈ KeysL L
  · rw [p.1 hk]
    unfold putK
    rw [if_pos (h.pm.mem_iff.mp hk)]
    exact h
  · have q := p.2 hk
    unfold putK
    rw [if_neg fun z => hk (h.pm.mem_iff.mpr z)]
    have q2 : (KeysL L').Perm (k :: KeysL L) := q.map (·.2)
    refine ⟨(q2.trans (h.pm.cons k)).trans (List.perm_append_comm (l₁ := [k])), fun r hr => ?_⟩
    rcases List.mem_cons.mp (q.mem_iff.mp hr) with e | e
    · rw [e]; exact ha
    · exact h.tp r e
/-- the comprehension, then what is asked of the set -/
theorem sc_ok {own : List Nat} {it : M (List D)} {g : D → B} {t : M Bool} {f : M R} {z : List (List Int) → Option R} {Q P : VK} (rel : Rel X F E σ H) (h : Good X W F E σ H (mSc own it g t f z) Q)
    (fin : ∀ (F1 : Hp) (H1 : Hp) (S : Addr) (L : List (Addr × List Int)) (acc : List (List Int)) (r : R) (E1 : En), Stp X F E σ H F1 E1 σ H1 → F1 S = none → ¬ Own E1 σ S → H1 S = some (SetTO X.prog X.w S L) → Held X.K F1 L acc → acc.length < 64 → z acc = some r → Good X W F1 E1 σ H1 (fun E => .ok r E) Q → P (.ref S) H1) :
    tScT X.prog X.w X.K (rdI X W it) (rdG X own g) (rdT X W0 t) (rdE X W0 f) own σ H P := by
  refine ⟨F, E, rel, ?_⟩
  have h0 := h
  unfold Good mSc at h
  unfold GoodI
  cases q : it E with
  | ok ds E1 =>
    simp only [M.bnd, q] at h
    intro F1 H1 J s w S hS
    by_cases hn : noOwn own E1 = true
    · simp only [if_pos hn] at h
      have sb : Stp X F1 E1 σ H1 F1 (wipeE E1 own) (wipe σ own) H1 := stp_wipe own (Stp.refl s.rel)
      have rb := sb.rel
      refine ⟨fun i m G => m = ds.length - i ∧ i ≤ ds.length ∧ ∃ F' E' acc L, Stp X F1 (wipeE E1 own) (wipe σ own) H1 F' E' (wipe σ own) G ∧ F' S = none ∧ ¬ Own E' (wipe σ own) S ∧ G S = some (SetTO X.prog X.w S L) ∧ Held X.K F' L acc ∧ acc.length < 64 ∧
          scGo own g t f acc (ds.drop i) E' = scGo own g t f [] ds (wipeE E1 own), ⟨ds.length, by simp, Nat.zero_le _, F1, wipeE E1 own, [], [], ?_⟩, fun i m G hW => ?_⟩
      · have n1 : F1 S = none := rb.le.free hS
        have n2 : ¬ Own (wipeE E1 own) (wipe σ own) S := not_own_new rb hS
        exact ⟨stp_updN (Stp.refl rb) n1 n2 hS, n1, n2, upd_same, ⟨List.Perm.refl _, fun p hp => nomatch hp⟩, by decide, rfl⟩
      · obtain ⟨rfl, hle, F', E', acc, L, s1, n1, n2, hH, hA, hl64, heq⟩ := hW
        have sF : Same F1 F' := s1.mono
        have sH : Same F1 G := sF.trans s1.rel.le
        by_cases hlt : i < ds.length
        · rw [List.drop_eq_getElem_cons hlt] at heq
          refine .inr ⟨w.go i G sH hlt, fun H2 => ∃ F' E' acc L, Stp X F1 (wipeE E1 own) (wipe σ own) H1 F' E' (wipe σ own) H2 ∧ F' S = none ∧ ¬ Own E' (wipe σ own) S ∧ H2 S = some (SetTO X.prog X.w S L) ∧ Held X.K F' L acc ∧ acc.length < 64 ∧
            scGo own g t f acc (ds.drop (i + 1)) E' = scGo own g t f [] ds (wipeE E1 own), fun H2 hN => ⟨ds.length - (i + 1), by omega, rfl, hlt, hN⟩, fun x H2 hy => ?_⟩
          obtain ⟨d, hd, hd2⟩ := w.yld i G x H2 sH hlt hy
          rw [List.getElem?_eq_getElem hlt] at hd
          cases hd
          obtain ⟨F2, s2, hI⟩ : ∃ F2, Stp X F' E' (wipe σ own) G F2 E' (wipe σ own) H2 ∧ Is X.K X.mg F2 x ds[i] := by
            rcases hd2 with ⟨rfl, hI⟩ | ⟨p, o, rfl, hp, rfl, hI⟩
            · exact ⟨F', Stp.refl s1.rel, hI.mono sF⟩
            · refine ⟨upd F' p o, Stp.allocF s1.rel hp, hI.mono fun b z q => ?_⟩
              by_cases e : b = p
              · subst e; rw [upd_same] at q ⊢; exact q
              · rw [upd_ne e] at q ⊢; exact sF b z q
          obtain ⟨a0, b0, hZ⟩ : ∃ a b, scGo own g t f [] ds (wipeE E1 own) = .ok a b := by
            cases z : scGo own g t f [] ds (wipeE E1 own) with
            | ok a b => exact ⟨a, b, rfl⟩
            | ex x e => simp only [z] at h
            | no => simp only [z] at h
          rw [hZ] at heq ⊢
          refine ⟨F2, E', ds[i], s2.rel, hI, ?_⟩
          unfold GoodW
          cases z : g ds[i] E' with
          | none => rw [scGo_none z] at heq; cases heq
          | some E3 =>
            intro F3 σ3 H3 s3 ag
            have ew : wipe σ3 own = wipe σ own := (wipe_eq ag).trans (wipe_wipe σ own)
            refine ⟨ew, F3, E3, s3.rel, ?_⟩
            have s23 := s2.trans s3
            unfold GoodB
            cases zt : t E3 with
            | ok b E4 =>
              simp only
              intro F4 H4 s4
              have s24 := s23.trans s4
              cases b with
              | false =>
                rw [scGo_false z zt] at heq
                simp only [Bool.false_eq_true, if_false]
                obtain ⟨m1, m2, m3⟩ := free_kept s24 n1 n2 hH
                have s5 := stp_wipe own (s1.trans s24)
                rw [ew] at s5
                exact ⟨F4, wipeE E4 own, acc, L, s5, m1, fun wn => m2 (own_wipe (vs := own) (by rw [ew]; exact wn)), m3, hA.mono s24.mono, hl64, heq⟩
              | true =>
                simp only [if_true]
                refine ⟨F4, E4, s4.rel, ?_⟩
                unfold Good
                cases zf : f E4 with
                | ok r E5 =>
                  simp only
                  intro F5 H5 y s5 re nw
                  cases zk : take r E5 with
                  | ok v E6 =>
                    obtain ⟨F6, s6, hI6⟩ := take_ok s5 re nw zk
                    have s26 := s24.trans s6
                    obtain ⟨m1, m2, m3⟩ := free_kept s26 n1 n2 hH
                    cases zu : unT v with
                    | none => rw [scGo_nou z zt zf zk zu] at heq; cases heq
                    | some k =>
                      by_cases hl : acc.length < 63
                      · rw [scGo_true z zt zf zk zu, if_pos hl] at heq
                        rw [unT_some zu] at hI6
                        obtain ⟨ta, rfl, hta⟩ := is_keyT hI6
                        have hA' := hA.mono s26.mono
                        refine ⟨ta, k, L, rfl, tupS s6.rel.le hta, m3, fun p hp => tupS s6.rel.le (hA'.tp p hp), ?_, fun L' pt => ?_⟩
                        · have := hA.pm.length_eq
                          rw [List.length_map] at this
                          omega
                        · have s7 := stp_wipe own (s1.trans s26)
                          rw [ew] at s7
                          have m2' : ¬ Own (wipeE E6 own) (wipe σ own) S := fun wn => m2 (own_wipe (vs := own) (by rw [ew]; exact wn))
                          refine ⟨F6, wipeE E6 own, putK k acc, L', stp_updN s7 m1 m2' hS, m1, m2', upd_same, hA'.put hta pt, ?_, heq⟩
                          unfold putK
                          split
                          · exact hl64
                          · rw [List.length_append]; simp; omega
                      · rw [scGo_true z zt zf zk zu, if_neg hl] at heq; cases heq
                  | ex x e => exact (take_no zk).elim
                  | no => rw [scGo_nok z zt zf zk] at heq; cases heq
                | ex x e => rw [scGo_nof z zt (by rw [zf]; exact fun _ _ y => nomatch y)] at heq; cases heq
                | no => rw [scGo_nof z zt (by rw [zf]; exact fun _ _ y => nomatch y)] at heq; cases heq
            | ex x e => rw [scGo_not z (by rw [zt]; exact fun _ _ y => nomatch y)] at heq; cases heq
            | no => rw [scGo_not z (by rw [zt]; exact fun _ _ y => nomatch y)] at heq; cases heq
        · refine .inl ⟨w.stop i G sH (by omega), ?_⟩
          rw [List.drop_of_length_le (by omega)] at heq
          have heq' : scGo own g t f [] ds (wipeE E1 own) = .ok acc E' := heq.symm
          simp only [heq'] at h
          have s4 := s.trans (stp_rest hn s.rel s1)
          have hl : E1.length = E'.length := by
            have h1 := s1.rel.len
            rw [wipe_length] at h1
            rw [s.rel.len, h1]
          cases hz : z acc with
          | none => simp only [hz] at h
          | some r =>
            refine fin F' G S L acc r (rest0 own E1 E') s4 n1 (fun wn => n2 (own_rest hn hl wn)) hH hA hl64 hz ?_
            have e0 : mSc own it g t f z E = .ok r (rest0 own E1 E') := by
              unfold mSc M.bnd
              simp only [q, if_pos hn, heq', hz]
            exact h0.later (E0 := E) (f := fun E => .ok r E) s4 e0
    · simp only [if_neg hn] at h
  | ex x E1 => simp only [M.bnd, q] at h; exact h
  | no => simp only [M.bnd, q] at h
/-- len of a set of tuples -/
def rLenT (K : PySem.W.Frag) (P : Program) (w : World) : List V → Hp → VK → Prop := fun vs H Q => ∃ (a : Addr) (L : List (Addr × List Int)), vs = [V.ref a] ∧ H a = some (SetTO P w a L) ∧ (∀ p ∈ L, SqT K H p.1 (p.2.map V.int)) ∧ Q (.int L.length) H
theorem cr_lenT : CallR X (.builtin "len") (rLenT X.K X.prog X.w) := by
  intro pins s σ H vs us Q I r h
  obtain ⟨a, L, rfl, ha, hk, q⟩ := h
  have R0 : SetT0 X.prog X.w s.heap a L := (I.hok a _ ha).1
  obtain ⟨es, ep, t, R⟩ := R0.full fun p hp => I.isT (hk p hp)
  obtain ⟨o, ho, hex, hd⟩ := R.ob
  have hsz := R.size
  have hfew := R.few
  rw [Vals.ref1 r]
  exact PySem.call_len_set ho hex hd R.fits (by omega) ⟨.int L.length, H, I.tok _, ⟨_, by rw [hsz]⟩, q⟩
def zLen (acc : List (List Int)) : Option R := some (.fz (.int acc.length))
variable {elt tg iter : Expr} {ifs : List Expr} {scope : Scope} {ow : List (Str × Nat)} {it : M (List D)} {g : D → B} {t : M Bool} {f : M R} {p pos pos' : Pos}
theorem d_lenSc {k : Nat} (ow : List (Str × Nat)) (hr : Room k X.A) (hc : X.calm = true) (hN : X.N.Nodup) (hgl : Gl X "len") (hm : X.mg "len" = none) (hi : DI X W tg iter it) (ok : BlkOk X.N X.env.scope scope ow)
    (hg : ∀ (s : Shared) (H : Hp) (C : Addr) (cl : List (Str × Addr)) (fp : List Addr), DGw (X.blk s H scope (compEnvC scope cl C X.env) fp) (ow.map (·.2)) tg g) (ht : ∀ (s : Shared) (H : Hp) (C : Addr) (cl : List (Str × Addr)) (fp : List Addr), DTs (X.blk s H scope (compEnvC scope cl C X.env) fp) W0 ifs t)
    (he : ∀ (s : Shared) (H : Hp) (C : Addr) (cl : List (Str × Addr)) (fp : List Addr), DE (X.blk s H scope (compEnvC scope cl C X.env) fp) W0 elt f) (hs : ∀ x, foldedSetIterable iter X.env x = pure x := by intro _; rfl)
    (na : starEach [.SetComp elt [⟨tg, iter, ifs, 0⟩] scope pos] X.env = (false, eval (.SetComp elt [⟨tg, iter, ifs, 0⟩] scope pos) X.env) :: starEach [] X.env := by rfl) (hpl : (backTo pos' (starEach [] X.env)).any (·.1) = false := by rfl) :
    DE X W (.Call (.Name "len" p) [.SetComp elt [⟨tg, iter, ifs, 0⟩] scope pos] [] pos') (mSc (ow.map (·.2)) it g t f zLen) :=
  ⟨pe_mono (pe_callB cr_lenT hgl hm PySem.boot_len (pa_cons (pe_scT (wi := rdI X W it) (g := rdG X (owS ow) g) (tt := rdT X W0 t) (te := rdE X W0 f) (by have := hu64 hr; omega) hc hN hi.pi ok (fun s H C cl fp => (hg s H C cl fp).pg) (fun s H C cl fp => (ht s H C cl fp).pts) (fun s H C cl fp => (he s H C cl fp).pe) hs) pa_nil na) (by decide) (by decide) na hpl)
    fun σ H Q ⟨F, E, rel, h⟩ => sc_ok (P := fun x H1 => rLenT X.K X.prog X.w [x] H1 Q) rel h fun F1 H1 S L acc r E1 s n1 n2 hS hA hl hz hq => by
      refine ⟨S, L, rfl, hS, fun p hp => tupS s.rel.le (hA.tp p hp), ?_⟩
      cases hz
      have := hA.pm.length_eq
      rw [List.length_map] at this
      rw [this]
      exact hq.here s.rel rfl (.int _) trivial⟩
end
end DL
-- SC
set_option maxHeartbeats 2000000
namespace DL
open PySem PySem.Spec PyProof.Rows L2
section
variable {X : Cx}
/-- storing by a comprehension, by what stands behind it -/
theorem set_put {pins : List (Addr × Obj)} {σ : L2.St} {H H' : Hp} {s : Shared} {Er : Value → Shared → Prop} {S : Addr} {y v : V} {u r : Value} {Q : Unit → Shared → Prop} (hu : X.A.units + 1 < cLine) (I : Inv X pins σ H s) (g : DPut H S y v H') (ry : RelV y u) (rv : RelV v r) (h : ∀ s', Inv X pins σ H' s' → Q () s') :
    wpAny (model X.prog X.w) X.A (dictSet S u r) Q Er s := by
  rcases g with ⟨kvs, k, e, ey, l, eH⟩ | ⟨kvs, k, b, e, ey, eb, l, eH⟩
  · subst ey; subst eH
    exact d_dictSet I e l ry rv h
  · subst ey; subst eH
    cases (show u = Value.ref b from ry)
    obtain ⟨z, nd, xs, rel, dd⟩ := dt_of I.hok e
    have few : (L2.putK kvs k v).length ≤ sizeLine := by have := length_putK kvs k v; omega
    refine wpAny_dictSet_heap (hsz := by rw [← Paired.length rel]; exact z) (knd := tupleKind (mixKind X.prog X.w)) (show (tupleKind (mixKind X.prog X.w)).room X.A from Nat.lt_of_succ_lt hu) (key_of I.hok eb) dd fun h' dd' hs => h _ ?_
    obtain ⟨q, es, ep, hq, h2, h3, h4, _, h5⟩ := dd'
    refine d_write I (by rw [e]; exact True.intro) hs ⟨q, hq⟩ ⟨few, nd, _, (rel.put k eb rv).keeps fun c ys ec => ?_, q, es, ep, hq, h2, h3, h4, h5⟩
    rw [upd_ne (ne_of ec e (fun z => nomatch z))]; exact ec
/-- {k: v for target in iter if ..}: S the new dict, o0 what it is while it is empty -/
def tDcG (o0 : HO) (wi : TI) (g : TG) (tt : TT) (tk tv : TE) (vs : List Nat) : TE := fun σ H Q => wi σ H fun J H1 => ∀ S, H1 S = none → ∃ W : Nat → Nat → Hp → Prop, (∃ m, W 0 m (upd H1 S o0)) ∧ ∀ i m G, W i m G →
  (J.stop i G ∧ Q (.ref S) G) ∨ (J.go i G ∧ ∃ N : Hp → Prop, (∀ G', N G' → ∃ m', m' < m ∧ W (i + 1) m' G') ∧ ∀ x G1, J.yld i G x G1 → g x (wipe σ vs) G1 fun τ G2 => wipe τ vs = wipe σ vs ∧ tt τ G2 fun b G3 =>
    if b = true then tk τ G3 fun y G4 => tv τ G4 fun z G5 => ∃ G6, DPut G5 S y z G6 ∧ N G6 else N G3)
theorem dcG_core {o0 : HO} {pins : List (Addr × Obj)} {s : Shared} {σ : L2.St} {H : Hp} {Q : VK} {kx vx tg iter : Expr} {ifs : List Expr} {scope : Scope} {own : List (PySem.Str × Nat)} {pos pos' : Pos} {wi : TI} {g : TG} {tt : TT} {tk tv : TE} {use : Option (Value → Sem Unit)} {Qf : Value → Shared → Prop} (h00 : o0 = .dK [] ∨ o0 = .dT []) (hu : X.A.units + 1 < cLine) (hc : X.calm = true) (hN : X.N.Nodup) (I : Inv X pins σ H s) (hi : PI X tg iter wi) (ok : BlkOk X.N X.env.scope scope own)
    (hg : ∀ (s : Shared) (G : Hp) (C : Addr) (cl : List (PySem.Str × Addr)) (fp : List Addr), PG (X.blk s G scope (compEnvC scope cl C X.env) fp) tg g) (ht : ∀ (s : Shared) (G : Hp) (C : Addr) (cl : List (PySem.Str × Addr)) (fp : List Addr), PTs (X.blk s G scope (compEnvC scope cl C X.env) fp) ifs tt)
    (hk : ∀ (s : Shared) (G : Hp) (C : Addr) (cl : List (PySem.Str × Addr)) (fp : List Addr), PE (X.blk s G scope (compEnvC scope cl C X.env) fp) kx tk)
    (he : ∀ (s : Shared) (G : Hp) (C : Addr) (cl : List (PySem.Str × Addr)) (fp : List Addr), PE (X.blk s G scope (compEnvC scope cl C X.env) fp) vx tv) (hs : ∀ x, foldedSetIterable iter X.env x = pure x)
    (h : tDcG o0 wi g tt tk tv (own.map (·.2)) σ H Q) (leave : ∀ S C s' m G, Inv X pins σ G s' → Q (.ref S) G → s'.heap.Ns C m → FpOk X pins G C → compPost (model X.prog X.w) X.A X.xe use Qf (.ref S) C (.ok .next) s') :
    wpAny (model X.prog X.w) X.A (comprehension (.DictComp kx vx [⟨tg, iter, ifs, 0⟩] scope pos) scope X.env pos' newDict false (eval iter X.env) use) Qf X.xe s := by
  have cap : ∀ y ∈ scope.names, y.2 = .free → ∃ c, X.env.cells.lookup y.1 = some c := fun y hy e => (ok.free y hy e).elim (fun z => I.ok.has _ (.inl z)) fun z => I.ok.has _ (.inr z)
  refine wpAny_comprehension_free (use := use) rfl hs (closure_ok cap) ok.kind (fun y hy e => by rw [ok.uniq y hy, e]) (thn (hi.run pins s σ H _ I h) fun xv s1 hx => thn hx fun itv s2 h2 => ?_)
  obtain ⟨it, fp, tn, J, H2, e, I2, T, st2, f2, q⟩ := h2
  subst e
  refine wpAny_newObj_type (newEnv_comp ?_)
  -- the set, empty, at S
  obtain ⟨S, hS⟩ : ∃ S, S = s2.heap.objs.size := ⟨_, rfl⟩
  rw [← hS]
  have hSn : H2 S = none := I2.hok.fresh (Nat.le_of_eq hS.symm)
  obtain ⟨W, ⟨m0, w0⟩, turn⟩ := q S hSn
  obtain ⟨s3, hs3⟩ : ∃ s3 : Shared, s3 = { s2 with heap := s2.heap.push { cls := .type "dict", data := .dict #[] } } := ⟨_, rfl⟩
  have p3 : s3.heap = s2.heap.push { cls := .type "dict", data := .dict #[] } := by rw [hs3]
  have I3 : Inv X pins σ (upd H2 S (o0)) s3 := by
    rw [hs3]
    refine I2.laid (t' := s2.toks) (fun b o e => Heap.get?_push_of_some _ e) (Nat.le_of_eq hS.symm) ?_
    rw [hS]
    rcases h00 with z | z
    · rw [z]; exact dk_empty s2.heap I2.big
    · rw [z]; exact dt_empty s2.heap I2.big
  have old : ∀ b ∈ fp, b < s2.heap.objs.size := fun b hb => (T.obj _ _ st2 b hb).elim fun o z => Heap.lt_size z.1
  have f3 : ∀ b ∈ fp, FpOk X pins (upd H2 S (o0)) b ∧ b < s3.heap.objs.size := fun b hb => ⟨⟨by rw [upd_ne (by rw [hS]; exact Nat.ne_of_lt (old b hb))]; exact (f2 b hb).1, (f2 b hb).2⟩, by rw [p3, Heap.size_push]; exact Nat.lt_succ_of_lt (old b hb)⟩
  have st3 : tn 0 s3.heap := T.keep _ _ _ st2 fun b _ o e => by rw [p3]; exact Heap.get?_push_of_some _ e
  rw [← hs3]
  have I4 := block_start I3 ok hN f3
  have pg := hg s3 (upd H2 S (o0)) s3.heap.objs.size (cellsFrom (s3.heap.objs.size + 1) scope.names (cloFrom X.env.cells scope.names [])) fp
  have pt := ht s3 (upd H2 S (o0)) s3.heap.objs.size (cellsFrom (s3.heap.objs.size + 1) scope.names (cloFrom X.env.cells scope.names [])) fp
  have pk := hk s3 (upd H2 S (o0)) s3.heap.objs.size (cellsFrom (s3.heap.objs.size + 1) scope.names (cloFrom X.env.cells scope.names [])) fp
  have pe := he s3 (upd H2 S (o0)) s3.heap.objs.size (cellsFrom (s3.heap.objs.size + 1) scope.names (cloFrom X.env.cells scope.names [])) fp
  obtain ⟨ce, hce⟩ : ∃ ce, ce = compEnvC scope (cellsFrom (s3.heap.objs.size + 1) scope.names (cloFrom X.env.cells scope.names [])) s3.heap.objs.size X.env := ⟨_, rfl⟩
  show codeAny _ _ (.compStart (.DictComp kx vx [⟨tg, iter, ifs, 0⟩] scope pos) 0 (.ref it) (.ref S) (compEnvC scope (cellsFrom (s3.heap.objs.size + 1) scope.names (cloFrom X.env.cells scope.names [])) s3.heap.objs.size X.env)) (compPost (model X.prog X.w) X.A X.xe use Qf (.ref S) s3.heap.objs.size)
    { s3 with heap := pushCells (s3.heap.push { cls := .type "dict", data := .dict #[] }) scope.names }
  rw [← hce] at I4 pg pt pk pe ⊢
  have cL : ce.locals = s3.heap.objs.size := by rw [hce]; rfl
  obtain ⟨s4, hs4⟩ : ∃ s4 : Shared, s4 = { s3 with heap := pushCells (s3.heap.push { cls := .type "dict", data := .dict #[] }) scope.names } := ⟨_, rfl⟩
  rw [← hs4] at I4 ⊢
  have st4 : tn 0 s4.heap := T.keep _ _ _ st3 fun b _ o e => by rw [hs4]; exact pushCells_keeps _ _ _ _ (Heap.get?_push_of_some _ e)
  obtain ⟨H3, hH3⟩ : ∃ H3, H3 = upd H2 S (o0) := ⟨_, rfl⟩
  rw [← hH3] at I3 I4 pg pt pk pe w0 f3
  have free0 : ∀ b ∈ fp, H3 b = none := fun b hb => (f3 b hb).1.1
  have still : ∀ {σ' : L2.St} {H' : Hp} {s' : Shared}, Inv (X.blk s3 H3 scope ce fp) [] σ' H' s' → (∀ b ∈ fp, H' b = none) → ∀ b ∈ fp, FpOk (X.blk s3 H3 scope ce fp) [] H' b := fun {σ' H' s'} J' hn b hb =>
    ⟨hn b hb, (J'.ok.exf b hb).1, J'.ok.exfs b hb, .inl hb, fun x c e => (J'.ok.exf b hb).2 x c e, fun p hp => absurd (show p ∈ ([] : List (Addr × Obj)) ++ [] from hp) (by simp)⟩
  have loop : codeAny (model X.prog X.w) X.A (.compLoop (.DictComp kx vx [⟨tg, iter, ifs, 0⟩] scope pos) 0 (.ref it) (.ref S) ce) (compPost (model X.prog X.w) X.A X.xe use Qf (.ref S) s3.heap.objs.size) s4 := by
    refine compLoop_anyD (fun n s' => ∃ i G, Inv (X.blk s3 H3 scope ce fp) [] (wipe σ (own.map (·.2))) G s' ∧ tn i s'.heap ∧ (∀ b ∈ fp, G b = none) ∧ W i n G) (fun n s5 hh => ?_) m0 ⟨0, H3, I4, st4, free0, w0⟩
    obtain ⟨i, H5, I5, st5, n5, w5⟩ := hh
    rcases turn i n H5 w5 with ⟨stop, qq⟩ | ⟨go, N, hN', step⟩
    · refine thnF (T.done (X.blk s3 H3 scope ce fp) rfl rfl rfl hc i [] s5 _ H5 (fun _ _ => False) I5 (still I5 n5) st5 stop) fun r s6 ⟨hr, I6⟩ => ?_
      subst hr
      have I7 : Inv X pins σ H5 s6 := I3.call' (ch := fp) I6.os I6.base I6.hok I6.bare fun b hb => let z := (f3 b hb).1.2; ⟨z.2.2.1, z.1, z.2.2.2.1, z.2.2.2.2⟩
      have nC : H5 s3.heap.objs.size = none := by rw [← cL]; exact I6.free
      obtain ⟨m, hn, _⟩ := I6.loc
      replace hn : s6.heap.Ns ce.locals m := hn
      rw [cL] at hn
      exact leave S s3.heap.objs.size s6 m H5 I7 qq hn (I3.fpOk (Nat.le_refl _) nC)
    · refine thnF (T.item (X.blk s3 H3 scope ce fp) rfl rfl rfl hc i [] s5 _ H5 (fun _ _ => False) I5 (still I5 n5) st5 go) fun r s6 ⟨u, hr, h6⟩ => ?_
      subst hr
      refine thnF h6 fun _ s7 ⟨x, H7, I7, r7, y7, st7, n7⟩ => ?_
      refine thnF (pg.run _ s7 _ H7 x u _ (I7.pinned (still I7 n7) (T.obj _ _ st7)) r7 (step x H7 y7)) fun _ s8 ⟨σ8, H8, I8, hw8, q8⟩ => ?_
      refine thnF (pt.run _ s8 σ8 H8 _ I8 q8) fun b s9 ⟨H9, I9, q9⟩ => ?_
      have fin : ∀ {s' : Shared} {G : Hp}, Inv (X.blk s3 H3 scope ce fp) ([] ++ pinsAt fp s7.heap) σ8 G s' → N G → ∃ m, m < n ∧ ∃ i G, Inv (X.blk s3 H3 scope ce fp) [] (wipe σ (own.map (·.2))) G s' ∧ tn i s'.heap ∧ (∀ b ∈ fp, G b = none) ∧ W i m G := fun {s' G} J' nx => by
        obtain ⟨m', hm, w'⟩ := hN' G nx
        have kp : ∀ b ∈ fp, ∀ o, s7.heap.get? b = some o → s'.heap.get? b = some o ∧ G b = none := fun b hb o e => let z := J'.pin (b, o) (List.mem_append_right _ (List.mem_append_right _ (mem_pinsAt hb e))); ⟨z.1, z.2.1⟩
        refine ⟨m', hm, i + 1, G, (J'.unpinned (pins := [])).weak (by rw [← hw8, wipe_length]) (fun j v e => ?_), T.keep _ _ _ st7 fun b hb o e => (kp b hb o e).1, fun b hb => ?_, w'⟩
        · rw [← hw8] at e; exact (wipe_some e).1
        · exact (T.obj _ _ st7 b hb).elim fun o z => (kp b hb o z.1).2
      cases b with
      | false =>
        rw [if_neg Bool.false_ne_true] at q9 ⊢
        exact fin I9 q9
      | true =>
        rw [if_pos rfl] at q9 ⊢
        refine thnF (pk.run _ s9 σ8 H9 _ I9 q9) fun z s10 ⟨yk, H10, I10, r10, q10⟩ => ?_
        refine thnF (pe.run _ s10 σ8 H10 _ I10 q10) fun z2 s11 ⟨yv, H11, I11, r11, H12, dp, nx⟩ => ?_
        exact set_put (X := X.blk s3 H3 scope ce fp) hu I11 dp r10 r11 fun s12 I12 => fin I12 nx
  exact codeAny_compStart_dict loop (T.self X.A 0 _ _ _ st4 loop)
theorem pe_dcG {o0 : HO} {kx vx tg iter : Expr} {ifs : List Expr} {scope : Scope} {own : List (PySem.Str × Nat)} {pos : Pos} {wi : TI} {g : TG} {tt : TT} {tk tv : TE} (h00 : o0 = .dK [] ∨ o0 = .dT []) (hu : X.A.units + 1 < cLine) (hc : X.calm = true) (hN : X.N.Nodup) (hi : PI X tg iter wi) (ok : BlkOk X.N X.env.scope scope own)
    (hg : ∀ (s : Shared) (G : Hp) (C : Addr) (cl : List (PySem.Str × Addr)) (fp : List Addr), PG (X.blk s G scope (compEnvC scope cl C X.env) fp) tg g) (ht : ∀ (s : Shared) (G : Hp) (C : Addr) (cl : List (PySem.Str × Addr)) (fp : List Addr), PTs (X.blk s G scope (compEnvC scope cl C X.env) fp) ifs tt)
    (hk : ∀ (s : Shared) (G : Hp) (C : Addr) (cl : List (PySem.Str × Addr)) (fp : List Addr), PE (X.blk s G scope (compEnvC scope cl C X.env) fp) kx tk)
    (he : ∀ (s : Shared) (G : Hp) (C : Addr) (cl : List (PySem.Str × Addr)) (fp : List Addr), PE (X.blk s G scope (compEnvC scope cl C X.env) fp) vx tv) (hs : ∀ x, foldedSetIterable iter X.env x = pure x := by intro _; rfl) :
    PE X (.DictComp kx vx [⟨tg, iter, ifs, 0⟩] scope pos) (tDcG o0 wi g tt tk tv (own.map (·.2))) := by
  refine ⟨fun pins s σ H Q I h => ?_⟩
  rw [arm_eval_DictComp]
  refine dcG_core h00 hu hc hN I hi ok hg ht hk he hs h fun S C s' m G I' q hn f => ⟨m, hn, fun h'' sb => ?_⟩
  obtain ⟨y0, y1, y2, y3, y4, y5⟩ := f
  exact ⟨.ref S, G, I'.turned (t' := s'.toks) (fun b o hb e => (sb.2 b hb).trans e) y0 y1 y3 y4 y5, rfl, q⟩
/-- stored to a name at once -/
theorem ps_setDcG {o0 : HO} {i : Nat} {y : Str} {py : Pos} {kx vx tg iter : Expr} {ifs : List Expr} {scope : Scope} {own : List (PySem.Str × Nat)} {pos spos : Pos} {wi : TI} {g : TG} {tt : TT} {tk tv : TE} (h00 : o0 = .dK [] ∨ o0 = .dT []) (hu : X.A.units + 1 < cLine) (hc : X.calm = true) (hN : X.N.Nodup)
    (hy : X.N[i]? = some y) (hyl : X.env.scope.names.lookup y = some .local) (hsw : swapsWith (.DictComp kx vx [⟨tg, iter, ifs, 0⟩] scope pos) (some (.Name y py)) spos.line X.env = pure true) (hi : PI X tg iter wi) (ok : BlkOk X.N X.env.scope scope own)
    (hg : ∀ (s : Shared) (G : Hp) (C : Addr) (cl : List (PySem.Str × Addr)) (fp : List Addr), PG (X.blk s G scope (compEnvC scope cl C X.env) fp) tg g) (ht : ∀ (s : Shared) (G : Hp) (C : Addr) (cl : List (PySem.Str × Addr)) (fp : List Addr), PTs (X.blk s G scope (compEnvC scope cl C X.env) fp) ifs tt)
    (hk : ∀ (s : Shared) (G : Hp) (C : Addr) (cl : List (PySem.Str × Addr)) (fp : List Addr), PE (X.blk s G scope (compEnvC scope cl C X.env) fp) kx tk)
    (he : ∀ (s : Shared) (G : Hp) (C : Addr) (cl : List (PySem.Str × Addr)) (fp : List Addr), PE (X.blk s G scope (compEnvC scope cl C X.env) fp) vx tv) (hs : ∀ x, foldedSetIterable iter X.env x = pure x := by intro _; rfl) :
    PS X (.Assign [.Name y py] (.DictComp kx vx [⟨tg, iter, ifs, 0⟩] scope pos) spos) (tAsg (tDcG o0 wi g tt tk tv (own.map (·.2))) (gName i)) := by
  refine ⟨fun pins s σ H D I h => ?_⟩
  rw [exec_Assign_Name_used _ _ _ _ hsw]
  refine wpAny_bind (wpAny_standAt (wpAny_bind ?_))
  show wpAny _ X.A (do let _ ← comprehension (.DictComp kx vx [⟨tg, iter, ifs, 0⟩] scope pos) scope X.env (firstIterPos [⟨tg, iter, ifs, 0⟩] pos) newDict false (eval iter X.env) (some (assign (.Name y py) X.env))) _ _ s
  replace h : tDcG o0 wi g tt tk tv (own.map (·.2)) σ H (fun x G => gName i x σ G D.nx) := h
  refine wpAny_bind (thn (dcG_core (Qf := fun _ s' => SP X pins D .next s') h00 hu hc hN I hi ok hg ht hk he hs h fun S C s' m G I' q hn f => ?_) fun _ s' hq => wpAny_pure (wpAny_pure hq))
  show wpAny _ _ (assign (.Name y py) X.env (.ref S)) _ _ _
  refine wpAny_assign_Name (store_ok2 (v := V.ref S) I' hN hy (.inl hyl) rfl (fun s2 I2 ⟨a, sb, ha⟩ => ?_) (.inr hyl))
  obtain ⟨y0, y1, y2, y3, y4, y5⟩ := f
  refine ⟨m, hn.sameBut sb (ha.elim (fun z => by rw [z]; exact y1) fun z e => y4 y a z e.symm), fun h3 sb3 => ?_⟩
  exact ⟨_, G, I2.turned (t' := s2.toks) (fun b o hb e => (sb3.2 b hb).trans e) y0 y1 y3 y4 y5, q⟩
theorem sw_dict {kx vx : Expr} {gs : List Comprehension} {scope : Scope} {pos py : Pos} {y : Str} {l : Nat} {env : Env} (hk : env.scope.kind = .function) (hy : env.scope.names.lookup y = some .local) (hl : (py.line == pos.line) = true)
    (ha : (scope.names.any fun (n, k) => n == y && (k == .local || k == .cell)) = false) : swapsWith (.DictComp kx vx gs scope pos) (some (.Name y py)) l env = pure true := by
  have ky : env.kindOf y = some .local := hy
  have hb : env.blockKind = .function := by unfold Env.blockKind; rw [hk]; rfl
  unfold swapsWith
  simp only [hb, ky, ha, Expr.pos, hl]
  rfl
end
end DL
-- SD
namespace DL
open PySem PySem.Spec PyProof.Rows L2
section
variable {κ : Type} [DecidableEq κ]
def valD (kvs : List (κ × D)) (k : κ) : Option D := (kvs.find? fun e => decide (e.1 = k)).map (·.2)
def putD (kvs : List (κ × D)) (k : κ) (d : D) : List (κ × D) := if (kvs.any fun e => decide (e.1 = k)) = true then kvs.map (fun e => if e.1 = k then (e.1, d) else e) else kvs ++ [(k, d)]
end
inductive IsKV (K : PySem.W.Frag) (mg : Str → Option Value) (F : Hp) {κ : Type} : List (κ × V) → List (κ × D) → Prop
  | nil : IsKV K mg F [] []
  | cons {k : κ} {v : V} {d : D} {r : List (κ × V)} {q : List (κ × D)} : Is K mg F v d → IsKV K mg F r q → IsKV K mg F ((k, v) :: r) ((k, d) :: q)
section
variable {κ : Type} {K : PySem.W.Frag} {mg : Str → Option Value} {F : Hp}
theorem isKV_of : ∀ {vs : List (κ × V)} {kvs : List (κ × D)}, vs.map (·.1) = kvs.map (·.1) → IsAll K mg F (vs.map (·.2)) (kvs.map (·.2)) → IsKV K mg F vs kvs
  | [], [], _, _ => .nil
  | [], _ :: _, h, _ => by simp at h
  | _ :: _, [], h, _ => by simp at h
  | (k, v) :: vs, (k', d) :: kvs, h, r => by
    simp only [List.map_cons, List.cons.injEq] at h
    obtain ⟨rfl, h⟩ := h
    rw [List.map_cons, List.map_cons] at r
    cases r with
    | cons a b => exact .cons a (isKV_of h b)
theorem IsKV.keys {vs : List (κ × V)} {kvs : List (κ × D)} (h : IsKV K mg F vs kvs) : vs.map (·.1) = kvs.map (·.1) := by
  induction h with
  | nil => rfl
  | cons _ _ ih => simp only [List.map_cons, ih]
theorem IsKV.vals {vs : List (κ × V)} {kvs : List (κ × D)} (h : IsKV K mg F vs kvs) : IsAll K mg F (vs.map (·.2)) (kvs.map (·.2)) := by
  induction h with
  | nil => exact .nil
  | cons a _ ih => exact .cons a ih
theorem IsKV.length {vs : List (κ × V)} {kvs : List (κ × D)} (h : IsKV K mg F vs kvs) : vs.length = kvs.length := by
  have := congrArg List.length h.keys
  simpa using this
variable [DecidableEq κ]
theorem IsKV.val {vs : List (κ × V)} {kvs : List (κ × D)} (h : IsKV K mg F vs kvs) (k : κ) : match valD kvs k with
    | some d => ∃ v, valV vs k = some v ∧ Is K mg F v d
    | none => valV vs k = none := by
  induction h with
  | nil => exact rfl
  | @cons k' v d r q a _ ih =>
    by_cases e : k' = k
    · rw [valV_pos (p := (k', v)) (r := r) e]
      have : valD ((k', d) :: q) k = some d := by simp [valD, List.find?_cons, e]
      rw [this]
      exact ⟨v, rfl, a⟩
    · rw [valV_neg (p := (k', v)) (r := r) e]
      have : valD ((k', d) :: q) k = valD q k := by simp [valD, List.find?_cons, e]
      rw [this]
      exact ih
theorem IsKV.has {vs : List (κ × V)} {kvs : List (κ × D)} (h : IsKV K mg F vs kvs) (k : κ) : (valV vs k).isSome = (valD kvs k).isSome := by
  have := h.val k
  cases z : valD kvs k with
  | none => rw [z] at this; rw [this]; rfl
  | some d => rw [z] at this; obtain ⟨v, e, _⟩ := this; rw [e]; rfl
theorem IsKV.any {vs : List (κ × V)} {kvs : List (κ × D)} (h : IsKV K mg F vs kvs) (k : κ) : (vs.any fun e => decide (e.1 = k)) = (kvs.any fun e => decide (e.1 = k)) := by
  induction h with
  | nil => rfl
  | cons _ _ ih => rw [List.any_cons, List.any_cons, ih]
theorem IsKV.app {vs ws : List (κ × V)} {kvs lvs : List (κ × D)} (h : IsKV K mg F vs kvs) (g : IsKV K mg F ws lvs) : IsKV K mg F (vs ++ ws) (kvs ++ lvs) := by
  induction h with
  | nil => exact g
  | cons a _ ih => exact .cons a ih
theorem IsKV.put {vs : List (κ × V)} {kvs : List (κ × D)} {v : V} {d : D} (h : IsKV K mg F vs kvs) (k : κ) (a : Is K mg F v d) : IsKV K mg F (L2.putK vs k v) (putD kvs k d) := by
  unfold L2.putK putD
  rw [h.any k]
  split
  · induction h with
    | nil => exact .nil
    | @cons k' v' d' r q a' _ ih =>
      rw [List.map_cons, List.map_cons]
      by_cases e : k' = k
      · simp only [e, if_true]
        exact .cons a (by simpa using mapP a k ‹_›)
      · simp only [e, if_false]
        exact .cons a' (mapP a k ‹_›)
  · exact h.app (.cons a .nil)
where
  mapP {v : V} {d : D} (a : Is K mg F v d) (k : κ) {vs : List (κ × V)} {kvs : List (κ × D)} (h : IsKV K mg F vs kvs) : IsKV K mg F (vs.map (fun e => if e.1 = k then (e.1, v) else e)) (kvs.map (fun e => if e.1 = k then (e.1, d) else e)) := by
    induction h with
    | nil => exact .nil
    | @cons k' v' d' r q a' _ ih =>
      rw [List.map_cons, List.map_cons]
      by_cases e : k' = k
      · simp only [e, if_true]
        exact .cons a (by simpa using ih)
      · simp only [e, if_false]
        exact .cons a' ih
end
def keyD : D → Option Key
  | .int i => some (.inl i)
  | .str x => some (.inr x)
  | _ => none
def keysD : List D → Option (List Key)
  | [] => some []
  | d :: ds => match keyD d, keysD ds with
    | some k, some ks => some (k :: ks)
    | _, _ => none
section
variable {K : PySem.W.Frag} {mg : Str → Option Value} {F H : Hp}
theorem keyD_ok {x : V} {d : D} {k : Key} (h : Is K mg F x d) (e : keyD d = some k) : x = kV k := by
  cases h <;> first
    | (cases e; rfl)
    | cases e
theorem keyD_ok1 {x : V} {d : D} {k : Key} (h : Is1 K mg F H x d) (e : keyD d = some k) : x = kV k := by
  cases h <;> first
    | (cases e; rfl)
    | cases e
theorem keysD_ok : ∀ {vs : List V} {ds : List D} {ks : List Key}, IsAll K mg F vs ds → keysD ds = some ks → vs = ks.map kV
  | _, _, _, .nil, e => by cases e; rfl
  | _, _, _, .cons (d := d) (ds := ds) h t, e => by
    unfold keysD at e
    cases z : keyD d with
    | none => simp [z] at e
    | some k =>
      cases z2 : keysD ds with
      | none => simp [z, z2] at e
      | some ks =>
        simp only [z, z2, Option.some.injEq] at e
        subst e
        rw [List.map_cons, keyD_ok h z, keysD_ok t z2]
end
/-- what a dict holds at a key -/
def dGet : D → D → Option (Option D)
  | .dk kvs, k => (keyD k).map (valD kvs)
  | .dt kvs, .tup ds => (keysD ds).map (valD kvs)
  | _, _ => none
def dPut : D → D → D → Option D
  | .dk kvs, k, d => if kvs.length < 100000 then (keyD k).map fun k => .dk (putD kvs k d) else none
  | .dt kvs, .tup ds, d => if kvs.length < 100000 then (keysD ds).map fun k => .dt (putD kvs k d) else none
  | _, _, _ => none
def OptIs (K : PySem.W.Frag) (mg : Str → Option Value) (F : Hp) : Option V → Option D → Prop
  | some v, some d => Is K mg F v d
  | none, none => True
  | _, _ => False
section
variable {X : Cx} {W : WX} {F F1 F' : Hp} {E E1 E' : En} {σ σ1 σ' : L2.St} {H H1 H' : Hp}
variable {a b c e o tg iter : Expr} {st : Stmt} {body rest orelse : List Stmt} {es : List Expr} {fa fb fc fi fv : M R} {pos tpos p' : Pos} {i : Nat} {x : Str}
theorem IsKV.opt {κ : Type} [DecidableEq κ] {K : PySem.W.Frag} {mg : Str → Option Value} {vs : List (κ × V)} {kvs : List (κ × D)} (h : IsKV K mg F vs kvs) (k : κ) : OptIs K mg F (valV vs k) (valD kvs k) := by
  have := h.val k
  cases z : valD kvs k with
  | none => rw [z] at this; rw [this]; trivial
  | some d => rw [z] at this; obtain ⟨v, e, q⟩ := this; rw [e]; exact q
theorem dGet_ok {x y : V} {d k : D} {r : Option D} (s : Same F H) (hx : Is1 X.K X.mg F H x d) (hy : Is1 X.K X.mg F H y k) (e : dGet d k = some r) : ∃ a w, x = .ref a ∧ DGet H a y w ∧ OptIs X.K X.mg F w r := by
  cases hx with
  | @dk a vs kvs q ks is =>
    unfold dGet at e
    cases z : keyD k with
    | none => simp [z] at e
    | some kk =>
      simp only [z, Option.map_some, Option.some.injEq] at e
      subst e
      rw [keyD_ok1 hy z]
      exact ⟨a, _, rfl, DGet.k q, (isKV_of ks is).opt kk⟩
  | @dt a vs kvs q ks is =>
    cases hy with
    | @tup b ws ds h r =>
      unfold dGet at e
      cases z : keysD ds with
      | none => simp [z] at e
      | some kk =>
        simp only [z, Option.map_some, Option.some.injEq] at e
        subst e
        rw [keysD_ok r z] at h
        exact ⟨a, _, rfl, DGet.t q (s _ _ h), (isKV_of ks is).opt kk⟩
    | _ => simp [dGet] at e
  | _ => simp [dGet] at e
theorem dPut_ok {p : Addr} {y v : V} {c k d c' : D} (s : Same F H) (n : F p = none) (hc : Cont X.K X.mg F H p c) (hy : Is1 X.K X.mg F H y k) (hv : Is X.K X.mg F v d) (e : dPut c k d = some c') : ∃ ob, DPut H p y v (upd H p ob) ∧ Cont X.K X.mg F (upd H p ob) p c' := by
  cases c with
  | dk kvs =>
    obtain ⟨vs, q, ks, is⟩ := hc
    unfold dPut at e; dsimp only at e
    by_cases hl : kvs.length < 100000
    · rw [if_pos hl] at e
      cases z : keyD k with
      | none => simp [z] at e
      | some kk =>
        simp only [z, Option.map_some, Option.some.injEq] at e
        subst e
        rw [keyD_ok1 hy z]
        have r := isKV_of ks is
        have r2 := r.put kk hv
        exact ⟨_, DPut.k q (line_lt (by rw [r.length]; exact hl)), _, upd_same, r2.keys, r2.vals⟩
    · rw [if_neg hl] at e; cases e
  | dt kvs =>
    obtain ⟨vs, q, ks, is⟩ := hc
    cases hy with
    | @tup b ws ds h r0 =>
      unfold dPut at e; dsimp only at e
      by_cases hl : kvs.length < 100000
      · rw [if_pos hl] at e
        cases z : keysD ds with
        | none => simp [z] at e
        | some kk =>
          simp only [z, Option.map_some, Option.some.injEq] at e
          subst e
          rw [keysD_ok r0 z] at h
          have r := isKV_of ks is
          have r2 := r.put kk hv
          exact ⟨_, DPut.t q (s _ _ h) (line_lt (by rw [r.length]; exact hl)), _, upd_same, r2.keys, r2.vals⟩
      · rw [if_neg hl] at e; cases e
    | _ => simp [dPut] at e
  | _ => simp [dPut] at e
def rInDc (n : Bool) : R2 := fun x y H Q => ∃ a w, y = .ref a ∧ DGet H a x w ∧ Q (.bl (if n then !w.isSome else w.isSome)) H
theorem op_inDc (hu : X.A.units + 1 < cLine) : OpR X (compareOp .In) (rInDc false) := by
  intro pins s σ H x y v u Q I rx ry h
  obtain ⟨a, w, rfl, g, q⟩ := h
  cases ry
  exact L2.d_in hu I g rx fun s' I' => ⟨.bl _, H, I', rfl, q⟩
theorem op_notInDc (hu : X.A.units + 1 < cLine) : OpR X (compareOp .NotIn) (rInDc true) := by
  intro pins s σ H x y v u Q I rx ry h
  obtain ⟨a, w, rfl, g, q⟩ := h
  cases ry
  exact L2.d_notIn hu I g rx fun s' I' => ⟨.bl _, H, I', rfl, q⟩
def inAny (x y : D) : Option Bool := match y with
  | .dk _ => (dGet y x).map (·.isSome)
  | .dt _ => (dGet y x).map (·.isSome)
  | _ => inS x y
def gInA (x y : D) : Option R := (inAny x y).map fun c => .fz (.bl c)
def gNotInA (x y : D) : Option R := (inAny x y).map fun c => .fz (.bl (!c))
theorem optIs_some {K : PySem.W.Frag} {mg : Str → Option Value} {w : Option V} {r : Option D} (h : OptIs K mg F w r) : w.isSome = r.isSome := by
  cases w <;> cases r <;> first | rfl | exact h.elim
theorem inAny_ok {x y : V} {a b : D} {k : Bool} (n : Bool) (s : Same F H) (ha : Is1 X.K X.mg F H x a) (hb : Is1 X.K X.mg F H y b) (e : inAny a b = some k) {Q : VK} (q : Q (.bl (if n then !k else k)) H) : rInS X.K n x y H Q ∨ rInDc n x y H Q := by
  have dict : dGet b a = some (some .non) ∨ (∃ r, dGet b a = some r ∧ r.isSome = k) → rInDc n x y H Q ∨ dGet b a = some (some .non) := by
    rintro (h | ⟨r, h1, h2⟩)
    · exact .inr h
    · obtain ⟨p, w, e1, g, o⟩ := dGet_ok s hb ha h1
      refine .inl ⟨p, w, e1, g, ?_⟩
      rw [optIs_some o, h2]
      exact q
  have via : (∃ r, dGet b a = some r ∧ r.isSome = k) → rInS X.K n x y H Q ∨ rInDc n x y H Q := by
    rintro ⟨r, h1, h2⟩
    obtain ⟨p, w, e1, g, o⟩ := dGet_ok s hb ha h1
    refine .inr ⟨p, w, e1, g, ?_⟩
    rw [optIs_some o, h2]
    exact q
  have seqs : inS a b = some k → rInS X.K n x y H Q ∨ rInDc n x y H Q := fun h => by
    obtain ⟨d, ds, h1, h2, h3, h4, h5⟩ := inS_ok s ha hb h
    subst h5
    exact .inl ⟨d, ds, h1, h2, h3, h4, q⟩
  unfold inAny at e
  split at e
  · obtain ⟨r, h1, h2⟩ := Option.map_eq_some_iff.mp e
    exact via ⟨r, h1, h2⟩
  · obtain ⟨r, h1, h2⟩ := Option.map_eq_some_iff.mp e
    exact via ⟨r, h1, h2⟩
  · exact seqs e
theorem inAOk : BinOk X (fun x y H Q => rInS X.K false x y H Q ∨ rInDc false x y H Q) gInA := by
  intro x y F H Q a b z s ha hb e q
  unfold gInA at e
  obtain ⟨k, h1, h2⟩ := Option.map_eq_some_iff.mp e
  subst h2
  exact inAny_ok false s ha hb h1 (q _ _ (.old (.bl _)))
theorem notInAOk : BinOk X (fun x y H Q => rInS X.K true x y H Q ∨ rInDc true x y H Q) gNotInA := by
  intro x y F H Q a b z s ha hb e q
  unfold gNotInA at e
  obtain ⟨k, h1, h2⟩ := Option.map_eq_some_iff.mp e
  subst h2
  exact inAny_ok true s ha hb h1 (q _ _ (.old (.bl _)))
theorem d_inA {k : Nat} (hr : Room k X.A) (ha : DE X W a fa) (hb : DE X W b fb) (hm : behindInMarks .In b = false := by with_unfolding_all rfl) : DE X W (.Compare a [.In] [b] pos) (mBin gInA fa fb) := d_cmp ((op_inS (hu65 hr)).or (op_inDc (by have := hu65 hr; omega))) inAOk ha hb hm
theorem d_notinA {k : Nat} (hr : Room k X.A) (ha : DE X W a fa) (hb : DE X W b fb) (hm : behindInMarks .NotIn b = false := by with_unfolding_all rfl) : DE X W (.Compare a [.NotIn] [b] pos) (mBin gNotInA fa fb) := d_cmp ((op_notInS (hu65 hr)).or (op_notInDc (by have := hu65 hr; omega))) notInAOk ha hb hm
theorem t_inA {k : Nat} (hr : Room k X.A) (ha : DE X W a fa) (hb : DE X W b fb) (hm : behindInMarks .In b = false := by with_unfolding_all rfl) : DT X W (.Compare a [.In] [b] pos) (mBl (mBin gInA fa fb)) := t_cmp ((op_inS (hu65 hr)).or (op_inDc (by have := hu65 hr; omega))) inAOk ha hb hm
theorem t_notinA {k : Nat} (hr : Room k X.A) (ha : DE X W a fa) (hb : DE X W b fb) (hm : behindInMarks .NotIn b = false := by with_unfolding_all rfl) : DT X W (.Compare a [.NotIn] [b] pos) (mBl (mBin gNotInA fa fb)) := t_cmp ((op_notInS (hu65 hr)).or (op_notInDc (by have := hu65 hr; omega))) notInAOk ha hb hm
def rGetDc : R2 := fun x y H Q => ∃ a v, x = .ref a ∧ DGet H a y (some v) ∧ Q v H
theorem ix_dc (hu : X.A.units + 1 < cLine) : IxR X rGetDc := by
  intro value slice pins s σ H x y v u Q I rx ry h hs
  obtain ⟨a, z, rfl, g, q⟩ := h
  cases rx
  refine subscriptTail_builtinR' (dict_typeIs I g) PySem.F.slot_dict_getitem.lookup (L2.d_getItem hu I g ry fun w' s' I' rw' => ⟨z, H, I', rw', q⟩) hs
where
  subscriptTail_builtinR' {prog : Program} {w : World} {A : Around} {Er : Value → Shared → Prop} {s : Shared} {value slice : Expr} {ov iv : Value} {T id : String} {Q : Value → Shared → Prop} (hT : s.TypeIs ov T) (hl : typeLookup (.type T) "__getitem__" = pure (some (.builtin id)))
      (h : wpAny (model prog w) A (getItem ov iv) Q Er s) (hs : subscripted slice false ov iv = operate [ov, iv] (getItem ov iv)) : wpAny (model prog w) A (subscriptTail value slice ov iv) Q Er s := by
    unfold subscriptTail
    refine wpAny_bind ?_
    rw [getitemInPython_of_ne hT.not_modules]
    refine wpAny_bind (wpAny_specialOf hT hl ?_)
    have fin : wpAny (model prog w) A (subscripted slice false ov iv >>= fun r => letTemporaryGo value ov r >>= fun _ => pure r) Q Er s := by
      rw [hs]
      exact wpAny_bind (wpAny_operating (wpAny_mono h (fun r s₃ h₃ => wpAny_bind (wpAny_letTemporaryGo (wpAny_pure h₃))) fun _ _ x => x))
    first
      | exact wpAny_pure fin
      | exact wpAny_bind (wpAny_pure fin)
      | exact fin
end
end DL
-- SE
namespace DL
open PySem PySem.Spec PyProof.Rows L2
section
variable {X : Cx} {W : WX} {F F1 F' : Hp} {E E1 E' : En} {σ σ1 σ' : L2.St} {H H1 H' : Hp}
def dcGo (own : List Nat) (g : D → B) (t : M Bool) (fk fv : M R) : D → List D → M D
  | c, [] => M.ret c
  | c, d :: ds => fun E => match g d E with
    | none => .no
    | some E1 => match t E1 with
      | .ok false E2 => dcGo own g t fk fv c ds (wipeE E2 own)
      | .ok true E2 => (match fk E2 with
        | .ok rk E3 => (match fv E3 with
          | .ok r E4 => (match take r E4 with
            | .ok v E5 => (match (pk rk E5).bind (fun k => dPut c k v) with
              | some c' => dcGo own g t fk fv c' ds (wipeE E5 own)
              | none => .no)
            | _ => .no)
          | _ => .no)
        | _ => .no)
      | _ => .no
def mDc (own : List Nat) (c0 : D) (it : M (List D)) (g : D → B) (t : M Bool) (fk fv : M R) : M R := M.bnd it fun ds => fun E => if noOwn own E = true then (match dcGo own g t fk fv c0 ds (wipeE E own) with
  | .ok c E' => .ok (.fs c) (rest0 own E E')
  | _ => .no) else .no
section
variable {own : List Nat} {g : D → B} {t : M Bool} {fk fv : M R} {c c' : D} {ds : List D} {d v : D} {rk r : R} {E0 E3 E4 E5 E6 E7 : En}
theorem dcGo_none (z : g d E0 = none) : dcGo own g t fk fv c (d :: ds) E0 = .no := by simp only [dcGo, z]
theorem dcGo_false (z : g d E0 = some E3) (zt : t E3 = .ok false E4) : dcGo own g t fk fv c (d :: ds) E0 = dcGo own g t fk fv c ds (wipeE E4 own) := by
  rw [dcGo]; simp only [z, zt]
theorem dcGo_true (z : g d E0 = some E3) (zt : t E3 = .ok true E4) (zf : fk E4 = .ok rk E5) (zv : fv E5 = .ok r E6) (zk : take r E6 = .ok v E7) (zu : (pk rk E7).bind (fun k => dPut c k v) = some c') : dcGo own g t fk fv c (d :: ds) E0 = dcGo own g t fk fv c' ds (wipeE E7 own) := by
  rw [dcGo]; simp only [z, zt, zf, zv, zk, zu]
theorem dcGo_nou (z : g d E0 = some E3) (zt : t E3 = .ok true E4) (zf : fk E4 = .ok rk E5) (zv : fv E5 = .ok r E6) (zk : take r E6 = .ok v E7) (zu : (pk rk E7).bind (fun k => dPut c k v) = none) : dcGo own g t fk fv c (d :: ds) E0 = .no := by
  rw [dcGo]; simp only [z, zt, zf, zv, zk, zu]
theorem dcGo_nok (z : g d E0 = some E3) (zt : t E3 = .ok true E4) (zf : fk E4 = .ok rk E5) (zv : fv E5 = .ok r E6) (zk : take r E6 = .no) : dcGo own g t fk fv c (d :: ds) E0 = .no := by
  rw [dcGo]; simp only [z, zt, zf, zv, zk]
theorem dcGo_nov (z : g d E0 = some E3) (zt : t E3 = .ok true E4) (zf : fk E4 = .ok rk E5) (zv : ∀ r e, fv E5 ≠ .ok r e) : dcGo own g t fk fv c (d :: ds) E0 = .no := by
  rw [dcGo]; simp only [z, zt, zf]
theorem dcGo_nof (z : g d E0 = some E3) (zt : t E3 = .ok true E4) (zf : ∀ r e, fk E4 ≠ .ok r e) : dcGo own g t fk fv c (d :: ds) E0 = .no := by
  rw [dcGo]; simp only [z, zt]
theorem dcGo_not (z : g d E0 = some E3) (zt : ∀ b e, t E3 ≠ .ok b e) : dcGo own g t fk fv c (d :: ds) E0 = .no := by
  rw [dcGo]; simp only [z]
  cases q : t E3 with
  | ok b e => exact absurd q (zt b e)
  | ex x e => rfl
  | no => rfl
end
/-- the empty dicts -/
def empO : D → Option HO
  | .dk [] => some (.dK [])
  | .dt [] => some (.dT [])
  | _ => none
theorem empO_cont {K : PySem.W.Frag} {mg : Str → Option Value} {S : Addr} {c0 : D} {o0 : HO} (h : empO c0 = some o0) : Cont K mg F (upd H S o0) S c0 := by
  unfold empO at h
  split at h
  · cases h; exact ⟨[], upd_same, rfl, .nil⟩
  · cases h; exact ⟨[], upd_same, rfl, .nil⟩
  · cases h
theorem empO_or {c0 : D} {o0 : HO} (h : empO c0 = some o0) : o0 = .dK [] ∨ o0 = .dT [] := by
  unfold empO at h
  split at h
  · cases h; exact .inl rfl
  · cases h; exact .inr rfl
  · cases h
theorem dc_ok {own : List Nat} {c0 : D} {o0 : HO} {it : M (List D)} {g : D → B} {t : M Bool} {fk fv : M R} {Q : VK} (h00 : empO c0 = some o0) (rel : Rel X F E σ H) (h : Good X W F E σ H (mDc own c0 it g t fk fv) Q) :
    tDcG o0 (rdI X W it) (rdG X own g) (rdT X W0 t) (rdE X W0 fk) (rdE X W0 fv) own σ H Q := by
  refine ⟨F, E, rel, ?_⟩
  have h0 := h
  unfold Good mDc at h
  unfold GoodI
  cases q : it E with
  | ok ds E1 =>
    simp only [M.bnd, q] at h
    intro F1 H1 J s w S hS
    by_cases hn : noOwn own E1 = true
    · simp only [if_pos hn] at h
      have sb : Stp X F1 E1 σ H1 F1 (wipeE E1 own) (wipe σ own) H1 := stp_wipe own (Stp.refl s.rel)
      have rb := sb.rel
      refine ⟨fun i m G => m = ds.length - i ∧ i ≤ ds.length ∧ ∃ F' E' c, Stp X F1 (wipeE E1 own) (wipe σ own) H1 F' E' (wipe σ own) G ∧ F' S = none ∧ ¬ Own E' (wipe σ own) S ∧ Cont X.K X.mg F' G S c ∧
          dcGo own g t fk fv c (ds.drop i) E' = dcGo own g t fk fv c0 ds (wipeE E1 own), ⟨ds.length, by simp, Nat.zero_le _, F1, wipeE E1 own, c0, ?_⟩, fun i m G hW => ?_⟩
      · have n1 : F1 S = none := rb.le.free hS
        have n2 : ¬ Own (wipeE E1 own) (wipe σ own) S := not_own_new rb hS
        exact ⟨stp_updN (Stp.refl rb) n1 n2 hS, n1, n2, empO_cont h00, rfl⟩
      · obtain ⟨rfl, hle, F', E', c, s1, n1, n2, hA, heq⟩ := hW
        obtain ⟨oS, hH⟩ := hA.there
        have sF : Same F1 F' := s1.mono
        have sH : Same F1 G := sF.trans s1.rel.le
        by_cases hlt : i < ds.length
        · rw [List.drop_eq_getElem_cons hlt] at heq
          refine .inr ⟨w.go i G sH hlt, fun H2 => ∃ F' E' c, Stp X F1 (wipeE E1 own) (wipe σ own) H1 F' E' (wipe σ own) H2 ∧ F' S = none ∧ ¬ Own E' (wipe σ own) S ∧ Cont X.K X.mg F' H2 S c ∧
            dcGo own g t fk fv c (ds.drop (i + 1)) E' = dcGo own g t fk fv c0 ds (wipeE E1 own), fun H2 hN => ⟨ds.length - (i + 1), by omega, rfl, hlt, hN⟩, fun x H2 hy => ?_⟩
          obtain ⟨d, hd, hd2⟩ := w.yld i G x H2 sH hlt hy
          rw [List.getElem?_eq_getElem hlt] at hd
          cases hd
          obtain ⟨F2, s2, hI⟩ : ∃ F2, Stp X F' E' (wipe σ own) G F2 E' (wipe σ own) H2 ∧ Is X.K X.mg F2 x ds[i] := by
            rcases hd2 with ⟨rfl, hI⟩ | ⟨p, o, rfl, hp, rfl, hI⟩
            · exact ⟨F', Stp.refl s1.rel, hI.mono sF⟩
            · refine ⟨upd F' p o, Stp.allocF s1.rel hp, hI.mono fun b z q => ?_⟩
              by_cases e : b = p
              · subst e; rw [upd_same] at q ⊢; exact q
              · rw [upd_ne e] at q ⊢; exact sF b z q
          obtain ⟨a0, b0, hZ⟩ : ∃ a b, dcGo own g t fk fv c0 ds (wipeE E1 own) = .ok a b := by
            cases z : dcGo own g t fk fv c0 ds (wipeE E1 own) with
            | ok a b => exact ⟨a, b, rfl⟩
            | ex x e => simp only [z] at h
            | no => simp only [z] at h
          rw [hZ] at heq ⊢
          refine ⟨F2, E', ds[i], s2.rel, hI, ?_⟩
          unfold GoodW
          cases z : g ds[i] E' with
          | none => rw [dcGo_none z] at heq; cases heq
          | some E3 =>
            intro F3 σ3 H3 s3 ag
            have ew : wipe σ3 own = wipe σ own := (wipe_eq ag).trans (wipe_wipe σ own)
            refine ⟨ew, F3, E3, s3.rel, ?_⟩
            have s23 := s2.trans s3
            unfold GoodB
            cases zt : t E3 with
            | ok b E4 =>
              simp only
              intro F4 H4 s4
              have s24 := s23.trans s4
              cases b with
              | false =>
                rw [dcGo_false z zt] at heq
                simp only [Bool.false_eq_true, if_false]
                obtain ⟨m1, m2, m3⟩ := free_kept s24 n1 n2 hH
                have s5 := stp_wipe own (s1.trans s24)
                rw [ew] at s5
                exact ⟨F4, wipeE E4 own, c, s5, m1, fun wn => m2 (own_wipe (vs := own) (by rw [ew]; exact wn)), hA.mono s24.mono (m3.trans hH.symm), heq⟩
              | true =>
                simp only [if_true]
                refine ⟨F4, E4, s4.rel, ?_⟩
                unfold Good
                cases zf : fk E4 with
                | ok rk E5 =>
                  simp only
                  intro F5 H5 y s5 re nw
                  refine ⟨F5, E5, s5.rel, ?_⟩
                  unfold Good
                  cases zv : fv E5 with
                  | ok r E6 =>
                    simp only
                    intro F6 H6 y2 s6 re2 nw2
                    cases zk : take r E6 with
                    | ok v E7 =>
                      obtain ⟨F7, s7, hI7⟩ := take_ok s6 re2 nw2 zk
                      have s57 := s5.trans s7
                      have s27 := s24.trans s57
                      obtain ⟨m1, m2, m3⟩ := free_kept s27 n1 n2 hH
                      cases zu : (pk rk E7).bind (fun k => dPut c k v) with
                      | none => rw [dcGo_nou z zt zf zv zk zu] at heq; cases heq
                      | some c' =>
                        rw [dcGo_true z zt zf zv zk zu] at heq
                        obtain ⟨kd, hkd, hput⟩ := Option.bind_eq_some_iff.mp zu
                        obtain ⟨ob, dp, cc⟩ := dPut_ok s7.rel.le m1 (hA.mono s27.mono (m3.trans hH.symm)) ((re.step s7).peek1 s7.rel hkd) hI7 hput
                        have s8 := stp_wipe own (s1.trans s27)
                        rw [ew] at s8
                        have m2' : ¬ Own (wipeE E7 own) (wipe σ own) S := fun wn => m2 (own_wipe (vs := own) (by rw [ew]; exact wn))
                        exact ⟨_, dp, F7, wipeE E7 own, c', stp_updN s8 m1 m2' hS, m1, m2', cc, heq⟩
                    | ex x e => exact (take_no zk).elim
                    | no => rw [dcGo_nok z zt zf zv zk] at heq; cases heq
                  | ex x e => rw [dcGo_nov z zt zf (by rw [zv]; exact fun _ _ y => nomatch y)] at heq; cases heq
                  | no => rw [dcGo_nov z zt zf (by rw [zv]; exact fun _ _ y => nomatch y)] at heq; cases heq
                | ex x e => rw [dcGo_nof z zt (by rw [zf]; exact fun _ _ y => nomatch y)] at heq; cases heq
                | no => rw [dcGo_nof z zt (by rw [zf]; exact fun _ _ y => nomatch y)] at heq; cases heq
            | ex x e => rw [dcGo_not z (by rw [zt]; exact fun _ _ y => nomatch y)] at heq; cases heq
            | no => rw [dcGo_not z (by rw [zt]; exact fun _ _ y => nomatch y)] at heq; cases heq
        · refine .inl ⟨w.stop i G sH (by omega), ?_⟩
          rw [List.drop_of_length_le (by omega)] at heq
          have heq' : dcGo own g t fk fv c0 ds (wipeE E1 own) = .ok c E' := heq.symm
          simp only [heq'] at h
          have s4 := s.trans (stp_rest hn s.rel s1)
          have hl : E1.length = E'.length := by
            have h1 := s1.rel.len
            rw [wipe_length] at h1
            rw [s.rel.len, h1]
          exact h F' G (.ref S) s4 ⟨S, rfl, n1, fun wn => n2 (own_rest hn hl wn), hA⟩ fun p e => by cases e; exact s.hnone hS
    · simp only [if_neg hn] at h
  | ex x E1 => simp only [M.bnd, q] at h; exact h
  | no => simp only [M.bnd, q] at h
variable {kx vx tg iter : Expr} {ifs : List Expr} {scope : Scope} {it : M (List D)} {g : D → B} {t : M Bool} {fk fv : M R} {pos : Pos}
theorem d_dc {k : Nat} (c0 : D) {o0 : HO} (h00 : empO c0 = some o0) (ow : List (Str × Nat)) (hr : Room k X.A) (hc : X.calm = true) (hN : X.N.Nodup) (hi : DI X W tg iter it) (ok : BlkOk X.N X.env.scope scope ow)
    (hg : ∀ (s : Shared) (H : Hp) (C : Addr) (cl : List (Str × Addr)) (fp : List Addr), DGw (X.blk s H scope (compEnvC scope cl C X.env) fp) (ow.map (·.2)) tg g) (ht : ∀ (s : Shared) (H : Hp) (C : Addr) (cl : List (Str × Addr)) (fp : List Addr), DTs (X.blk s H scope (compEnvC scope cl C X.env) fp) W0 ifs t)
    (hk : ∀ (s : Shared) (H : Hp) (C : Addr) (cl : List (Str × Addr)) (fp : List Addr), DE (X.blk s H scope (compEnvC scope cl C X.env) fp) W0 kx fk) (he : ∀ (s : Shared) (H : Hp) (C : Addr) (cl : List (Str × Addr)) (fp : List Addr), DE (X.blk s H scope (compEnvC scope cl C X.env) fp) W0 vx fv)
    (hs : ∀ x, foldedSetIterable iter X.env x = pure x := by intro _; rfl) : DE X W (.DictComp kx vx [⟨tg, iter, ifs, 0⟩] scope pos) (mDc (ow.map (·.2)) c0 it g t fk fv) :=
  ⟨pe_mono (pe_dcG (o0 := o0) (wi := rdI X W it) (g := rdG X (owS ow) g) (tt := rdT X W0 t) (tk := rdE X W0 fk) (tv := rdE X W0 fv) (empO_or h00) (by have := hu64 hr; omega) hc hN hi.pi ok (fun s H C cl fp => (hg s H C cl fp).pg) (fun s H C cl fp => (ht s H C cl fp).pts) (fun s H C cl fp => (hk s H C cl fp).pe) (fun s H C cl fp => (he s H C cl fp).pe) hs)
    fun σ H Q ⟨F, E, rel, h⟩ => dc_ok h00 rel h⟩
theorem s_setDc {k i : Nat} {y : Str} {py spos : Pos} (c0 : D) {o0 : HO} (h00 : empO c0 = some o0) (ow : List (Str × Nat)) (hr : Room k X.A) (hc : X.calm = true) (hN : X.N.Nodup) (hy : X.N[i]? = some y) (hyl : X.env.scope.names.lookup y = some .local)
    (hsw : swapsWith (.DictComp kx vx [⟨tg, iter, ifs, 0⟩] scope pos) (some (.Name y py)) spos.line X.env = pure true) (hi : DI X W tg iter it) (ok : BlkOk X.N X.env.scope scope ow)
    (hg : ∀ (s : Shared) (H : Hp) (C : Addr) (cl : List (Str × Addr)) (fp : List Addr), DGw (X.blk s H scope (compEnvC scope cl C X.env) fp) (ow.map (·.2)) tg g) (ht : ∀ (s : Shared) (H : Hp) (C : Addr) (cl : List (Str × Addr)) (fp : List Addr), DTs (X.blk s H scope (compEnvC scope cl C X.env) fp) W0 ifs t)
    (hk : ∀ (s : Shared) (H : Hp) (C : Addr) (cl : List (Str × Addr)) (fp : List Addr), DE (X.blk s H scope (compEnvC scope cl C X.env) fp) W0 kx fk) (he : ∀ (s : Shared) (H : Hp) (C : Addr) (cl : List (Str × Addr)) (fp : List Addr), DE (X.blk s H scope (compEnvC scope cl C X.env) fp) W0 vx fv)
    (hs : ∀ x, foldedSetIterable iter X.env x = pure x := by intro _; rfl) : DS X W (.Assign [.Name y py] (.DictComp kx vx [⟨tg, iter, ifs, 0⟩] scope pos) spos) (sSet i (mDc (ow.map (·.2)) c0 it g t fk fv)) :=
  ⟨ps_mono (ps_setDcG (o0 := o0) (wi := rdI X W it) (g := rdG X (owS ow) g) (tt := rdT X W0 t) (tk := rdE X W0 fk) (tv := rdE X W0 fv) (empO_or h00) (by have := hu64 hr; omega) hc hN hy hyl hsw hi.pi ok (fun s H C cl fp => (hg s H C cl fp).pg) (fun s H C cl fp => (ht s H C cl fp).pts) (fun s H C cl fp => (hk s H C cl fp).pe) (fun s H C cl fp => (he s H C cl fp).pe) hs)
    fun D σ H ⟨F, E, rel, h⟩ => dc_ok h00 rel (set_ok h)⟩
end
end DL
-- SF
namespace DL
open PySem PySem.Spec PyProof.Rows L2
section
variable {X : Cx} {W : WX} {F F1 F' : Hp} {E E1 E' : En} {σ σ1 σ' : L2.St} {H H1 H' : Hp}
variable {a b c e o tg iter : Expr} {st : Stmt} {body rest orelse : List Stmt} {es : List Expr} {fa fb fc fi fv : M R} {pos tpos p p' : Pos} {i : Nat} {x : Str}
def FlatT (u : Value) (b : Bool) : Prop := u = .bool b ∨ ∃ i t, u = .int i t ∧ b = (i != 0)
theorem paired_at {α β : Type} {F : α → β → Prop} {xs : List α} {ys : List β} (h : Paired F xs ys) : ∀ {i : Nat} {x : α}, xs[i]? = some x → ∃ y, ys[i]? = some y ∧ F x y := by
  induction h with
  | nil => intro i x e; simp at e
  | cons a _ ih =>
    intro i x e
    cases i with
    | zero => simp only [List.getElem?_cons_zero, Option.some.injEq] at e; subst e; exact ⟨_, rfl, a⟩
    | succ i => exact ih (by simpa using e)
theorem truth_flat {prog : Program} {w : World} {A : Around} {bs : List Bool} {its : List Value} (h : Paired FlatT its bs) : TruthOf prog w A (fun i v => its.toArray[i]? = some v) (fun i => bs.getD i false) := fun i v s Q Er hv hq => by
  obtain ⟨b, hb, r⟩ := paired_at h (i := i) (x := v) (by simpa using hv)
  have hg : bs.getD i false = b := by rw [List.getD_eq_getElem?_getD, hb]; rfl
  have hq' : Q (bs.getD i false) s := hq
  rw [hg] at hq'
  rcases r with r | ⟨k, t, r, eb⟩
  · subst r; exact wpAny_truthy_bool hq'
  · subst r; subst eb; exact truthy_int hq'
def FlatV (x : V) (b : Bool) : Prop := x = .bl b ∨ ∃ i, x = .int i ∧ b = (i != 0)
theorem flat_vals : ∀ {xs : List V} {us : List Value} {bs : List Bool}, Vals xs us → Paired FlatV xs bs → Paired FlatT us bs
  | _, _, _, .nil, .nil => .nil
  | _, _, _, .cons r t, .cons h k => by
    refine .cons ?_ (flat_vals t k)
    rcases h with h | ⟨i, h, e⟩
    · subst h; exact .inl r
    · subst h; obtain ⟨tk, rfl⟩ := r; exact .inr ⟨i, tk, rfl, e⟩
theorem paired_len {α β : Type} {F : α → β → Prop} {xs : List α} {ys : List β} (h : Paired F xs ys) : xs.length = ys.length := by
  induction h with
  | nil => rfl
  | cons _ _ ih => simp [ih]
def rAnyF (K : PySem.W.Frag) (all : Bool) : List V → Hp → VK → Prop := fun vs H Q => ∃ (a : Addr) (xs : List V) (bs : List Bool), vs = [V.ref a] ∧ SqL K H a xs ∧ Paired FlatV xs bs ∧ Q (.bl (if all then bs.all id else bs.any id)) H
theorem cr_anyF (hc : X.calm = true) : CallR X (.builtin "any") (rAnyF X.K false) := by
  intro pins s σ H vs us Q I r h
  obtain ⟨a, xs, bs, rfl, hs, hp, q⟩ := h
  obtain ⟨its, rv, hl, _⟩ := I.list hs
  rw [Vals.ref1 r]
  have hb := flat_vals rv hp
  refine call_any_walk (iter_any hl.isList fun s₂ e2 st hne => ?_)
  subst e2
  refine ⟨_, _, _, _, _, _, _, rfl, Walks.list (A := X.A.in1) (I.ok.hd hc) _ a hne its.toArray, st, truth_flat hb, fun h' tk hk => ?_⟩
  refine ⟨.bl _, H, I.kept fun c u eo => hk c u (fun hm => ?_) (Heap.get?_push_of_some _ eo), ?_, q⟩
  · exact absurd (List.mem_singleton.mp hm ▸ Heap.lt_size eo) (Nat.lt_irrefl _)
  · show Value.bool _ = Value.bool _
    rw [if_neg Bool.false_ne_true, ← L2.any_range, List.size_toArray, paired_len hb]
theorem cr_allF (hc : X.calm = true) : CallR X (.builtin "all") (rAnyF X.K true) := by
  intro pins s σ H vs us Q I r h
  obtain ⟨a, xs, bs, rfl, hs, hp, q⟩ := h
  obtain ⟨its, rv, hl, _⟩ := I.list hs
  rw [Vals.ref1 r]
  have hb := flat_vals rv hp
  refine call_all_walk (iter_any hl.isList fun s₂ e2 st hne => ?_)
  subst e2
  refine ⟨_, _, _, _, _, _, _, rfl, Walks.list (A := X.A.in1) (I.ok.hd hc) _ a hne its.toArray, st, truth_flat hb, fun h' tk hk => ?_⟩
  refine ⟨.bl _, H, I.kept fun c u eo => hk c u (fun hm => ?_) (Heap.get?_push_of_some _ eo), ?_, q⟩
  · exact absurd (List.mem_singleton.mp hm ▸ Heap.lt_size eo) (Nat.lt_irrefl _)
  · show Value.bool _ = Value.bool _
    rw [if_pos rfl, ← L2.all_range, List.size_toArray, paired_len hb]
def flD : D → Option Bool
  | .bl b => some b
  | .int i => some (i != 0)
  | _ => none
def flDs : List D → Option (List Bool)
  | [] => some []
  | d :: ds => match flD d, flDs ds with
    | some b, some bs => some (b :: bs)
    | _, _ => none
theorem flDs_ok {K : PySem.W.Frag} {mg : Str → Option Value} : ∀ {vs : List V} {ds : List D} {bs : List Bool}, IsAll K mg F vs ds → flDs ds = some bs → Paired FlatV vs bs
  | _, _, _, .nil, e => by cases e; exact .nil
  | _, _, _, .cons (d := d) (ds := ds) h t, e => by
    unfold flDs at e
    cases z : flD d with
    | none => simp [z] at e
    | some b =>
      cases z2 : flDs ds with
      | none => simp [z, z2] at e
      | some bs =>
        simp only [z, z2, Option.some.injEq] at e
        subst e
        refine .cons ?_ (flDs_ok t z2)
        cases h <;> first
          | (cases z; exact .inl rfl)
          | (cases z; exact .inr ⟨_, rfl, rfl⟩)
          | cases z
def gAny (all : Bool) : List D → Option R
  | [.lst ds] => (flDs ds).map fun bs => .fz (.bl (if all then bs.all id else bs.any id))
  | _ => none
theorem anyOk {all : Bool} : CbOk X (rAnyF X.K all) (gAny all) := by
  intro vs F H Q ds z s hA e q
  cases hA with
  | nil => cases e
  | cons h t =>
    cases t with
    | cons _ _ => cases h <;> simp [gAny] at e
    | nil =>
      cases h with
      | @lst a vs ds h r =>
        obtain ⟨bs, h1, h2⟩ := Option.map_eq_some_iff.mp (show (flDs ds).map (fun bs => R.fz (.bl (if all then bs.all id else bs.any id))) = some z from e)
        subst h2
        exact ⟨a, vs, bs, rfl, .inl (.inl h), flDs_ok r h1, q _ _ (.old (.bl _))⟩
      | _ => simp [gAny] at e
def gMin : List D → Option R
  | [.int i, .int j] => some (.fz (.int (if j < i then j else i)))
  | [.lst ds] => (match unIs ds with
    | some (n :: ns) => some (.fz (.int (ns.foldl min n)))
    | _ => none)
  | _ => none
def gMax : List D → Option R
  | [.int i, .int j] => some (.fz (.int (if j > i then j else i)))
  | _ => none
theorem foldl_min_le : ∀ (ns : List Int) (n : Int), ns.foldl min n ≤ n ∧ ∀ m ∈ ns, ns.foldl min n ≤ m
  | [], n => ⟨Int.le_refl _, fun m hm => nomatch hm⟩
  | k :: ns, n => by
    obtain ⟨h1, h2⟩ := foldl_min_le ns (min n k)
    rw [List.foldl_cons]
    refine ⟨Int.le_trans h1 (Int.min_le_left _ _), fun m hm => ?_⟩
    rcases List.mem_cons.mp hm with rfl | hm
    · exact Int.le_trans h1 (Int.min_le_right _ _)
    · exact h2 m hm
theorem foldl_min_mem : ∀ (ns : List Int) (n : Int), ns.foldl min n ∈ n :: ns
  | [], n => List.mem_cons_self
  | k :: ns, n => by
    rw [List.foldl_cons]
    have h := foldl_min_mem ns (min n k)
    rcases List.mem_cons.mp h with h | h
    · rw [h]
      by_cases q : n ≤ k
      · rw [Int.min_eq_left q]; exact List.mem_cons_self
      · rw [Int.min_eq_right (by omega)]; exact List.mem_cons_of_mem _ List.mem_cons_self
    · exact List.mem_cons_of_mem _ (List.mem_cons_of_mem _ h)
def rMinD (K : PySem.W.Frag) : List V → Hp → VK → Prop := fun xs H Q => (∃ i j, xs = [.int i, .int j] ∧ Q (.int (if j < i then j else i)) H) ∨ rMin K xs H Q
theorem cr_minD (hc : X.calm = true) : CallR X (.builtin "min") (rMinD X.K) := CallR.or (call_min2 hc) (cr_min hc)
theorem minOk : CbOk X (rMinD X.K) gMin := by
  intro vs F H Q ds z s hA e q
  cases hA with
  | nil => cases e
  | cons h t =>
    cases t with
    | nil =>
      cases h with
      | @lst a ws ds h r =>
        unfold gMin at e
        cases z1 : unIs ds with
        | none => simp [z1] at e
        | some ns =>
          cases ns with
          | nil => simp [z1] at e
          | cons n ns =>
            simp only [z1, Option.some.injEq] at e
            subst e
            rw [unIs_some z1] at r
            obtain rfl := isAll_ints r
            refine .inr ⟨a, n :: ns, rfl, .inl (.inl h), Nat.succ_pos _, fun m hm hl => ?_⟩
            have e1 := foldl_min_le ns n
            have e2 := foldl_min_mem ns n
            have e3 : m = ns.foldl min n := by
              have h1 := hl _ e2
              have h2 : ns.foldl min n ≤ m := by
                rcases List.mem_cons.mp hm with rfl | hm
                · exact e1.1
                · exact e1.2 m hm
              omega
            rw [e3]
            exact q _ _ (.old (.int _))
      | _ => simp [gMin] at e
    | cons h2 t2 =>
      cases t2 with
      | cons _ _ => cases h <;> cases h2 <;> simp [gMin] at e
      | nil =>
        cases h with
        | int i =>
          cases h2 with
          | int j => cases e; exact .inl ⟨i, j, rfl, q _ _ (.old (.int _))⟩
          | _ => simp [gMin] at e
        | _ => simp [gMin] at e
theorem maxOk : CbOk X (fun xs H Q => ∃ i j, xs = [.int i, .int j] ∧ Q (.int (if j > i then j else i)) H) gMax := by
  intro vs F H Q ds z s hA e q
  cases hA with
  | nil => cases e
  | cons h t =>
    cases t with
    | nil => cases h <;> simp [gMax] at e
    | cons h2 t2 =>
      cases t2 with
      | cons _ _ => cases h <;> cases h2 <;> simp [gMax] at e
      | nil =>
        cases h with
        | int i =>
          cases h2 with
          | int j => cases e; exact ⟨i, j, rfl, q _ _ (.old (.int _))⟩
          | _ => simp [gMax] at e
        | _ => simp [gMax] at e
def gLtA (x y : D) : Option R := match x, y with
  | .tup xs, .tup ys => (match unIs xs, unIs ys with
    | some ns, some ms => some (.fz (.bl (HT.lexLt ns ms)))
    | _, _ => none)
  | _, _ => gLt x y
theorem ltAOk : BinOk X (fun x y H Q => rI0 (fun i j => .bl (decide (i < j))) x y H Q ∨ rLtT X.K x y H Q) gLtA := by
  intro x y F H Q a b z s ha hb e q
  have seqs : gLt a b = some z → rI0 (fun i j => .bl (decide (i < j))) x y H Q := fun h => binB0 (X := X) x y F H Q a b z s ha hb h q
  cases ha with
  | @tup l vs xs h1 r1 =>
    cases hb with
    | @tup l2 ws ys h2 r2 =>
      unfold gLtA at e
      cases z1 : unIs xs with
      | none => simp [z1] at e
      | some ns =>
        cases z2 : unIs ys with
        | none => simp [z1, z2] at e
        | some ms =>
          simp only [z1, z2, Option.some.injEq] at e
          subst e
          rw [unIs_some z1] at r1
          rw [unIs_some z2] at r2
          rw [isAll_ints r1] at h1
          rw [isAll_ints r2] at h2
          exact .inr ⟨l, l2, ns, ms, rfl, rfl, tupS s h1, tupS s h2, q _ _ (.old (.bl _))⟩
    | _ => exact .inl (seqs e)
  | _ => exact .inl (seqs e)
theorem op_ltA (hu : X.A.units < cLine) : OpR X (compareOp .Lt) (fun x y H Q => rI0 (fun i j => .bl (decide (i < j))) x y H Q ∨ rLtT X.K x y H Q) := op_lt.or (op_ltT hu)
theorem d_ltA {k : Nat} (hr : Room k X.A) (ha : DE X W a fa) (hb : DE X W b fb) : DE X W (.Compare a [.Lt] [b] pos) (mBin gLtA fa fb) := d_cmp (op_ltA (hu0 hr)) ltAOk ha hb (nomark _)
theorem t_ltA {k : Nat} (hr : Room k X.A) (ha : DE X W a fa) (hb : DE X W b fb) : DT X W (.Compare a [.Lt] [b] pos) (mBl (mBin gLtA fa fb)) := t_cmp (op_ltA (hu0 hr)) ltAOk ha hb (nomark _)
def gIsB (n : Bool) : D → D → Option R
  | .bl a, .bl b => some (.fz (.bl (if n then !decide (a = b) else decide (a = b))))
  | _, _ => none
theorem isBOk : BinOk X (fun x y H Q => ∃ a b, x = .bl a ∧ y = .bl b ∧ Q (.bl (decide (a = b))) H) (gIsB false) := by
  intro x y F H Q a b z s ha hb e q
  cases ha with
  | bl u =>
    cases hb with
    | bl v => cases e; exact ⟨u, v, rfl, rfl, q _ _ (.old (.bl _))⟩
    | _ => simp [gIsB] at e
  | _ => simp [gIsB] at e
theorem isnotBOk : BinOk X (fun x y H Q => ∃ a b, x = .bl a ∧ y = .bl b ∧ Q (.bl (!decide (a = b))) H) (gIsB true) := by
  intro x y F H Q a b z s ha hb e q
  cases ha with
  | bl u =>
    cases hb with
    | bl v => cases e; exact ⟨u, v, rfl, rfl, q _ _ (.old (.bl _))⟩
    | _ => simp [gIsB] at e
  | _ => simp [gIsB] at e
theorem d_isB (ha : DE X W a fa) (hb : DE X W b fb) (hm : behindInMarks .Is b = false := by with_unfolding_all rfl) : DE X W (.Compare a [.Is] [b] pos) (mBin (gIsB false) fa fb) := d_cmp op_is_bl isBOk ha hb hm
theorem d_isnotB (ha : DE X W a fa) (hb : DE X W b fb) (hm : behindInMarks .IsNot b = false := by with_unfolding_all rfl) : DE X W (.Compare a [.IsNot] [b] pos) (mBin (gIsB true) fa fb) := d_cmp op_isnot_bl isnotBOk ha hb hm
theorem t_isB (ha : DE X W a fa) (hb : DE X W b fb) (hm : behindInMarks .Is b = false := by with_unfolding_all rfl) : DT X W (.Compare a [.Is] [b] pos) (mBl (mBin (gIsB false) fa fb)) := t_cmp op_is_bl isBOk ha hb hm
theorem t_isnotB (ha : DE X W a fa) (hb : DE X W b fb) (hm : behindInMarks .IsNot b = false := by with_unfolding_all rfl) : DT X W (.Compare a [.IsNot] [b] pos) (mBl (mBin (gIsB true) fa fb)) := t_cmp op_isnot_bl isnotBOk ha hb hm
def tyD : D → Option String
  | .non => some "NoneType"
  | .bl _ => some "bool"
  | .int _ => some "int"
  | .str _ => some "str"
  | .tup _ => some "tuple"
  | .tpf _ => some "tuple"
  | .lst _ => some "list"
  | .dk _ => some "dict"
  | .dt _ => some "dict"
  | _ => none
def isiB (a b : String) : Bool := a == b || (a == "bool" && b == "int")
def gIsi (T : String) (d : D) : Option R := (tyD d).map fun t => .fz (.bl (isiB t T))
theorem kit_table : (["NoneType", "bool", "int", "str", "tuple", "list", "dict"].all fun a => ["bool", "int", "str", "tuple", "list", "dict"].all fun b => decide (kitB a b = some (isiB a b))) = true := by decide +kernel
theorem kit_at {a b : String} (ha : a ∈ ["NoneType", "bool", "int", "str", "tuple", "list", "dict"]) (hb : b ∈ ["bool", "int", "str", "tuple", "list", "dict"]) : kitB a b = some (isiB a b) :=
  of_decide_eq_true (List.all_eq_true.mp (List.all_eq_true.mp kit_table a ha) b hb)
theorem tyD_in {d : D} {t : String} (h : tyD d = some t) : t ∈ ["NoneType", "bool", "int", "str", "tuple", "list", "dict"] := by
  cases d <;> first
    | (cases h; decide)
    | cases h
theorem tyD_ok {K : PySem.W.Frag} {mg : Str → Option Value} {v : V} {d : D} {t : String} (s : Same F H) (h : Is1 K mg F H v d) (e : tyD d = some t) : TyX K H v (.type t) := by
  cases h with
  | non => cases e; exact .base .non
  | bl b => cases e; exact .base (.bl b)
  | int i => cases e; exact .base (.int i)
  | str y => cases e; exact .base (.str y)
  | tup q r => cases e; exact .base (.tup (s _ _ q))
  | tpf q n r => cases e; exact .fTuple (s _ _ q)
  | lst q r => cases e; exact .base (.lst q)
  | dk q k r => cases e; exact .base (.dK q)
  | dt q k r => cases e; exact .base (.dT q)
  | _ => cases e
theorem d_isi {T : String} {n : Str} {p2 : Pos} (hT : T ∈ ["bool", "int", "str", "tuple", "list", "dict"]) (hg : Gl X "isinstance") (hm : X.mg "isinstance" = none) (hgT : Gl X n) (hmT : X.mg n = none) (hv : bootBuiltins n = some (.type T)) (he : DE X W e fa) (hn : n ≠ "__name__" := by decide) (hd : (n == ("__debug__" : Str)) = false := by decide)
    (hs1 : starEach [e, .Name n p2] X.env = (false, eval e X.env) :: starEach [.Name n p2] X.env := by rfl) (hs2 : starEach [.Name n p2] X.env = (false, eval (.Name n p2) X.env) :: starEach [] X.env := by rfl) (hpl : (backTo pos (starEach [.Name n p2] X.env)).any (·.1) = false := by rfl) :
    DE X W (.Call (.Name "isinstance" p) [e, .Name n p2] [] pos) (mUn (gIsi T) fa) :=
  ⟨pe_mono (pe_callB call_isi hg hm PyProof.Rows.boot_isinstance (pa_cons he.pe (pa_cons (pe_bltn hgT hmT hv (show RelV (.ty T) (.type T) from rfl) hn hd) pa_nil hs2) hs1) (by decide) (by decide) hs1 hpl) fun σ H Q ⟨F, E, rel, h⟩ =>
    ⟨F, E, rel, Good.un (r := fun x H1 Q => rIsi X.K [x, .ty T] H1 Q) (fun x F H Q a z s ha e q => by
      obtain ⟨t, h1, h2⟩ := Option.map_eq_some_iff.mp (show (tyD a).map (fun t => R.fz (.bl (isiB t T))) = some z from e)
      subst h2
      exact ⟨x, .ty T, .type t, .type T, isiB t T, rfl, .ty T, tyD_ok s ha h1, kit_ty (kit_at (tyD_in h1) hT), q _ _ (.old (.bl _))⟩) h⟩⟩
def gFld (c f : Str) : D → Option R
  | .ins c' fs => if c' = c then (fs.lookup f).map .fz else none
  | _ => none
theorem look_all {K : PySem.W.Frag} {mg : Str → Option Value} {f : Str} : ∀ {vs : List (Str × V)} {fs : List (Str × D)} {d : D}, IsKV K mg F vs fs → fs.lookup f = some d → ∃ v, vs.lookup f = some v ∧ Is K mg F v d := by
  intro vs fs d h
  induction h with
  | nil => intro e; simp at e
  | @cons k v d' r q a _ ih =>
    intro e
    by_cases hk : f = k
    · subst hk
      rw [List.lookup_cons_self] at e ⊢
      cases e
      exact ⟨v, rfl, a⟩
    · have hb : (f == k) = false := beq_eq_false_iff_ne.mpr hk
      simp only [List.lookup_cons, hb] at e ⊢
      exact ih e
theorem d_fld {c f : Str} {C : Addr} (hC : X.mg c = some (.ref C)) (cl : Cls X.K C) (na : NoAttr X.K C f) (he : DE X W e fa) (hb : attributeBase e f X.env (eval e X.env) = eval e X.env := by rfl) : DE X W (.Attribute e f pos) (mUn (gFld c f) fa) :=
  ⟨pe_mono (pe_fld he.pe hb) fun σ H Q ⟨F, E, rel, h⟩ => ⟨F, E, rel, Good.un (r := fun x H1 Q => ∃ a C dx fs v, x = .ref a ∧ H1 a = some (.ins C dx fs) ∧ Cls X.K C ∧ NoAttr X.K C f ∧ fs.lookup f = some v ∧ Q v H1) (fun x F H Q a z s ha e q => by
    cases ha with
    | @ins a C' dx c' vs fs hm hH hk r =>
      unfold gFld at e; dsimp only at e
      by_cases hc : c' = c
      · subst hc
        rw [hC] at hm
        cases hm
        rw [if_pos rfl] at e
        obtain ⟨d, h1, h2⟩ := Option.map_eq_some_iff.mp e
        subst h2
        obtain ⟨v, h3, h4⟩ := look_all (isKV_of hk r) h1
        exact ⟨a, C, dx, vs, v, rfl, hH, cl, na, h3, q _ _ (.old h4)⟩
      · rw [if_neg hc] at e; cases e
    | _ => simp [gFld] at e) h⟩⟩
/-- an own module's constant, an int -/
theorem d_globI {n : Int} (hg : Gl X x) (hm : ∃ t, X.mg x = some (.int n t)) (hd : (x == ("__debug__" : Str)) = false := by decide) : DE X W (.Name x p) (mK (.int n)) := by
  obtain ⟨t, hm⟩ := hm
  exact ⟨pe_mono (pe_glob (v := .int n) hg hm ⟨t, rfl⟩ hd) fun σ H Q ⟨F, E, r, g⟩ => g.here r rfl (.int n) trivial⟩
/-- a statement that is not reached -/
def sNever : M Fl := fun _ => .no
theorem s_never : DS X W st sNever := ⟨ps_mono ps_never fun D σ H ⟨F, E, rel, h⟩ => h.elim⟩
end
end DL
-- SG
namespace DL
open PySem PySem.Spec PyProof.Rows L2
section
variable {X : Cx} {W : WX} {F F1 F' : Hp} {E E1 E' : En} {σ σ1 σ' : L2.St} {H H1 H' : Hp}
variable {a b c e o tg iter : Expr} {st : Stmt} {body rest orelse : List Stmt} {es : List Expr} {fa fb fc fi fv : M R} {pos tpos p p' : Pos} {i k : Nat} {x : Str}
def gIxA (x y : D) : Option R := match x with
  | .dk _ => (match dGet x y with | some (some d) => some (.fz d) | _ => none)
  | .dt _ => (match dGet x y with | some (some d) => some (.fz d) | _ => none)
  | _ => gIx x y
theorem ixAOk : BinOk X (fun x y H Q => (rIxL X.K x y H Q ∨ rIxT X.K x y H Q) ∨ rGetDc x y H Q) gIxA := by
  intro x y F H Q a b z s ha hb e q
  have dict : (match dGet a b with | some (some d) => some (R.fz d) | _ => none) = some z → rGetDc x y H Q := fun h => by
    cases g : dGet a b with
    | none => rw [g] at h; cases h
    | some r =>
      cases r with
      | none => rw [g] at h; cases h
      | some d =>
        rw [g] at h
        cases h
        obtain ⟨p, w, e1, g1, o⟩ := dGet_ok s ha hb g
        cases w with
        | none => exact o.elim
        | some v => exact ⟨p, v, e1, g1, q _ _ (.old o)⟩
  have seqs : gIx a b = some z → rIxL X.K x y H Q ∨ rIxT X.K x y H Q := fun h => ixOk (X := X) x y F H Q a b z s ha hb h q
  cases a <;> first
    | exact .inr (dict e)
    | exact .inl (seqs e)
theorem d_ixA {k : Nat} (hr : Room k X.A) (ha : DE X W a fa) (hb : DE X W b fb) (hs : PlainIx b := by exact fun _ _ => rfl) : DE X W (.Subscript a b pos) (mBin gIxA fa fb) :=
  ⟨pe_mono (pe_ix ((ix_list.or ix_tup).or (ix_dc (by have := hu65 hr; omega))) ha.pe hb.pe hs) fun σ H Q ⟨F, E, rel, h⟩ => h.bin ixAOk rel⟩
def putA (c k d : D) : Option D := match c with
  | .lst _ => putL c k d
  | _ => dPut c k d
def rSetA : TSet := fun o i v H Q => rSetL o i v H Q ∨ rSetD o i v H Q
theorem set_A (hu : X.A.units + 1 < cLine) : PSet X rSetA := by
  intro pins s σ H o i v ov iv u Q I ro ri rv h
  rcases h with h | h
  · exact set_list pins s σ H o i v ov iv u Q I ro ri rv h
  · exact set_dict hu pins s σ H o i v ov iv u Q I ro ri rv h
theorem putA_ok {p : Addr} {c k d c' : D} {xk xv : V} (s : Same F H) (n : F p = none) (hc : Cont X.K X.mg F H p c) (hk : Is1 X.K X.mg F H xk k) (hv : Is X.K X.mg F xv d) (e : putA c k d = some c') {Q : Hp → Prop} (q : ∀ ob, Cont X.K X.mg F (upd H p ob) p c' → Q (upd H p ob)) : rSetA (.ref p) xk xv H Q := by
  have dict : dPut c k d = some c' → rSetD (.ref p) xk xv H Q := fun h => by
    obtain ⟨ob, dp, cc⟩ := dPut_ok s n hc hk hv h
    exact ⟨p, _, rfl, dp, q ob cc⟩
  cases c with
  | lst ds => exact .inl (putL_ok s hc hk hv e q)
  | _ => exact .inr (dict e)
def sPutA (i : Nat) (fv fi : M R) : M Fl := M.bnd fv fun r => M.bnd (take r) fun d => fun E => if isOw i E = true then M.bnd fi (fun rk => fun E1 => match E1[i]?, pk rk E1 with
    | some (.ow c), some k => (match putA c k d with
      | some c' => .ok .nx (E1.set i (.ow c'))
      | none => .no)
    | _, _ => .no) E else .no
theorem s_putA (hr : Room k X.A) (hv : DE X W e fv) (hi : DE X W b fi) (hN : X.N[i]? = some x := by rfl) (hvis : Vis X.env.scope x := by first | exact Or.inl rfl | exact Or.inr (Or.inl rfl) | exact Or.inr (Or.inr rfl)) (hd : (x == ("__debug__" : Str)) = false := by decide) (hcd : (x == ("__classdict__" : Str)) = false := by decide)
    (ha : ∀ v, assign (.Subscript (.Name x p') b tpos) X.env v = (do let ov ← holding [v] (eval (.Name x p') X.env); let iv ← holding [v, ov] (eval b X.env); standAt tpos; holding [v, ov, iv] (setItem ov iv v); release [v, ov, iv] []) := by intro _; rfl)
    (hs : swapsWithSole [.Subscript (.Name x p') b tpos] e pos.line X.env = pure false := by rfl) (hw : swappedStores [.Subscript (.Name x p') b tpos] e X.env = pure none := by rfl)
    (h1 : (assignEach [.Subscript (.Name x p') b tpos] X.env).map (·.2) = [assign (.Subscript (.Name x p') b tpos) X.env] := by rfl) : DS X W (.Assign [.Subscript (.Name x p') b tpos] e pos) (sPutA i fv fi) :=
  ⟨ps_mono (ps_asg hv.pe (pg_sub (pe_var hN hvis hd hcd) hi.pe (set_A (by have := hu65 hr; omega)) ha) hs hw h1) fun D σ H ⟨F, E, rel, h⟩ => ⟨F, E, rel, by
    unfold sPutA at h
    unfold Good
    have h0 := h
    unfold GoodS at h
    cases q : fv E with
    | ok r E1 =>
      intro F1 H1 v s re nw
      simp only [M.bnd, q] at h
      cases qt : take r E1 with
      | ok d E2 =>
        obtain ⟨F2, s2, hI⟩ := take_ok s re nw qt
        simp only [qt] at h
        by_cases hw : isOw i E2 = true
        · simp only [if_pos hw] at h
          obtain ⟨c0, hc0⟩ := isOw_some hw
          obtain ⟨p, k1, k2, k3⟩ := s2.rel.ow i c0 hc0
          refine ⟨.ref p, k1, F2, E2, s2.rel, ?_⟩
          unfold Good
          cases q3 : fi E2 with
          | ok rk E3 =>
            simp only [q3] at h
            intro F3 H3 xk s3 rek nwk
            cases z : E3[i]? with
            | none => simp only [z] at h
            | some sl =>
              cases sl with
              | un => simp only [z] at h
              | fr d' => simp only [z] at h
              | ow c =>
                cases zk : pk rk E3 with
                | none => simp only [z, zk] at h
                | some k =>
                  simp only [z, zk] at h
                  cases zp : putA c k d with
                  | none => simp only [zp] at h
                  | some c' =>
                    simp only [zp] at h
                    obtain ⟨p1, m1, m2, m3⟩ := s3.rel.ow i c z
                    rw [k1] at m1
                    cases m1
                    exact putA_ok s3.rel.le m2 m3 (rek.peek1 s3.rel zk) (hI.mono s3.mono) zp fun ob hc => h F3 σ _ ((s2.trans s3).trans (Stp.mut s3.rel z k1 hc))
          | ex x E3 => simp only [q3] at h; exact fun F' H' c d s3 xo => h F' σ H' c d (s2.trans s3) xo
          | no => simp only [q3] at h
        · simp only [if_neg hw] at h
      | ex x E2 => exact (take_no qt).elim
      | no => simp only [qt] at h
    | ex x E1 => simp only [M.bnd, q] at h; exact fun F' H' c d s xo => h F' σ H' c d s xo
    | no => simp only [M.bnd, q] at h⟩⟩
def putFD (f : Str) (d : D) : List (Str × D) → List (Str × D)
  | [] => [(f, d)]
  | (g, x) :: r => if g = f then (g, d) :: r else (g, x) :: putFD f d r
theorem IsKV.putF {K : PySem.W.Frag} {mg : Str → Option Value} {f : Str} {v : V} {d : D} (a : Is K mg F v d) {vs : List (Str × V)} {fs : List (Str × D)} (h : IsKV K mg F vs fs) : IsKV K mg F (L2.putF f v vs) (putFD f d fs) := by
  induction h with
  | nil => exact .cons a .nil
  | @cons k v' d' r q a' hr ih =>
    unfold L2.putF putFD
    by_cases e : k = f
    · simp only [if_pos e]; exact .cons a hr
    · simp only [if_neg e]; exact .cons a' ih
def sFldD (i : Nat) (c f : Str) (fv : M R) : M Fl := M.bnd fv fun r => M.bnd (take r) fun d => fun E => match E[i]? with
  | some (.ow (.ins c' fs)) => if c' = c ∧ fs.length < 1000 then .ok .nx (E.set i (.ow (.ins c' (putFD f d fs)))) else .no
  | _ => .no
theorem s_fld {c0 f : Str} {C : Addr} (hC : X.mg c0 = some (.ref C)) (cl : Cls X.K C) (na : NoAttr X.K C f) (hv : DE X W e fv) (hN : X.N[i]? = some x := by rfl) (hvis : Vis X.env.scope x := by first | exact Or.inl rfl | exact Or.inr (Or.inl rfl) | exact Or.inr (Or.inr rfl)) (hd : (x == ("__debug__" : Str)) = false := by decide)
    (hcd : (x == ("__classdict__" : Str)) = false := by decide) (hs : swapsWith e (some (.Attribute (.Name x p') f tpos)) pos.line X.env = pure false := by rfl) : DS X W (.Assign [.Attribute (.Name x p') f tpos] e pos) (sFldD i c0 f fv) :=
  ⟨ps_mono (ps_fld (pe_var hN hvis hd hcd) hv.pe hs) fun D σ H ⟨F, E, rel, h⟩ => ⟨F, E, rel, by
    unfold sFldD at h
    unfold Good
    unfold GoodS at h
    cases q : fv E with
    | ok r E1 =>
      intro F1 H1 v s re nw
      simp only [M.bnd, q] at h
      cases qt : take r E1 with
      | ok d E2 =>
        obtain ⟨F2, s2, hI⟩ := take_ok s re nw qt
        simp only [qt] at h
        cases z : E2[i]? with
        | none => simp only [z] at h
        | some sl =>
          cases sl with
          | un => simp only [z] at h
          | fr d' => simp only [z] at h
          | ow c =>
            cases c with
            | ins c' fs =>
              simp only [z] at h
              by_cases hc : c' = c0 ∧ fs.length < 1000
              · rw [if_pos hc] at h
                obtain ⟨rfl, hl⟩ := hc
                obtain ⟨p, k1, k2, C', dx, vs, hm, hH, hk, hr⟩ := s2.rel.ow i _ z
                rw [hC] at hm
                cases hm
                have kv := isKV_of hk hr
                have kv2 := kv.putF (f := f) hI
                refine ⟨.ref p, k1, p, C, dx, vs, rfl, hH, cl, na, by rw [kv.length]; exact hl, ?_⟩
                exact h F2 σ _ (s2.trans (Stp.mut s2.rel z k1 ⟨C, dx, _, hC, upd_same, kv2.keys, kv2.vals⟩))
              · rw [if_neg hc] at h; exact h.elim
            | _ => simp only [z] at h
      | ex x E2 => exact (take_no qt).elim
      | no => simp only [qt] at h
    | ex x E1 => simp only [M.bnd, q] at h; exact fun F' H' c d s xo => h F' σ H' c d s xo
    | no => simp only [M.bnd, q] at h⟩⟩
variable {f C : Addr} {fd : FuncData} {ps : List Str} {G : Dn} {fs : M (List D)} {cn : Str}
theorem run_makeS {CX : CXT} {sp : Sp} {En' : XK} {pins : List (Addr × Obj)} {s : Shared} {Q : VK} {us : List Value} {vs : List V} (mk : Mk X.K C f) (FO : FnOk X.prog X.w X.K X.mg X.base CX k f fd ps sp) (hr : Room (k + 1) X.A) (hb : Binds X.K fd ps []) (hx : PassesAt CX X σ En') (I : Inv X pins σ H s) (r : Vals vs us)
    (h : ∀ x dx, H x = none → H dx = none → dx ≠ x → sp (.ref x :: vs) (upd (upd H dx (.own x)) x (.ins C dx [])) (fun v H2 => v = .non ∧ Q (.ref x) H2) En') : wpAny (model X.prog X.w) X.A (call (.ref C) us) (EP X pins σ Q) X.xe s := by
  have hq := h (s.heap.objs.size + 1) s.heap.objs.size (I.hok.fresh (Nat.le_succ _)) (I.hok.fresh (Nat.le_refl _)) (Nat.ne_of_lt (Nat.lt_succ_self _))
  have J := Inv.made (C := C) I
  have r2 : Vals (V.ref (s.heap.objs.size + 1) :: vs) (Value.ref (s.heap.objs.size + 1) :: us) := .cons rfl r
  have hl : (Value.ref (s.heap.objs.size + 1) :: us ++ ([] : List Value)).length = ps.length := by
    rw [List.append_nil, ← r2.length]
    exact FO.len _ _ _ _ hq
  have hb' := hb _ (Value.ref (s.heap.objs.size + 1) :: us) J.kIn hl
  rw [List.append_nil] at hb'
  refine wpAny_call (make_map (f := f) I.kIn mk.makes mk.init (beq_iff_eq.mp mk.fn) (codeAny_mono (FO.run _ X.stack _ _ ⟨Value.ref (s.heap.objs.size + 1) :: us, []⟩ (Value.ref (s.heap.objs.size + 1) :: us) _ _ En' (hr.make C us []) (J.env0.make C us []) hb' r2 hq) fun r s' hq' => ?_))
  cases r with
  | error e => exact hx pins _ _ e s' J hq'
  | ok fl =>
    cases fl with
    | ret u =>
      obtain ⟨v, H', I3, rv, ev, q3⟩ := J.after hq'
      subst ev
      exact ⟨rv, ⟨V.ref (s.heap.objs.size + 1), H', I3, rfl, q3⟩⟩
    | _ => exact False.elim hq'
def tMakeS (C : Addr) (sp : Sp) (En' : L2.St → XK) (t : TA) : TE := fun σ H Q => t σ H fun vs H1 => ∀ x dx, H1 x = none → H1 dx = none → dx ≠ x → sp (.ref x :: vs) (upd (upd H1 dx (.own x)) x (.ins C dx [])) (fun v H2 => v = .non ∧ Q (.ref x) H2) (En' σ)
theorem pe_makeS {CX : CXT} {sp : Sp} {En' : L2.St → XK} {t : TA} (mk : Mk X.K C f) (FO : FnOk X.prog X.w X.K X.mg X.base CX k f fd ps sp) (hr : Room (k + 1) X.A) (hg : Gl X x) (hm : X.mg x = some (.ref C)) (hb : Binds X.K fd ps []) (hx : ∀ σ, PassesAt CX X σ (En' σ)) (ha : PA X (e :: es) t) (hdb : (x == ("__debug__" : Str)) = false := by decide)
    (he : starEach (e :: es) X.env = (false, eval e X.env) :: starEach es X.env := by rfl) (hpl : (backTo pos (starEach es X.env)).any (·.1) = false := by rfl) : PE X (.Call (.Name x p) (e :: es) [] pos) (tMakeS C sp En' t) :=
  ⟨fun pins s σ H Q I h => wpAny_Call_Name_kw (ld_glob I hg hm (PySem.W.callWith_K (h₀ := X.base) I.ok.mod.kin mk.kp (thn (ha.run pos pins s σ H _ I h) fun us s1 ⟨vs, H1, I1, r, q⟩ => ⟨I1.kIn, run_makeS mk FO hr hb (hx σ) I1 r q⟩) he hpl) hdb)⟩
def mMake (cn : Str) (n : Nat) (G : Dn) (fs : M (List D)) : M R := M.bnd fs fun ds => fun E => if ds.length + 1 = n then (match G (.ins cn [] :: ds) with
  | .ret false .non o => (match o with
    | .ins c' fs' => .ok (.fs (.ins c' fs')) E
    | _ => .no)
  | .exc x _ => .ex x E
  | _ => .no) else .no
theorem relK_made {q dx : Addr} (hq : H q = none) (hdx : H dx = none) (ne : dx ≠ q) (hC : X.mg cn = some (.ref C)) (rel : Rel X F E σ H) {vs : List V} {ds : List D} (hA : IsAll X.K X.mg F vs ds) : RelK X.K X.mg F (sl0 true (.ins cn [] :: ds)) ((V.ref q :: vs).map some) (upd (upd H dx (.own q)) q (.ins C dx [])) := by
  refine ⟨fun b o h => ?_, by rw [sl0_len, List.length_map, List.length_cons, List.length_cons, hA.length], fun j d h => ?_, fun j d h => ?_, fun j l d d' p ne h1 h2 => absurd ((sl0_ow h1).2.1.trans (sl0_ow h2).2.1.symm) ne⟩
  · have hb := rel.le b o h
    rw [upd_ne (ne_of_none hb hq), upd_ne (ne_of_none hb hdx)]
    exact hb
  · cases j with
    | zero => simp [sl0] at h
    | succ j =>
      have h' : ds[j]? = some d := by simpa [sl0] using h
      obtain ⟨v, h1, h2⟩ := hA.get h'
      exact ⟨v, by rw [List.map_cons, List.getElem?_cons_succ, List.getElem?_map, h1]; rfl, h2⟩
  · obtain ⟨_, rfl, r, e⟩ := sl0_ow h
    cases e
    exact ⟨q, rfl, rel.le.free hq, C, dx, [], hC, upd_same, rfl, .nil⟩
theorem stp_made {q dx : Addr} {o d0 : D} {vs : List V} {ds : List D} (hq : H q = none) (hdx : H dx = none) (ne : dx ≠ q) (rel : Rel X F E σ H)
    (s : StpK X.K X.mg F (sl0 true (d0 :: ds)) ((V.ref q :: vs).map some) (upd (upd H dx (.own q)) q (.ins C dx [])) F' (sl0 true (o :: ds)) ((V.ref q :: vs).map some) H') : Stp X F E σ H F' E σ H' := by
  have cal : ∀ a, Own (sl0 true (d0 :: ds)) ((V.ref q :: vs).map some) a → a = q := fun a w => by
    obtain ⟨_, ws, e⟩ := own_sl0 w
    cases e; rfl
  have up : ∀ a x, H a = some x → upd (upd H dx (.own q)) q (.ins C dx []) a = some x := fun a x h => by
    rw [upd_ne (ne_of_none h hq), upd_ne (ne_of_none h hdx)]; exact h
  have kp : ∀ a x, H a = some x → H' a = some x := fun a x h => s.kept a x (up a x h) fun w => ne_of_none h hq (cal a w)
  have nf : ∀ a, F' a ≠ none → F a ≠ none ∨ H a = none := fun a h => by
    rcases s.fnew a h with z | z | z
    · exact .inl z
    · right
      by_cases e : a = q
      · rw [e]; exact hq
      · by_cases e2 : a = dx
        · rw [e2]; exact hdx
        · rw [upd_ne e, upd_ne e2] at z; exact z
    · right; rw [cal a z]; exact hq
  refine ⟨⟨s.rel.le, rel.len, fun i d h => ?_, fun i d h => ?_, rel.ne⟩, s.mono, fun a o h _ => kp a o h, fun a h => ?_, fun a w => .inr w, fun d h => ⟨rfl, d, h⟩⟩
  · obtain ⟨v, h1, h2⟩ := rel.fr i d h
    exact ⟨v, h1, h2.mono s.mono⟩
  · obtain ⟨r, h1, h2, h3⟩ := rel.ow i d h
    obtain ⟨o, ho⟩ := h3.there
    refine ⟨r, h1, ?_, h3.mono s.mono ((kp r o ho).trans ho.symm)⟩
    cases z : F' r with
    | none => rfl
    | some u =>
      rcases nf r (by rw [z]; exact fun y => nomatch y) with y | y
      · exact absurd h2 y
      · rw [ho] at y; cases y
  · rcases nf a h with z | z
    · exact .inl z
    · exact .inr (.inl z)
theorem d_make (mk : Mk X.K C f) (FO : FnOk X.prog X.w X.K X.mg X.base (L2.CX X.prog X.w) k f fd ps (spD X.K X.mg true ps.length G)) (tk : Takes X W) (hr : Room (k + 1) X.A) (hg : Gl X x) (hm : X.mg x = some (.ref C)) (hb : Binds X.K fd ps [])
    (ha : DA X W (e :: es) fs) (hdb : (x == ("__debug__" : Str)) = false := by decide) (he : starEach (e :: es) X.env = (false, eval e X.env) :: starEach es X.env := by rfl) (hpl : (backTo pos (starEach es X.env)).any (·.1) = false := by rfl) :
    DE X W (.Call (.Name x p) (e :: es) [] pos) (mMake x ps.length G fs) :=
  ⟨pe_mono (pe_makeS (En' := WE W) mk FO hr hg hm hb (fun σ => passAt tk σ) ha.pa hdb he hpl) fun σ H Q ⟨F, E, rel, h⟩ => ⟨F, E, rel, by
    unfold Good mMake at h
    unfold GoodA
    cases z : fs E with
    | ok ds E1 =>
      simp only [M.bnd, z] at h
      intro F1 H1 vs s hA q dx hq hdx ne
      by_cases hz : ds.length + 1 = ps.length
      · simp only [if_pos hz] at h
        refine ⟨F1, .ins x [] :: ds, hz, by rw [List.length_cons, hA.length]; exact hz, relK_made hq hdx ne hm s.rel hA, ?_⟩
        cases qg : G (.ins x [] :: ds) with
        | ret b d o =>
          cases b with
          | true => simp only [qg] at h
          | false =>
            cases d with
            | non =>
              cases o with
              | ins c' fs' =>
                simp only [qg] at h
                intro F2 H2 v s2 re nw
                have s3 := stp_made hq hdx ne s.rel s2
                refine ⟨by cases re; rfl, ?_⟩
                obtain ⟨p1, m1, m2, m3⟩ := s2.rel.ow 0 (.ins c' fs') (by simp [sl0, back])
                simp only [List.map_cons, List.getElem?_cons_zero, Option.some.injEq, V.ref.injEq] at m1
                subst m1
                exact h F2 H2 (.ref q) (s.trans s3) ⟨q, rfl, m2, not_own_new s.rel hq, m3⟩ fun q' e => by cases e; exact s.hnone hq
              | _ => simp only [qg] at h
            | _ => simp only [qg] at h
        | exc xn o =>
          simp only [qg] at h
          exact fun F2 H2 c d s2 xo => h F2 H2 c d (s.trans (stp_made hq hdx ne s.rel s2)) xo
        | no => simp only [qg] at h
      · simp only [if_neg hz] at h
    | ex x E1 => simp only [M.bnd, z] at h; exact h
    | no => simp only [M.bnd, z] at h⟩⟩
end
end DL
-- SI
namespace DL
open PySem PySem.Spec PyProof.Rows L2
set_option maxHeartbeats 1000000 in
theorem meets_enumT (l : Addr) (items : Array Value) : Meets (Builtin.«enumerate.__new__» ⟨[.type "enumerate", .ref l], []⟩) (fun _ R s => s.heap.IsTuple l items ∧
    R (.ok (.ret (.ref (s.heap.push { cls := .type "tuple_iterator", data := .fields #[.ref l, .int 0 0] }).objs.size))) { s with heap := (s.heap.push { cls := .type "tuple_iterator", data := .fields #[.ref l, .int 0 0] }).push { cls := .type "enumerate", data := .fields #[.none, .bool false, .ref s.heap.objs.size, rawInt 0, .none, .none] } }) :=
  .of_wp fun prog w A R s h => by
    obtain ⟨hp, g, d, tk, os⟩ := s
    obtain ⟨hT, h⟩ := h
    have hsub := sub_enumerate
    have q1 : ∀ {A' : Around} {E : Value → Shared → Prop} {Q : Value → Shared → Prop}, Q (.ref hp.objs.size) ⟨hp.push { cls := .type "tuple_iterator", data := .fields #[.ref l, .int 0 0] }, g, d, tk, os⟩ → wpAny (model prog w) A' (pyIter (.ref l)) Q E ⟨hp, g, d, tk, os⟩ := fun q => wpAny_pyIter_tuple hT q
    wp_walk using q1
    refine wpAny_stack_any fun st => wpAny_pure ?_
    split
    · rename_i c _ _ _ _ _
      cases (c == Value.type "enumerate")
      · wp_walk using q1
        exact ⟨_, rfl, h⟩
      · wp_walk using q1
        exact ⟨_, rfl, h⟩
    · wp_walk using q1
      exact ⟨_, rfl, h⟩
theorem call_enumT {prog : Program} {w : World} {A : Around} {Er : Value → Shared → Prop} {s : Shared} {l : Addr} {items : Array Value} {Q : Value → Shared → Prop} (hT : s.heap.IsTuple l items)
    (h : ∀ h', IsEnum h' (s.heap.objs.size + 1) s.heap.objs.size 0 .none → h'.IsTupleIter s.heap.objs.size l 0 → (∀ b o, s.heap.get? b = some o → h'.get? b = some o) → Q (.ref (s.heap.objs.size + 1)) { s with heap := h' }) : wpAny (model prog w) A (call (.type "enumerate") [.ref l]) Q Er s := by
  refine callType_new F.called_enumerate (by decide) (F.typeCall_enumerate_1 _) (F.newCall_enumerate_1 _) (fun obj => F.args_object_init_2 obj _) F.entry_enumerate_new (meets_enumT l items) ⟨hT, ?_⟩
  obtain ⟨o1, ho1⟩ : ∃ o1 : Obj, o1 = { cls := .type "tuple_iterator", data := .fields #[.ref l, .int 0 0] } := ⟨_, rfl⟩
  obtain ⟨o2, ho2⟩ : ∃ o2 : Obj, o2 = { cls := .type "enumerate", data := .fields #[.none, .bool false, .ref s.heap.objs.size, rawInt 0, .none, .none] } := ⟨_, rfl⟩
  rw [← ho1, ← ho2]
  have hz : (s.heap.push o1).objs.size = s.heap.objs.size + 1 := Heap.size_push ..
  show _ ∧ _
  rw [hz]
  have he : ((s.heap.push o1).push o2).get? (s.heap.objs.size + 1) = some o2 := by
    have q := Heap.get?_push_size (s.heap.push o1) (o := o2) (by rw [ho2]; rfl)
    rw [hz] at q; exact q
  have hi : ((s.heap.push o1).push o2).get? s.heap.objs.size = some o1 := Heap.get?_push_of_some _ (Heap.get?_push_size _ (by rw [ho1]; rfl))
  exact ⟨⟨o2, he, by rw [ho2]⟩, h _ (by rw [ho2] at he ⊢; exact he) ⟨o1, hi, by rw [ho1], by rw [ho1]; rfl⟩ fun b o x => Heap.get?_push_of_some _ (Heap.get?_push_of_some _ x)⟩
/-- the tuple at a, each item in a new pair -/
def IteT (K : PySem.W.Frag) (a : Addr) : It :=
  ⟨fun i H => ∃ (xs : List V) (x : V), SqT K H a xs ∧ xs[i]? = some x, fun i H v H' => ∃ T x, v = .ref T ∧ H T = none ∧ H' = upd H T (.tup [.int (i : Nat), x]) ∧ ∀ xs, SqT K H a xs → xs[i]? = some x, fun i H => ∃ xs : List V, SqT K H a xs ∧ xs.length ≤ i⟩
theorem turn_enumT {P : Program} {w : World} {K : PySem.W.Frag} {elts : List Expr} {kk : Nat} {tpos : Pos} (a e it : Addr) : Turn P w K (.Tuple elts kk tpos) (IteT K a) [e, it] e (fun i h => (∃ old, IsEnum h e it ((i : Nat) : Int) old) ∧ h.IsTupleIter it a i ∧ e ≠ it) where
  mem := by simp
  obj := fun i h st b hb => by
    obtain ⟨⟨old, he⟩, ⟨o, ho, hc, hd⟩, _⟩ := st
    rcases (show b = e ∨ b = it by simpa using hb) with z | z
    · rw [z]; exact ⟨_, he, fun v q => nomatch q⟩
    · rw [z]; exact ⟨o, ho, fun v q => by rw [hd] at q; cases q⟩
  keep := fun i h h' st k => let ⟨⟨old, he⟩, ⟨o, ho, r⟩, hne⟩ := st; ⟨⟨old, k e (by simp) _ he⟩, ⟨o, k it (by simp) o ho, r⟩, hne⟩
  item := by
    intro X hP hw hK hc i pins s σ H Er I hf st hg
    subst hP; subst hw; subst hK
    obtain ⟨⟨old, he⟩, hit, hne⟩ := st
    obtain ⟨xs, x, hq, hx⟩ := hg
    obtain ⟨its, rv, pT, hz⟩ := I.tuple hq
    obtain ⟨u, hu, ru⟩ := rv.get hx
    have hlt : i < its.toArray.size := by
      have := (List.getElem?_eq_some_iff.mp hu).1
      simpa using this
    obtain ⟨oi, hoi, hci, hdi⟩ := id hit
    obtain ⟨oT, hoT, hcT, nT, hdT⟩ := id pT
    have nai : a ≠ it := fun z => by subst z; rw [hoi] at hoT; cases hoT; rw [hdi] at hdT; cases hdT
    have nae : e ≠ a := fun z => by subst z; rw [show s.heap.get? e = _ from he] at hoT; cases hoT; cases hdT
    have hel : e < s.heap.objs.size := Heap.lt_size he
    have hil : it < s.heap.objs.size := Heap.lt_size hoi
    refine wpAny_pyNext_enum_itemD (D := Draws.tuple (A := X.A.in1) (I.ok.hd hc) it a nai its.toArray) he ⟨hit, pT⟩ hlt hne (by simp only [List.mem_cons, List.not_mem_nil, or_false, not_or]; exact ⟨hne, nae⟩) fun x' h' tk hPx ho hst' hT hsz hk => ?_
    have ex : x' = u := by
      have h1 : its[i]? = some x' := by simpa using hPx
      rw [h1] at hu
      exact Option.some.inj hu
    subst ex
    refine ⟨_, rfl, wpAny_letOwnedTupleGo_enum (s := { s with heap := h', toks := tk + 1 }) ho fun h'' he' sb => ?_⟩
    have hT2 : h''.get? s.heap.objs.size = some { cls := .type "tuple", data := .seq #[.int i tk, x'] } := (sb.2 _ (Nat.ne_of_gt hel)).trans hT
    have new : ObjOk X.prog X.w (upd H s.heap.objs.size (.tup [.int (i : Nat), x])) h'' s.heap.objs.size (.tup [.int (i : Nat), x]) := ⟨by show 2 ≤ sizeLine; decide, [.int i tk, x'], .cons ⟨_, rfl⟩ (.cons ru .nil), ⟨_, hT2, rfl, _, rfl⟩⟩
    have J : Inv X pins σ (upd H s.heap.objs.size (.tup [.int (i : Nat), x])) { s with heap := h'', toks := tk + 1 } :=
      I.turnedNew (ch := [e, it]) (fun b ob hb q => (sb.2 b (fun z => hb (by simp [z]))).trans (hk b ob (fun z => hb (by simp [z])) (fun z => hb (by simp [z])) q)) hf (Nat.le_refl _) new
    refine ⟨.ref s.heap.objs.size, _, J, rfl, ⟨_, x, rfl, I.hok.fresh (Nat.le_refl _), rfl, fun ys hy => ?_⟩, ⟨⟨x', ?_⟩, ?_, hne⟩, fun b hb => ?_⟩
    · rw [I.tuple_inj hy hq]; exact hx
    · have e1 : ((i + 1 : Nat) : Int) = (i : Int) + 1 := by omega
      rw [e1]; exact he'
    · obtain ⟨o3, ho3, r3⟩ := hst'.1
      exact ⟨o3, (sb.2 it (Ne.symm hne)).trans ho3, r3⟩
    · have hb' : b < s.heap.objs.size := by
        rcases (show b = e ∨ b = it by simpa using hb) with z | z
        · rw [z]; exact hel
        · rw [z]; exact hil
      rw [upd_ne (Nat.ne_of_lt hb')]
      exact (hf b hb).1
  done := by
    intro X hP hw hK hc i pins s σ H Er I hf st hg
    subst hP; subst hw; subst hK
    obtain ⟨⟨old, he⟩, hit, hne⟩ := st
    obtain ⟨xs, hq, hx⟩ := hg
    obtain ⟨its, rv, pT, hz⟩ := I.tuple hq
    obtain ⟨f0, f1, f2, f3, f4, f5⟩ := hf it (by simp)
    obtain ⟨oi, hoi, hci, hdi⟩ := id hit
    obtain ⟨oT, hoT, hcT, nT, hdT⟩ := id pT
    have nai : a ≠ it := fun z => by subst z; rw [hoi] at hoT; cases hoT; rw [hdi] at hdT; cases hdT
    have hno : its.toArray[i]? = none := by
      have := rv.length
      simp
      omega
    have D2 : Draws X.prog X.w X.A.in1 it [it, a] i (fun _ _ => True) (fun j h => j = i ∧ h.IsTupleIter it a i ∧ h.IsTuple a its.toArray) :=
      { live := fun _ _ st => st.2.1.elim fun o z => ⟨o, z.1⟩
        frame := fun _ _ _ st hk => ⟨st.1, st.2.1.elim fun o z => ⟨o, hk it (by simp) o z.1, z.2⟩, st.2.2.elim fun o z => ⟨o, hk a (by simp) o z.1, z.2⟩⟩
        item := fun j s Q Er hj st _ => absurd (st.1 ▸ hj) (Nat.lt_irrefl _)
        done := fun s Q Er st hE => wpAny_nextOf_tuple_end (I.ok.hd hc) st.2.1 st.2.2 hno hE }
    exact wpAny_pyNext_enum_endD D2 he ⟨rfl, hit, pT⟩ fun h' eb => ⟨rfl, I.turned (t' := s.toks) (fun b o hb q => eb b o hb q) f0 f1 f3 f4 f5⟩
  self := fun A i s Q Er st h => let ⟨⟨_, he⟩, _⟩ := st; wpAny_pyIter_enum he h
theorem pi_enumT {X : Cx} {e : Expr} {te : TE} {p pos tpos : Pos} {elts : List Expr} {kk : Nat} (hg : Gl X "enumerate") (hm : X.mg "enumerate" = none) (he : PE X e te) (hs : starEach [e] X.env = (false, eval e X.env) :: starEach [] X.env := by rfl) :
    PI X (.Tuple elts kk tpos) (.Call (.Name "enumerate" p) [e] [] pos) (fun σ H R => te σ H fun x H1 => ∃ a xs, x = .ref a ∧ SqT X.K H1 a xs ∧ R (IteT X.K a) H1) := by
  refine ⟨fun pins s σ H R I h => ?_⟩
  refine Call_ (ld_blt I hg hm boot_enumerate (PyProof.Rows.callWith_type1 (PyProof.Rows.args_cons (thn (he.run pins s σ H _ I h) fun u s1 ⟨x, H1, I1, r1, q1⟩ => PyProof.Rows.args_nil ?_) hs) hs rfl))
  obtain ⟨a, xs, ex, hq, q⟩ := q1
  subst ex
  cases r1
  obtain ⟨its, rv, pT, hz⟩ := I1.tuple hq
  refine call_enumT pT fun h' he' hit hk => wpAny_pyIter_enum he' ?_
  refine ⟨s1.heap.objs.size + 1, [s1.heap.objs.size + 1, s1.heap.objs.size], _, _, H1, rfl, I1.kept (t' := s1.toks) hk, turn_enumT a (s1.heap.objs.size + 1) s1.heap.objs.size, ⟨⟨.none, he'⟩, hit, Nat.succ_ne_self _⟩, fun b hb => ?_, q⟩
  have hle : s1.heap.objs.size ≤ b := by
    rcases (show b = s1.heap.objs.size + 1 ∨ b = s1.heap.objs.size by simpa using hb) with z | z
    · rw [z]; exact Nat.le_succ _
    · rw [z]; exact Nat.le_refl _
  exact I1.fpOk hle (I1.hok.fresh hle)
/-- the pairs -/
def enumD : Nat → List D → List D
  | _, [] => []
  | n, d :: ds => .tup [.int n, d] :: enumD (n + 1) ds
theorem enumD_len : ∀ (ds : List D) (n : Nat), (enumD n ds).length = ds.length
  | [], _ => rfl
  | d :: ds, n => by rw [enumD, List.length_cons, List.length_cons, enumD_len ds]
theorem enumD_get : ∀ (ds : List D) (n i : Nat), (enumD n ds)[i]? = (ds[i]?).map fun d => .tup [.int ((n + i : Nat) : Int), d]
  | [], _, _ => by simp [enumD]
  | d :: ds, n, 0 => by simp [enumD]
  | d :: ds, n, i + 1 => by
    rw [enumD, List.getElem?_cons_succ, List.getElem?_cons_succ, enumD_get ds (n + 1) i]
    have : n + 1 + i = n + (i + 1) := by omega
    rw [this]
theorem wk_enumT {X : Cx} {F : Hp} {a : Addr} {vs : List V} {ds : List D} (h : ∀ H, Same F H → SqT X.K H a vs) (r : IsAll X.K X.mg F vs ds) : Wk X F (IteT X.K a) (enumD 0 ds) where
  stop := fun i H s hi => ⟨vs, h H s, by rw [enumD_len] at hi; rw [r.length]; exact hi⟩
  go := fun i H s hi => by
    rw [enumD_len] at hi
    obtain ⟨v, h1, _⟩ := r.get (List.getElem?_eq_getElem hi)
    exact ⟨vs, v, h H s, h1⟩
  yld := fun i H x H' s hl y => by
    obtain ⟨T, z, rfl, hT, rfl, hz⟩ := y
    obtain ⟨d, h1, h2⟩ := r.getV (hz vs (h H s))
    refine ⟨.tup [.int ((i : Nat) : Int), d], by rw [enumD_get, h1]; simp, .inr ⟨T, .tup [.int (i : Nat), z], rfl, hT, rfl, .tup upd_same (.cons (.int _) (.cons ?_ .nil))⟩⟩
    exact h2.mono fun b o q => by rw [upd_ne (ne_of_none (s _ _ q) hT)]; exact q
def mEnum (f : M R) : M (List D) := M.bnd f fun r => M.bnd (take r) fun d => fun E => match d with
  | .tup ds => .ok (enumD 0 ds) E
  | .tpf ds => .ok (enumD 0 ds) E
  | _ => .no
theorem i_enum {X : Cx} {W : WX} {e : Expr} {fa : M R} {p pos tpos : Pos} {elts : List Expr} {kk : Nat} (hg : Gl X "enumerate") (hm : X.mg "enumerate" = none) (he : DE X W e fa) (hs : starEach [e] X.env = (false, eval e X.env) :: starEach [] X.env := by rfl) :
    DI X W (.Tuple elts kk tpos) (.Call (.Name "enumerate" p) [e] [] pos) (mEnum fa) :=
  ⟨pi_mono (pi_enumT hg hm he.pe hs) fun σ H R ⟨F, E, rel, g⟩ => ⟨F, E, rel, by
    unfold GoodI mEnum at g
    unfold Good
    cases q : fa E with
    | ok r E1 =>
      simp only [M.bnd, q] at g
      intro F1 H1 v s re nw
      cases qt : take r E1 with
      | ok d E2 =>
        simp only [qt] at g
        obtain ⟨F2, s2, hI⟩ := take_ok s re nw qt
        cases hI with
        | @tup a vs ds h r => exact ⟨a, vs, rfl, tupS s2.rel.le h, g F2 H1 _ s2 (wk_enumT (fun _ e => tupS e h) r)⟩
        | @tpf a o vs ds h n r => exact ⟨a, vs, rfl, tpfS s2.rel.le h, g F2 H1 _ s2 (wk_enumT (fun _ e => tpfS e h) r)⟩
        | _ => exact g.elim
      | ex x E2 => exact (take_no qt).elim
      | no => simp only [qt] at g
    | ex x E1 => simp only [M.bnd, q] at g; exact g
    | no => simp only [M.bnd, q] at g⟩⟩
end DL
-- SJ
namespace DL
open PySem PySem.Spec PyProof.Rows L2
section
variable {X : Cx}
/-- greater, by places -/
def lexGt (ns ms : List Int) : Bool := Ob.lexAt (fun j => decide (ns.getD j 0 = ms.getD j 0)) (fun j => decide (ms.getD j 0 < ns.getD j 0)) (decide (ns.length > ms.length)) 0 (min ns.length ms.length)
def rGtT (K : PySem.W.Frag) : R2 := fun x y H Q => ∃ (a b : Addr) (ns ms : List Int), x = .ref a ∧ y = .ref b ∧ SqT K H a (ns.map V.int) ∧ SqT K H b (ms.map V.int) ∧ Q (.bl (lexGt ns ms)) H
theorem op_gtT (hu : X.A.units < cLine) : OpR X (compareOp .Gt) (rGtT X.K) := by
  intro pins s σ H x y v u Q I rx ry h
  obtain ⟨a, b, ns, ms, rfl, rfl, ha, hb, q⟩ := h
  cases rx; cases ry
  obtain ⟨its, r1, p1, _⟩ := I.tuple ha
  obtain ⟨its2, r2, p2, _⟩ := I.tuple hb
  have i1 : IntsAre its ns := Vals.ints r1
  have i2 : IntsAre its2 ms := Vals.ints r2
  have n1 : its.toArray.size = ns.length := by rw [List.size_toArray]; exact i1.length
  have n2 : its2.toArray.size = ms.length := by rw [List.size_toArray]; exact i2.length
  have g1 : ∀ j (h1 : j < its.toArray.size), ∃ t, its.toArray[j] = .int (ns.getD j 0) t := fun j h1 => PyProof.Rows.IntsAre.int_at i1 _ _ (by simp at h1; simp [h1])
  have g2 : ∀ j (h1 : j < its2.toArray.size), ∃ t, its2.toArray[j] = .int (ms.getD j 0) t := fun j h1 => PyProof.Rows.IntsAre.int_at i2 _ _ (by simp at h1; simp [h1])
  have R := Ob.RcOp.tuples_gt (A := X.A) (s := s) (e := fun j => decide (ns.getD j 0 = ms.getD j 0)) (r := fun j => decide (ms.getD j 0 < ns.getD j 0)) p1 p2 hu (fun j h1 h2 => by
    obtain ⟨t, et⟩ := g1 j h1
    obtain ⟨t', et'⟩ := g2 j h2
    rw [et, et', show decide (ns.getD j 0 = ms.getD j 0) = (ns.getD j 0 == ms.getD j 0) by rw [Bool.eq_iff_iff]; simp]
    exact SeqAt.EqAt.int_int _ _ _ _) (fun j h1 h2 _ => by
    obtain ⟨t, et⟩ := g1 j h1
    obtain ⟨t', et'⟩ := g2 j h2
    rw [et, et']
    exact Ob.RcOp.gt_int _ _ _ _)
  rw [n1, n2] at R
  exact (show wpAny (model X.prog X.w) X.A (compareOp .Gt (.ref a) (.ref b)) (EP X pins σ Q) X.xe s from R X.prog X.w X.xe (EP X pins σ Q) ⟨.bl _, H, I, rfl, q⟩)
end
section
variable {prog : Program} {w : World} {A : Around} {E : Value → Shared → Prop} {s : Shared}
theorem collect_tup {l : Addr} {vs : List Value} {Q : List Value → Shared → Prop} (hl : s.heap.IsTuple l vs.toArray) (h : Q vs { s with heap := (s.heap.push (seqObj "list" #[] 0)).update s.heap.objs.size (Obj.mapSeq (· ++ vs.toArray)) }) (hsz : vs.length ≤ sizeLine) :
    wpAny (model prog w) A (collect (.ref l)) Q E s := by
  obtain ⟨o, ho, hc, n, hd⟩ := id hl
  unfold collect
  refine wpAny_bind (wpAny_runValue (codeAny_builtin entry_proto_collect' ?_))
  show wpAny _ _ (do again (.builtin "list.__iadd__" ⟨[← newList [], .ref l], []⟩)) _ _ s
  refine wpAny_bind (wpAny_newList (wpAny_pure ⟨Code.quiet_builtin _ (by decide +kernel), codeAny_builtin entry_list_iadd' ?_⟩))
  show wpAny _ _ (Builtin.List.listExtendWith (.ref s.heap.objs.size) (.ref l) (.ref s.heap.objs.size)) _ _ { s with heap := s.heap.push (seqObj "list" #[] 0) }
  unfold Builtin.List.listExtendWith
  have up : (s.heap.push (seqObj "list" #[] 0)).get? l = some o := Heap.get?_push_of_some _ ho
  have mine : (s.heap.push (seqObj "list" #[] 0)).get? s.heap.objs.size = some (seqObj "list" #[] 0) := Heap.get?_push_size _ rfl
  refine wpAny_bind (wpAny_typeOf (T := "tuple") ⟨o, up, hc⟩ ?_)
  rw [if_pos (by rw [show (Value.type "tuple" == Value.type "tuple") = true by rfl]; simp)]
  refine wpAny_bind (listItems_at up hd (wpAny_bind (listItems_at (xs := #[]) (n := 0) mine rfl ?_)))
  rw [if_neg (by simp)]
  refine wpAny_bind (listUpdate_at (xs := #[]) (n := 0) mine rfl ?_ (Nat.zero_le _) (by show (#[] ++ vs.toArray).size ≤ sizeLine + 1; simp only [Array.size_append, List.size_toArray, List.length_nil]; omega))
  refine wpAny_pure ?_
  show wpAny (model prog w) A (do let o ← load s.heap.objs.size; match o.data with | .seq xs _ => pure xs.toList | _ => unsupported "internal:collect") Q E { s with heap := (s.heap.push (seqObj "list" #[] 0)).update s.heap.objs.size (Obj.mapSeq (· ++ vs.toArray)) }
  refine wpAny_bind (wpAny_load (get?_update_seq mine _) ?_)
  show wpAny _ _ (pure ((#[] : Array Value) ++ vs.toArray).toList) Q E _
  rw [show ((#[] : Array Value) ++ vs.toArray).toList = vs by simp]
  exact wpAny_pure h
theorem sorted_tupO {l : Addr} {vs : List Value} {ltv : Value → Value → Bool} {Q : Value → Shared → Prop} (O : SrtO.Swo ltv) (hl : s.heap.IsTuple l vs.toArray) (hz : vs.length ≤ sizeLine)
    (hS : 2 ≤ vs.length → ∀ (h₁ : Heap) (a : Addr), h₁.get? a = some (seqObj "list" vs.toArray 0) → (∀ b o, s.heap.get? b = some o → b ≠ a ∧ h₁.get? b = some o) → SrtO.SortableO prog w A.in1.in1 { s with heap := h₁ } a vs ltv)
    (h : ∀ out : List Value, SrtO.Srtd ltv out → SrtO.Stb ltv out vs → Q (.ref (s.heap.objs.size + 1)) { s with heap := sortedAll s.heap vs out.toArray }) : wpAny (model prog w) A (call (.builtin "sorted") [.ref l]) Q E s := by
  refine Calls.call_function_entry kind_sorted plain_sorted entry_sorted (args_sorted1 _) ?_
  unfold Builtin.«sorted»
  refine wpAny_bind (m := checkCount "sorted" 1 1 _) (wpAny_pure (wpAny_bind (collect_tup hl (wpAny_bind (wpAny_newList ?_ hz)) hz)))
  obtain ⟨g, hg⟩ : ∃ g : Heap, g = (s.heap.push (seqObj "list" #[] 0)).update s.heap.objs.size (Obj.mapSeq (· ++ vs.toArray)) := ⟨_, rfl⟩
  have gs : g.objs.size = s.heap.objs.size + 1 := by rw [hg, Heap.size_update, size_push']
  have gk : ∀ b o, s.heap.get? b = some o → g.get? b = some o := fun b o q => by rw [hg, Heap.get?_update_ne _ _ _ _ (Nat.ne_of_lt (Heap.lt_size q))]; exact Heap.get?_push_of_some _ q
  have hoL : (g.push (seqObj "list" vs.toArray 0)).get? (s.heap.objs.size + 1) = some (seqObj "list" vs.toArray 0) := by rw [← gs]; exact Heap.get?_push_size _ rfl
  show wpAny _ _ _ _ _ { s with heap := ((s.heap.push (seqObj "list" #[] 0)).update s.heap.objs.size (Obj.mapSeq (· ++ vs.toArray))).push (seqObj "list" vs.toArray 0) }
  have e0 : ∀ out : List Value, sortedAll s.heap vs out.toArray = sortedHeap (g.push (seqObj "list" vs.toArray 0)) (s.heap.objs.size + 1) vs out.toArray := fun out => by rw [hg]; rfl
  simp only [e0] at h
  rw [← hg, gs]
  refine wpAny_bind (wpAny_holding (wpAny_call_entry slot_list_sort ⟨_, hoL, rfl⟩ entry_list_sort (SrtO.list_sort_ord O hoL hz (fun h2 => hS h2 _ _ hoL fun b o q => ⟨Nat.ne_of_lt (Nat.lt_succ_of_lt (Heap.lt_size q)), Heap.get?_push_of_some _ (gk b o q)⟩) fun out hs hb => ⟨_, rfl, wpAny_pure ⟨_, rfl, h out hs hb⟩⟩) (args_list_sort _)))
end
section
variable {X : Cx}
def rSortedIT (K : PySem.W.Frag) : List V → Hp → VK → Prop := fun vs H Q => ∃ (a : Addr) (ns : List Int), vs = [V.ref a] ∧ SqT K H a (ns.map V.int) ∧ ∀ (ns' : List Int) (p : Addr), ns'.Perm ns → ns'.Pairwise (· ≤ ·) → H p = none → Q (.ref p) (upd H p (.lst (ns'.map V.int)))
theorem cr_sortedIT : CallR X (.builtin "sorted") (rSortedIT X.K) := by
  intro pins s σ H vs us Q I r h
  obtain ⟨a, ns, rfl, hs, q⟩ := h
  obtain ⟨its, rv, hl, hz⟩ := I.tuple hs
  rw [Vals.ref1 r]
  have hi := rv.ints
  refine sorted_tupO SrtO.swo_int hl (by rw [← rv.length]; exact hz) (fun h2 h₁ a' _ _ => SrtO.ints_sortable hi h2) fun out h1 h2 => ?_
  obtain ⟨k1, k2, k3⟩ := SrtO.ints_out hi h1 h2
  obtain ⟨ep, he'⟩ := PyProof.Rows.sortedAll_at s.heap its out.toArray
  rw [List.length_map] at hz
  exact ⟨.ref _, upd H (s.heap.objs.size + 1) (.lst ((out.map SrtO.iv).map V.int)), I.laid (t' := s.toks) (fun _ _ => PyProof.Rows.sortedAll_old) (Nat.le_succ _) ⟨by rw [List.length_map, k2.length_eq]; exact hz, out, ep, vals_of_ints k1, he'⟩, rfl, q _ _ k2 k3 (I.hok.fresh (Nat.le_succ _))⟩
end
end DL
-- SK
namespace DL
open PySem PySem.Spec PyProof.Rows L2
section
variable {X : Cx} {W : WX} {F F1 F' : Hp} {E E1 E' : En} {σ σ1 σ' : L2.St} {H H1 H' : Hp}
variable {a b c e o tg iter : Expr} {st : Stmt} {body rest orelse : List Stmt} {es : List Expr} {fa fb fc fi fv : M R} {pos tpos p p' : Pos} {i k : Nat} {x : Str}
/-- the items of a tuple of either kind -/
def tupOf : D → Option (List D)
  | .tup ds => some ds
  | .tpf ds => some ds
  | _ => none
theorem tupOf_ok {K : PySem.W.Frag} {mg : Str → Option Value} {v : V} {d : D} {ds : List D} (s : Same F H) (h : Is1 K mg F H v d) (e : tupOf d = some ds) : ∃ a vs, v = .ref a ∧ SqT K H a vs ∧ IsAll K mg F vs ds := by
  cases h with
  | tup q r => cases e; exact ⟨_, _, rfl, tupS s q, r⟩
  | tpf q n r => cases e; exact ⟨_, _, rfl, tpfS s q, r⟩
  | _ => cases e
def tupI (d : D) : Option (List Int) := (tupOf d).bind unIs
theorem tupI_ok {K : PySem.W.Frag} {mg : Str → Option Value} {v : V} {d : D} {ns : List Int} (s : Same F H) (h : Is1 K mg F H v d) (e : tupI d = some ns) : ∃ a, v = .ref a ∧ SqT K H a (ns.map V.int) := by
  obtain ⟨ds, h1, h2⟩ := Option.bind_eq_some_iff.mp e
  obtain ⟨a, vs, rfl, q, r⟩ := tupOf_ok s h h1
  rw [unIs_some h2] at r
  rw [isAll_ints r] at q
  exact ⟨a, rfl, q⟩
def gGtA (x y : D) : Option R := match tupI x, tupI y with
  | some ns, some ms => some (.fz (.bl (lexGt ns ms)))
  | _, _ => gGt x y
theorem gtAOk : BinOk X (fun x y H Q => rI0 (fun i j => .bl (decide (j < i))) x y H Q ∨ rGtT X.K x y H Q) gGtA := by
  intro x y F H Q a b z s ha hb e q
  unfold gGtA at e
  cases z1 : tupI a with
  | none => rw [z1] at e; exact .inl (binB0 (X := X) x y F H Q a b z s ha hb e q)
  | some ns =>
    cases z2 : tupI b with
    | none => rw [z1, z2] at e; exact .inl (binB0 (X := X) x y F H Q a b z s ha hb e q)
    | some ms =>
      rw [z1, z2] at e
      cases e
      obtain ⟨p, rfl, h1⟩ := tupI_ok s ha z1
      obtain ⟨p2, rfl, h2⟩ := tupI_ok s hb z2
      exact .inr ⟨p, p2, ns, ms, rfl, rfl, h1, h2, q _ _ (.old (.bl _))⟩
theorem d_gtA {k : Nat} (hr : Room k X.A) (ha : DE X W a fa) (hb : DE X W b fb) : DE X W (.Compare a [.Gt] [b] pos) (mBin gGtA fa fb) := d_cmp (op_gt.or (op_gtT (hu0 hr))) gtAOk ha hb (nomark _)
theorem t_gtA {k : Nat} (hr : Room k X.A) (ha : DE X W a fa) (hb : DE X W b fb) : DT X W (.Compare a [.Gt] [b] pos) (mBl (mBin gGtA fa fb)) := t_cmp (op_gt.or (op_gtT (hu0 hr))) gtAOk ha hb (nomark _)
def gSortedA : List D → Option R
  | [d] => (match tupI d with
    | some ns => some (.fs (.lst ((sortI ns).map .int)))
    | none => gSorted [d])
  | _ => none
theorem op_sortedA : CallR X (.builtin "sorted") (fun vs H Q => (rSortedI X.K vs H Q ∨ rSortedPO X.K vs H Q) ∨ rSortedIT X.K vs H Q) := CallR.or op_sorted cr_sortedIT
theorem sortedAOk : CbOk X (fun vs H Q => (rSortedI X.K vs H Q ∨ rSortedPO X.K vs H Q) ∨ rSortedIT X.K vs H Q) gSortedA := by
  intro vs F H Q ds z s hA e q
  cases hA with
  | nil => cases e
  | cons h t =>
    cases t with
    | cons _ _ => cases e
    | nil =>
      rename_i d
      unfold gSortedA at e; dsimp only at e
      cases z1 : tupI d with
      | none => rw [z1] at e; exact .inl (sortedOk (X := X) _ F H Q [d] z s (.cons h .nil) e q)
      | some ns =>
        rw [z1] at e
        cases e
        obtain ⟨a, rfl, h1⟩ := tupI_ok s h z1
        refine .inr ⟨a, ns, rfl, h1, fun ns' p pm so hp => q _ _ (out_lst hp ?_)⟩
        rw [sortedI_uniq (sortI_sorted ns) so ((sortI_perm ns).trans pm.symm)]
        exact IsAll.ints ns'
def gTupleF : List D → Option R
  | [.lst ds] => some (.fz (.tpf ds))
  | _ => none
def rTupF (K : PySem.W.Frag) : List V → Hp → VK → Prop := fun xs H Q => ∃ p ys, xs = [.ref p] ∧ SqL K H p ys ∧ ∀ l o, H l = none → o.dict = none → Q (.ref l) (upd H l (.frz o (.tup ys)))
theorem call_tupF : CallR X (.type "tuple") (rTupF X.K) := by
  intro pins s σ H xs us Q I r h
  obtain ⟨p, ys, rfl, hq, q⟩ := h
  obtain rfl := Vals.ref1 r
  obtain ⟨its, rv, pl, hz⟩ := I.list hq
  have hlen := rv.length
  refine call_tuple_list pl.isList (fun h' kp => ?_) (by simp only [List.size_toArray]; omega)
  have J : Inv X pins σ H { s with heap := h' } := I.kept (t' := s.toks) kp
  have J2 : Inv X pins σ (upd H h'.objs.size (.frz { cls := .type "tuple", data := .seq its.toArray } (.tup ys))) { s with heap := h'.push { cls := .type "tuple", data := .seq its.toArray } } :=
    J.laid (t' := s.toks) (fun b o e => Heap.get?_push_of_some _ e) (Nat.le_refl _) ⟨Heap.get?_push_size _ rfl, hz, its, rv, IsTup.new _ _⟩
  exact ⟨.ref h'.objs.size, _, J2, rfl, q _ _ (J.hok.fresh (Nat.le_refl _)) rfl⟩
theorem tupFOk : CbOk X (rTupF X.K) gTupleF := by
  intro vs F H Q ds z s hA e q
  cases hA with
  | nil => cases e
  | cons h t =>
    cases t with
    | cons _ _ => cases h <;> simp [gTupleF] at e
    | nil =>
      cases h with
      | @lst a ws ds h r =>
        cases e
        exact ⟨a, ws, rfl, .inl (.inl h), fun l o hl hd => q _ _ (.newF hl (.tpf upd_same hd (r.mono fun b x hb => by rw [upd_ne (ne_of_none hb (s.free hl))]; exact hb)))⟩
      | _ => simp [gTupleF] at e
def rIdxT (K : PySem.W.Frag) : V → List V → Hp → VK → Prop := fun x xs H Q => ∃ (a : Addr) (ns : List Int) (k : Int), x = .ref a ∧ xs = [.int k] ∧ SqT K H a (ns.map V.int) ∧ k ∈ ns ∧ Q (.int (ns.idxOf k : Nat)) H
def tIdxT (K : PySem.W.Frag) (to : TE) (t : TA) : TE := fun σ H Q => to σ H fun x H1 => (∃ a o ys, x = .ref a ∧ H1 a = some (.frz o (.tup ys)) ∧ o.dict = none) ∧ t σ H1 fun xs H2 => rIdxT K x xs H2 Q
theorem pe_idxT {o e : Expr} {to : TE} {t : TA} {apos cpos : Pos} (hu : X.A.units + 4 < cLine) (ho : PE X o to) (ha : PA X [e] t) (hbase : attributeBase o "index" X.env (eval o X.env) = eval o X.env := by rfl)
    (hfew : ((backTo cpos (starEach [e] X.env)).all (fun x => !x.1) && (backToKw cpos (keywordEach [] X.env)).all (fun x => x.1.isSome) && decide (([e] : List Expr).length + ([] : List Keyword).length + (if ([] : List Keyword).isEmpty then 0 else 1) < 30)) = true := by rfl)
    (hline : (apos.endLine == cpos.line) = true := by rfl) (hs : starEach [e] X.env = (false, eval e X.env) :: starEach [] X.env := by rfl) (hplain : (backTo cpos (starEach [] X.env)).any (·.1) = false := by rfl) : PE X (.Call (.Attribute o "index" apos) [e] [] cpos) (tIdxT X.K to t) := by
  refine ⟨fun pins s σ H Q I h => ?_⟩
  refine wpAny_Call_method_late hbase hfew hline rfl (thn (ho.run pins s σ H _ I h) fun v s1 ⟨x, H1, I1, r1, ⟨a, oo, ys, ex, ha1, hdn⟩, q1⟩ => ?_)
  subst ex
  cases r1
  have hob : s1.heap.get? a = some oo := (I1.hok a _ ha1).1
  have hcl : oo.cls = .type "tuple" := by
    obtain ⟨_, _, its0, _, o0, ho0, hc0, _⟩ := (show ObjOk X.prog X.w H1 s1.heap a (.frz oo (.tup ys)) from I1.hok a _ ha1)
    rw [hob] at ho0
    cases ho0
    exact hc0
  refine ⟨"tuple", "tuple.index", PySem.F.plainAttrs_tuple, PySem.F.slot_tuple_index, PySem.F.type_tuple_index, ⟨oo, hob, hcl⟩, fun b e => by cases e; exact ⟨oo, hob, hdn⟩, ?_⟩
  have hA := ha.run cpos pins s1 σ H1 _ I1 q1
  rw [hs] at hA ⊢
  refine Calls.callWith_builtin (by show (false || (backTo cpos (starEach [] X.env)).any (·.1)) = false; rw [hplain] <;> rfl) (Calls.evalArgs_plain (thn hA fun us s2 ⟨vs, H2, I2, r2, a', ns, k, ea, ev, hT, hk, q2⟩ => ?_))
  cases ea
  subst ev
  obtain ⟨its, rv, pT, hz⟩ := I2.tuple hT
  obtain ⟨u1, rfl, t1, rfl⟩ := vals1 r2
  have hi := rv.ints
  refine SeqAt.call_tuple_index (ks := ns) (k := k) pT ⟨hi.length, fun j h1 h2 => ?_⟩ hk ⟨.int _, H2, I2.tok _, ⟨_, rfl⟩, q2⟩
  obtain ⟨t2, e2⟩ := PyProof.Rows.IntsAre.int_at hi j its[j] (List.getElem?_eq_getElem h1)
  rw [e2]
  have e3 : ns.getD j 0 = ns[j] := by rw [List.getD_eq_getElem?_getD, List.getElem?_eq_getElem h2]; rfl
  rw [e3, show decide (ns[j] = k) = (ns[j] == k) by rw [Bool.eq_iff_iff]; simp]
  exact SeqAt.EqAt.int_int _ _ _ _
def mIdx (fo fa : M R) : M R := M.bnd fo fun ro => fun E => match pk ro E with
  | some (.tpf ds) => M.bnd fa (fun ra => fun E1 => match unIs ds, pk ra E1 with
    | some ns, some (.int k) => if k ∈ ns then .ok (.fz (.int (ns.idxOf k))) E1 else .no
    | _, _ => .no) E
  | _ => .no
theorem d_index {k : Nat} (hr : Room k X.A) (ho : DE X W o fa) (he : DE X W e fb) (hbase : attributeBase o "index" X.env (eval o X.env) = eval o X.env := by rfl)
    (hfew : ((backTo p (starEach [e] X.env)).all (fun x => !x.1) && (backToKw p (keywordEach [] X.env)).all (fun x => x.1.isSome) && decide (([e] : List Expr).length + ([] : List Keyword).length + (if ([] : List Keyword).isEmpty then 0 else 1) < 30)) = true := by rfl)
    (hline : (pos.endLine == p.line) = true := by rfl) (hs : starEach [e] X.env = (false, eval e X.env) :: starEach [] X.env := by rfl) (hplain : (backTo p (starEach [] X.env)).any (·.1) = false := by rfl) : DE X W (.Call (.Attribute o "index" pos) [e] [] p) (mIdx fa fb) :=
  ⟨pe_mono (pe_idxT (by have := hu64 hr; omega) ho.pe (pa_cons he.pe pa_nil hs) hbase hfew hline hs hplain) fun σ H Q ⟨F, E, rel, h⟩ => ⟨F, E, rel, by
    refine Good.imp (fun x H1 hx => ?_) (Good.bnd h)
    obtain ⟨F1, E1, ro, s, re, nw, g1⟩ := hx
    cases q : pk ro E1 with
    | none => unfold Good at g1; simp only [q] at g1
    | some d =>
      cases d with
      | tpf ds =>
        have h1 := re.peek1 s.rel q
        cases h1 with
        | @tpf a oo vs ds hF hd hA =>
          have hH := s.rel.le _ _ hF
          refine ⟨⟨a, oo, _, rfl, hH, hd⟩, F1, E1, s.rel, ?_⟩
          have g2 : Good X W F1 E1 σ H1 (M.bnd fb fun ra => fun E1 => match unIs ds, pk ra E1 with
            | some ns, some (.int k) => if k ∈ ns then .ok (.fz (.int (ns.idxOf k))) E1 else .no
            | _, _ => .no) Q := g1.later (E0 := E1) (Stp.refl s.rel) (by simp only [q])
          refine Good.imp (fun y H2 hy => ?_) (Good.bnd g2)
          obtain ⟨F2, E2, ra, s2, re2, nw2, g3⟩ := hy
          cases zu : unIs ds with
          | none => unfold Good at g3; simp only [zu] at g3
          | some ns =>
            cases zk : pk ra E2 with
            | none => unfold Good at g3; simp only [zu, zk] at g3
            | some kd =>
              have h2 := re2.peek1 s2.rel zk
              cases kd with
              | int k =>
                by_cases hk : k ∈ ns
                · cases h2
                  rw [unIs_some zu] at hA
                  rw [isAll_ints hA] at hF
                  exact ⟨a, ns, k, rfl, rfl, .inl (.inr ⟨oo, s2.rel.le _ _ (s2.mono _ _ hF)⟩), hk, g3.here (r := .fz (.int (ns.idxOf k))) s2.rel (by simp only [zu, zk, if_pos hk]) (Is.int _) trivial⟩
                · unfold Good at g3; simp only [zu, zk, if_neg hk] at g3
              | _ => unfold Good at g3; simp only [zu, zk] at g3
      | _ => unfold Good at g1; simp only [q] at g1⟩⟩
end
end DL
-- SL
namespace DL
open PySem PySem.Spec PyProof.Rows L2
open PySem.AutoSeq1 (wpAny_loadPart')
theorem tuple_mul1 (l : Addr) (items : Array Value) (n : Nat) (dd : Option Addr) (sl : Array (Option Value)) (u : Tok) :
    Meets (Builtin.«tuple.__mul__» ⟨[.ref l, .int 1 u], []⟩) (fun _ R s => s.heap.get? l = some { cls := .type "tuple", dict := dd, data := .seq items n, slots := sl } ∧ R (.ok (.ret (Value.ref l))) s) :=
  .of_wp fun prog w A R s h => by
    obtain ⟨hp, g, d, tk, os⟩ := s
    obtain ⟨hl, h⟩ := h
    have f1 := AutoSeq1.idx_int
    wp_walk using wpAny_loadPart' hl
    repeat (first
      | (refine wpAny_ite_true (by simp) ?_; wp_walk using wpAny_loadPart' hl)
      | (refine wpAny_ite_false (by simp) ?_; wp_walk using wpAny_loadPart' hl))
    exact ⟨_, rfl, h⟩
section
variable {X : Cx} {W : WX} {F F1 F' : Hp} {E E1 E' : En} {σ σ1 σ' : L2.St} {H H1 H' : Hp}
variable {a b c e o tg iter : Expr} {st : Stmt} {body rest orelse : List Stmt} {es : List Expr} {fa fb fc fi fv : M R} {pos tpos p p' apos cpos : Pos} {i k : Nat} {x : Str}
def rRep1 (K : PySem.W.Frag) : R2 := fun x y H Q => ∃ l xs, x = .ref l ∧ y = .int 1 ∧ SqT K H l xs ∧ Q (.ref l) H
theorem op_rep1 : OpR X (binaryOp .Mult) (rRep1 X.K) := by
  intro pins s σ H x y v u Q I rx ry h
  obtain ⟨l, xs, rfl, rfl, hT, q⟩ := h
  cases rx
  obtain ⟨t, rfl⟩ := ry
  obtain ⟨its, r, ⟨⟨cls, dd, data, sl⟩, ho, hc, n, hd⟩, hs⟩ := I.tuple hT
  simp only at hc hd
  subst hc; subst hd
  exact wpAny_binaryOp_repeat_ref (T := "tuple") (U := "int") (by decide) ⟨_, ho, rfl⟩ (fun s' => typeIs_int s' 1 t) noFill_tuple_mul F.fills_int_mul F.slot_int_rmul repeat_tuple F.slot_int_index.lookup
    (call_meets F.slot_int_rmul (typeIs_int s 1 t) F.entry_int_rmul (F.args_int_rmul_2 _ _) (int_rmul_tuple 1 t l its.toArray n dd sl)
      ⟨ho, rfl, ⟨_, ho, rfl⟩, call_meets F.slot_tuple_mul ⟨_, ho, rfl⟩ F.entry_tuple_mul (F.args_tuple_mul_2 _ _) (tuple_mul1 l its.toArray n dd sl t) ⟨ho, .ref l, H, I, rfl, q⟩⟩)
/-- * of ints, lists, tuples -/
def gMulA (x y : D) : Option R := match x, y with
  | .tup ds, .int k => if k = 1 then some (.fz (.tup ds)) else if 2 ≤ k ∧ k ≤ 1000 ∧ ds.length ≤ 1000 ∧ ds ≠ [] then some (.fz (.tup (List.replicate k.toNat ds).flatten)) else none
  | _, _ => gMul x y
theorem mulAOk : BinOk X (fun x y H Q => (rI CMul (fun i j => .int (i * j)) x y H Q ∨ rRep x y H Q) ∨ rRep1 X.K x y H Q ∨ rRepT X.K x y H Q) gMulA := by
  intro x y F H Q a b z s ha hb e q
  have old : gMul a b = some z → rI CMul (fun i j => .int (i * j)) x y H Q ∨ rRep x y H Q := fun h => mulOk (X := X) x y F H Q a b z s ha hb h q
  cases ha with
  | @tup l vs ds h r =>
    cases hb with
    | int k =>
      unfold gMulA at e; dsimp only at e
      by_cases h1 : k = 1
      · rw [if_pos h1] at e
        cases e
        subst h1
        exact .inr (.inl ⟨l, vs, rfl, rfl, tupS s h, q _ _ (.old (.tup h r))⟩)
      · rw [if_neg h1] at e
        by_cases h2 : 2 ≤ k ∧ k ≤ 1000 ∧ ds.length ≤ 1000 ∧ ds ≠ []
        · rw [if_pos h2] at e
          cases e
          refine .inr (.inr ⟨l, k, vs, rfl, rfl, tupS s h, fun en => ?_, h2.1, h2.2.1, by rw [r.length]; exact h2.2.2.1, fun p hp => q _ _ (out_cat s hp (r.rep _))⟩)
          subst en
          exact h2.2.2.2 r.nil_inv
        · rw [if_neg h2] at e; cases e
    | _ => exact .inl (old e)
  | _ => exact .inl (old e)
theorem d_mulA (ha : DE X W a fa) (hb : DE X W b fb) : DE X W (.BinOp a .Mult b pos) (mBin gMulA fa fb) := d_bin (op_mulD.or (op_rep1.or op_repT)) mulAOk ha hb
/-- + where a tuple's object may be known -/
def gAddA (x y : D) : Option R := match tupOf x, tupOf y with
  | some xs, some ys => (match x, y with
    | .tup _, .tup _ => gAdd x y
    | _, _ => if xs ≠ [] ∧ ys ≠ [] ∧ xs.length + ys.length ≤ 100000 then some (.fz (.tup (xs ++ ys))) else none)
  | _, _ => gAdd x y
theorem addAOk : BinOk X (fun x y H Q => rI0 (fun i j => .int (i + j)) x y H Q ∨ rCatA X.K x y H Q ∨ rCat x y H Q) gAddA := by
  intro x y F H Q a b z s ha hb e q
  have old : gAdd a b = some z → rI0 (fun i j => .int (i + j)) x y H Q ∨ rCatA X.K x y H Q ∨ rCat x y H Q := fun h => addOk (X := X) x y F H Q a b z s ha hb h q
  unfold gAddA at e
  cases z1 : tupOf a with
  | none => rw [z1] at e; exact old e
  | some xs =>
    cases z2 : tupOf b with
    | none => rw [z1, z2] at e; exact old e
    | some ys =>
      rw [z1, z2] at e
      dsimp only at e
      have both : (if xs ≠ [] ∧ ys ≠ [] ∧ xs.length + ys.length ≤ 100000 then some (R.fz (.tup (xs ++ ys))) else none) = some z → rI0 (fun i j => .int (i + j)) x y H Q ∨ rCatA X.K x y H Q ∨ rCat x y H Q := fun h => by
        by_cases hc : xs ≠ [] ∧ ys ≠ [] ∧ xs.length + ys.length ≤ 100000
        · rw [if_pos hc] at h
          cases h
          obtain ⟨p, vs, rfl, hv, r1⟩ := tupOf_ok s ha z1
          obtain ⟨p2, ws, rfl, hw, r2⟩ := tupOf_ok s hb z2
          have l1 := r1.length
          have l2 := r2.length
          refine .inr (.inl ⟨p, p2, vs, ws, rfl, rfl, hv, hw, line_le (by omega), fun en => ?_, fun _ en => ?_, fun _ _ pp hp => q _ _ (out_cat s hp (r1.append r2))⟩)
          · subst en; exact absurd r1.nil_inv hc.1
          · subst en; exact absurd r2.nil_inv hc.2.1
        · rw [if_neg hc] at h; cases h
      cases a <;> first
        | (cases b <;> first
          | exact old e
          | exact both e
          | cases z2)
        | cases z1
theorem d_addA (ha : DE X W a fa) (hb : DE X W b fb) : DE X W (.BinOp a .Add b pos) (mBin gAddA fa fb) := d_bin op_addD addAOk ha hb
def gRem : D → List D → Option (D × D)
  | .lst xs, [.int k] => (unIs xs).bind fun ns => if k ∈ ns then some (.lst ((ns.erase k).map .int), .non) else none
  | _, _ => none
theorem erase_idx : ∀ {ns : List Int} {k : Int}, k ∈ ns → ∃ j : Nat, ns[j]? = some k ∧ (∀ m : Nat, m < j → ns[m]? ≠ some k) ∧ ns.eraseIdx j = ns.erase k
  | n :: ns, k, h => by
    by_cases e : n = k
    · subst e
      exact ⟨0, rfl, fun m hm => absurd hm (Nat.not_lt_zero m), by simp⟩
    · obtain ⟨j, h1, h2, h3⟩ := erase_idx ((List.mem_cons.mp h).resolve_left fun z => e z.symm)
      refine ⟨j + 1, by simpa using h1, fun m hm => ?_, ?_⟩
      · cases m with
        | zero => simpa using e
        | succ m => simpa using h2 m (by omega)
      · rw [List.eraseIdx_cons_succ, List.erase_cons_tail (by simpa using e), h3]
theorem remOk : MutOk X rRemI gRem := by
  intro p vs F H Q c c' v ds s n hc hA e q
  cases c with
  | lst xs =>
    obtain ⟨ws, hp, r⟩ := hc
    cases hA with
    | nil => simp [gRem] at e
    | @cons y ys d ds hy t =>
      cases t with
      | cons _ _ => cases hy <;> simp [gRem] at e
      | nil =>
        cases hy with
        | int k =>
          obtain ⟨ns, h1, h2⟩ := Option.bind_eq_some_iff.mp (show (unIs xs).bind (fun ns => if k ∈ ns then some (D.lst ((ns.erase k).map .int), D.non) else none) = some (c', v) from e)
          by_cases hk : k ∈ ns
          · rw [if_pos hk] at h2
            cases h2
            rw [unIs_some h1] at r
            obtain rfl := isAll_ints r
            obtain ⟨j, a1, a2, a3⟩ := erase_idx hk
            refine ⟨p, ns, k, j, rfl, rfl, hp, a1, a2, ?_⟩
            rw [a3]
            exact q _ _ .non ⟨_, upd_same, IsAll.ints _⟩
          · rw [if_neg hk] at h2; cases h2
        | _ => simp [gRem] at e
  | _ => simp [gRem] at e
theorem d_remove {f : M (List D)} (ha : DA X W [e] f) (hN : X.N[i]? = some x := by rfl) (hv : Vis X.env.scope x := by first | exact Or.inl rfl | exact Or.inr (Or.inl rfl) | exact Or.inr (Or.inr rfl)) (hd : (x == ("__debug__" : Str)) = false := by decide) (hcd : (x == ("__classdict__" : Str)) = false := by decide)
    (hl : (apos.endLine == cpos.line) = true := by rfl) (hs : starEach [e] X.env = (false, eval e X.env) :: starEach [] X.env := by rfl)
    (hfew : ((backTo cpos (starEach [e] X.env)).all (fun x => !x.1) && (backToKw cpos (keywordEach [] X.env)).all (fun x => x.1.isSome) && decide (([e] : List Expr).length + ([] : List Keyword).length + (if ([] : List Keyword).isEmpty then 0 else 1) < 30)) = true := by rfl) :
    DE X W (.Call (.Attribute (.Name x p') "remove" apos) [e] [] cpos) (mMut "list" i f gRem) := d_mut PySem.F.plainAttrs_list PySem.F.slot_list_remove PySem.F.type_list_remove mt_remove remOk ha hN hv hd hcd rfl hfew hl hs rfl
theorem d_dict0K : DE X W (.Dict [] [] pos) (M.ret (.fs (.dk []))) := ⟨pe_mono pe_dnewK fun σ H Q ⟨F, E, rel, h⟩ => fun p hp => h.out (z := .fs (.dk [])) rel rfl (.newL hp ⟨[], upd_same, rfl, .nil⟩)⟩
theorem d_dict0T : DE X W (.Dict [] [] pos) (M.ret (.fs (.dt []))) := ⟨pe_mono pe_dnewT fun σ H Q ⟨F, E, rel, h⟩ => fun p hp => h.out (z := .fs (.dt [])) rel rfl (.newL hp ⟨[], upd_same, rfl, .nil⟩)⟩
end
end DL
-- SM
namespace DL
open PySem PySem.Spec PyProof.Rows L2
section
variable {X : Cx} {W : WX} {F F1 F' : Hp} {E E1 E' : En} {σ σ1 σ' : L2.St} {H H1 H' : Hp}
variable {a b c e o tg iter : Expr} {st : Stmt} {body rest orelse : List Stmt} {es : List Expr} {fa fb fc fi fv : M R} {pos tpos p p' apos cpos : Pos} {i k : Nat} {x : Str}
def mDict1 (fk fv : M R) : M R := M.bnd fk fun rk => M.bnd fv fun rv => M.bnd (take rv) fun v => fun E => match (pk rk E).bind keyD with
  | some k => .ok (.fs (.dk [(k, v)])) E
  | none => .no
theorem d_dict1 {kx : Expr} (hk : DE X W kx fa) (hv : DE X W e fb) : DE X W (.Dict [some kx] [e] pos) (mDict1 fa fb) :=
  ⟨pe_mono (pe_disp (pps_cons hk.pe hv.pe pps_nil) (by rfl) (by rfl) (by simp) (by simp)) fun σ H Q ⟨F, E, rel, h⟩ => by
    intro d hd
    have n0 : F d = none := rel.le.free hd
    have w0 : ¬ Own E σ d := not_own_new rel hd
    have s0 : Stp X F E σ H F E σ (upd H d (.dK [])) := stp_updN (Stp.refl rel) n0 w0 hd
    show rdE X W fa σ (upd H d (.dK [])) _
    refine ⟨F, E, s0.rel, ?_⟩
    unfold Good mDict1 at h
    unfold Good
    cases q : fa E with
    | ok rk E1 =>
      simp only [M.bnd, q] at h
      intro F1 H1 x s re nw
      refine ⟨F1, E1, s.rel, ?_⟩
      unfold Good
      cases q2 : fb E1 with
      | ok rv E2 =>
        simp only [q2] at h
        intro F2 H2 y s2 re2 nw2
        cases qt : take rv E2 with
        | ok v E3 =>
          simp only [qt] at h
          obtain ⟨F3, s3, hI⟩ := take_ok s2 re2 nw2 qt
          have s13 := s.trans s3
          obtain ⟨m1, m2, m3⟩ := free_kept s13 n0 w0 upd_same
          cases zk : (pk rk E3).bind keyD with
          | none => simp only [zk] at h
          | some kk =>
            simp only [zk] at h
            obtain ⟨kd, h1, h2⟩ := Option.bind_eq_some_iff.mp zk
            have hx := keyD_ok1 ((re.step s3).peek1 s3.rel h1) h2
            refine ⟨m3, [(kk, y)], by rw [hx]; rfl, by simp, ?_⟩
            have e1 : mergeK [] [(kk, y)] = [(kk, y)] := rfl
            rw [e1]
            have s03 := s0.trans s13
            have s4 := stp_updN (o := .dK [(kk, y)]) s03 m1 m2 hd
            exact h F3 _ (.ref d) s4 ⟨d, rfl, m1, m2, [(kk, y)], upd_same, rfl, .cons hI .nil⟩ fun p' e => by cases e; exact .inl hd
        | ex x e => exact (take_no qt).elim
        | no => simp only [qt] at h
      | ex x E2 =>
        simp only [q2] at h
        exact fun F' H' c d s2 xo => h F' H' c d ((s0.trans s).trans s2) xo
      | no => simp only [q2] at h
    | ex x E1 =>
      simp only [M.bnd, q] at h
      exact fun F' H' c d s xo => h F' H' c d (s0.trans s) xo
    | no => simp only [M.bnd, q] at h⟩
theorem pmk_own0 {C : Addr} {bmB : List Value} {B newId initId : String} (FB : ExcBaseFacts B newId initId bmB) (q : PySem.W.excIn X.K C bmB newId = true) (gC : X.mg x = some (.ref C)) (kC : PySem.W.keepIn X.K (.ref C) = true) (r : Raises X (.ref C)) (hg : Gl X x) (hdb : (x == ("__debug__" : Str)) = false := by decide) :
    PMk X (.Call (.Name x p) [] [] pos) (fun σ H Q => Q (.ref C) none H) := by
  intro pins s σ H Q I h
  refine wpAny_Call_Name_kw (ld_glob I hg gC ?_ hdb)
  refine PySem.W.callWith_K0 I.kIn kC ?_
  show wpAny _ _ (call (.ref C) []) _ _ _
  obtain ⟨bm, N, nm, qn, bs, hdct, sn, sub, ab, col, dd, k0, k1, k2, k3, k5, mN, hC, hN, hni, T⟩ := exc_obj I.kIn q
  exact wpAny_call_exc_subT FB T hC hN hni (fun h' e hm => mk_of I hm r h (I.hok.gone hm.new)) (Nat.zero_le _)
def sRaise0 (c : Str) : M Fl := fun E => .ex ⟨c, none⟩ E
theorem s_raise0 {C : Addr} {bmB : List Value} {B newId initId : String} (hc : X.calm = true) (tk : Takes X W) (FB : ExcBaseFacts B newId initId bmB) (q : PySem.W.excIn X.K C bmB newId = true) (gC : X.mg x = some (.ref C)) (kC : PySem.W.keepIn X.K (.ref C) = true) (r : Raises X (.ref C)) (hg : Gl X x) (hdb : (x == ("__debug__" : Str)) = false := by decide) :
    DS X W (.Raise (some (.Call (.Name x p) [] [] pos)) none cpos) (sRaise0 x) :=
  ⟨ps_mono (ps_raise hc tk (pmk_own0 FB q gC kC r hg hdb)) fun D σ H ⟨F, E, rel, h⟩ => h F σ H (.ref C) none (Stp.refl rel) ⟨C, gC, rfl, rfl⟩⟩
end
end DL
-- SN
namespace DL
open PySem PySem.Spec PyProof.Rows L2
section
variable {X : Cx} {W : WX} {F F1 F' : Hp} {E E1 E' : En} {σ σ1 σ' : L2.St} {H H1 H' : Hp}
/-- a suite's end, its name forgotten -/
def sufG (i : Nat) : Rs Fl → Rs Fl
  | .ok .nx E => .ok .nx (E.set i .un)
  | .ok (.rt (.fz d)) E => .ok (.rt (.fz d)) (E.set i .un)
  | _ => .no
def sTry (i : Nat) (m : Xn → Bool) (fb : M Fl) (g : Xn → M Fl) : M Fl := fun E => match fb E with
  | .ok fl E1 => .ok fl E1
  | .ex x E1 => if m x = true ∧ i < E1.length then g x E1 else .no
  | .no => .no
theorem pss_and {es : List Stmt} {t : TS} {p : Prop} (h : p → PSs X es t) : PSs X es (fun D σ H => p ∧ t D σ H) := ⟨fun pins s σ H D I q => (h q.1).run pins s σ H D I q.2⟩
theorem pss_ex {α : Type} {es : List Stmt} {t : α → TS} (h : ∀ a, PSs X es (t a)) : PSs X es (fun D σ H => ∃ a, t a D σ H) := ⟨fun pins s σ H D I ⟨a, q⟩ => (h a).run pins s σ H D I q⟩
theorem stp_un {F0 : Hp} {E0 : En} {σ0 : L2.St} {H0 : Hp} (i : Nat) (s : Stp X F0 E0 σ0 H0 F E σ H) : Stp X F0 E0 σ0 H0 F (E.set i .un) (σ.set i none) H := stp_wipe [i] s
variable {x n : Str} {c : Value} {i : Nat} {body suite : List Stmt} {b₀ : Stmt} {np pos pos' : Pos} {fb : M Fl}
theorem s_tryAs {fs : Addr → Xn → M Fl} {g : Xn → M Fl} (m : Xn → Bool) (hs : X.stack = X.env :: X.outer) (hf : X.env.frame = some X.env.locals) (hN : X.N.Nodup) (hi : X.N[i]? = some n) (hln : X.env.kindOf n = some .local) (hc : Names X x c) (tk : Takes X W)
    (hex : ∀ xn C, m xn = true → X.mg xn.cls = some (.ref C) → PySem.W.exmOne X.K (.ref C) c = some true)
    (hb : ∀ (Wt : WX) (pn : List (Addr × Obj)) (xe : Value → Shared → Prop), Takes (X.tr pn xe) Wt → PassesOwn (model X.prog X.w) X.A X.env xe → DB (X.tr pn xe) Wt body fb)
    (hsu : ∀ (xn : Xn) (C a : Addr) (oe : Obj) (pn : List (Addr × Obj)), m xn = true → X.mg xn.cls = some (.ref C) → (xn.val = none → Zc (.ref C) none oe) → (∃ vs, oe.data = .fields vs) → DB (X.suite a ((a, oe) :: pn)) W0 (b₀ :: suite) (fs a xn))
    (hG : ∀ a xn E1, m xn = true → g xn E1 ≠ .no → sufG i (fs a xn (E1.set i (.fr (.exc a)))) = g xn E1) :
    DS X W (.Try body [.ExceptHandler (some (.Name x np)) (some n) (b₀ :: suite) pos'] [] [] pos) (sTry i m fb g) := by
  refine ⟨ps_mono (ps_try_as (Wout := W) (tb := fun Wt => rdS X Wt fb) (ts := fun a cls d D σ H => ∃ z : Xn × Addr, (m z.1 = true ∧ X.mg z.1.cls = some (.ref z.2) ∧ cls = .ref z.2 ∧ (z.1.val = none → d = none)) ∧ rdS X W0 (fs a z.1) D σ H) hs hf hN hi hln hc tk (fun Wt pn xe tkt po => (hb Wt pn xe tkt po).pss)
    (fun a oe cls d pn hz hv => pss_ex fun z => pss_and fun ⟨h1, h2, h3, h4⟩ => (hsu z.1 z.2 a oe pn h1 h2 (fun hn => by rw [← h3, ← h4 hn]; exact hz) hv).pss)) fun D σ H ⟨F, E, rel, h⟩ => ?_⟩
  refine ⟨F, E, rel, ?_⟩
  unfold GoodS sTry at h
  unfold GoodS
  cases q : fb E with
  | ok fl E1 =>
    simp only [q] at h
    cases fl <;> exact h
  | no => simp only [q] at h
  | ex xn E1 =>
    simp only [q] at h
    intro F1 σ1 H1 cls d s xo
    by_cases hm' : m xn = true ∧ i < E1.length
    · simp only [if_pos hm'] at h
      obtain ⟨hm, hl⟩ := hm'
      obtain ⟨C, hC, rfl, hval⟩ := xo
      refine ⟨true, hex xn C hm hC, fun _ a ha => ⟨(xn, C), ⟨hm, hC, rfl, fun hn => by rw [hn] at hval; exact hval⟩, ?_⟩, fun z => nomatch z⟩
      have hg : g xn E1 ≠ .no := fun z => by rw [z] at h; exact h
      have e0 := hG a xn E1 hm hg
      · have sa : Stp X F1 E1 σ1 H1 F1 (E1.set i (.fr (.exc a))) (σ1.set i (some (.ref a))) H1 := Stp.setFr s.rel (.exc a) hl
        refine ⟨F1, E1.set i (.fr (.exc a)), sa.rel, ?_⟩
        have s2 := s.trans sa
        unfold GoodS
        cases z : fs a xn (E1.set i (.fr (.exc a))) with
        | ok fl E2 =>
          rw [z] at e0
          cases fl with
          | nx =>
            rw [← e0] at h
            exact fun F3 σ3 H3 s3 => h F3 _ H3 (stp_un i (s2.trans s3))
          | rt r =>
            cases r with
            | fz dd =>
              rw [← e0] at h
              exact fun F3 σ3 H3 v s3 re nw => h F3 _ H3 v (stp_un i (s2.trans s3)) re trivial
            | fs dd => exact absurd e0.symm hg
            | sl j => exact absurd e0.symm hg
          | bk => exact absurd e0.symm hg
          | ct => exact absurd e0.symm hg
        | ex x2 E2 => rw [z] at e0; exact absurd e0.symm hg
        | no => rw [z] at e0; exact absurd e0.symm hg
    · simp only [if_neg hm'] at h
end
end DL
-- SO
namespace DL
open PySem PySem.Spec PyProof.Rows L2
section
variable {X : Cx} {W : WX} {F F1 F' : Hp} {E E1 E' : En} {σ σ1 σ' : L2.St} {H H1 H' : Hp}
variable {e : Expr} {fa : M R} {pos p p2 : Pos} {T : Str}
def gIsE (a : Addr) (b : Bool) : D → Option R
  | .exc a' => if a' = a then some (.fz (.bl b)) else none
  | _ => none
theorem d_isE {a C CT : Addr} {oe : Obj} {pn : List (Addr × Obj)} {b : Bool} (EC : ExcC X.K C) (hz : Zc (.ref C) none oe) (hf : ∃ vs, oe.data = .fields vs) (hg : Gl (X.suite a ((a, oe) :: pn)) "isinstance") (hm : X.mg "isinstance" = none) (hgT : Gl (X.suite a ((a, oe) :: pn)) T) (hT : X.mg T = some (.ref CT))
    (kit : PySem.W.kitOne X.K (.ref C) (.ref CT) = some b) (he : DE (X.suite a ((a, oe) :: pn)) W e fa) (hd : (T == ("__debug__" : Str)) = false := by decide)
    (hs1 : starEach [e, .Name T p2] (X.suite a ((a, oe) :: pn)).env = (false, eval e (X.suite a ((a, oe) :: pn)).env) :: starEach [.Name T p2] (X.suite a ((a, oe) :: pn)).env := by rfl) (hs2 : starEach [.Name T p2] (X.suite a ((a, oe) :: pn)).env = (false, eval (.Name T p2) (X.suite a ((a, oe) :: pn)).env) :: starEach [] (X.suite a ((a, oe) :: pn)).env := by rfl)
    (hpl : (backTo pos (starEach [.Name T p2] (X.suite a ((a, oe) :: pn)).env)).any (·.1) = false := by rfl) :
    DE (X.suite a ((a, oe) :: pn)) W (.Call (.Name "isinstance" p) [e, .Name T p2] [] pos) (mUn (gIsE a b) fa) :=
  ⟨pe_mono (pe_callB (call_isE EC hz hf) hg hm PyProof.Rows.boot_isinstance (pa_cons he.pe (pa_cons (pe_glob (v := .ref CT) hgT hT (show RelV (.ref CT) (.ref CT) from rfl) hd) pa_nil hs2) hs1) (by decide) (by decide) hs1 hpl) fun σ H Q ⟨F, E, rel, h⟩ =>
    ⟨F, E, rel, Good.un (r := fun x H1 Q => rIsE X.K C a [x, .ref CT] H1 Q) (fun x F H Q d z s ha e q => by
      cases ha with
      | exc a' =>
        unfold gIsE at e; dsimp only at e
        by_cases ea : a' = a
        · rw [if_pos ea] at e
          cases e
          subst ea
          exact ⟨.ref CT, .ref CT, b, rfl, fun u hu => hu, kit, q _ _ (.old (.bl _))⟩
        · rw [if_neg ea] at e; cases e
      | _ => simp [gIsE] at e) h⟩⟩
/-- isinstance(x, C), C an own class, x an instance of the class c0 or no instance: k0 what the fragment says of the class, kn of the built-in types -/
structure OwnIs (K : PySem.W.Frag) (C C0 : Addr) (b0 : Bool) : Prop where
  cl : Cls K C0
  ha : PySem.W.findIn K (.ref C0) "__class__" = some (some (.builtin "object.__class__"))
  hn : PySem.W.specialIn K (.builtin "object.__class__") "__get__" = some (some (.builtin "getset_descriptor.__get__"))
  ht : PySem.W.takesIn K (.builtin "object.__class__") = some true
  hm : PySem.W.mroIn K C0 (.type "object") = some true
  k0 : PySem.W.kitOne K (.ref C0) (.ref C) = some b0
  kn : ∀ t ∈ ["NoneType", "bool", "int", "str", "tuple", "list", "dict"], PySem.W.kitOne K (.type t) (.ref C) = some false
def gIsO (c0 : Str) (b0 : Bool) : D → Option R
  | .ins c _ => if c = c0 then some (.fz (.bl b0)) else none
  | d => (tyD d).map fun _ => .fz (.bl false)
theorem d_isO {C C0 : Addr} {c0 : Str} {b0 : Bool} (O : OwnIs X.K C C0 b0) (h0 : X.mg c0 = some (.ref C0)) (hg : Gl X "isinstance") (hm : X.mg "isinstance" = none) (hgT : Gl X T) (hT : X.mg T = some (.ref C)) (he : DE X W e fa) (hd : (T == ("__debug__" : Str)) = false := by decide)
    (hs1 : starEach [e, .Name T p2] X.env = (false, eval e X.env) :: starEach [.Name T p2] X.env := by rfl) (hs2 : starEach [.Name T p2] X.env = (false, eval (.Name T p2) X.env) :: starEach [] X.env := by rfl) (hpl : (backTo pos (starEach [.Name T p2] X.env)).any (·.1) = false := by rfl) :
    DE X W (.Call (.Name "isinstance" p) [e, .Name T p2] [] pos) (mUn (gIsO c0 b0) fa) :=
  ⟨pe_mono (pe_callB call_isi hg hm PyProof.Rows.boot_isinstance (pa_cons he.pe (pa_cons (pe_glob (v := .ref C) hgT hT (show RelV (.ref C) (.ref C) from rfl) hd) pa_nil hs2) hs1) (by decide) (by decide) hs1 hpl) fun σ H Q ⟨F, E, rel, h⟩ =>
    ⟨F, E, rel, Good.un (r := fun x H1 Q => rIsi X.K [x, .ref C] H1 Q) (fun x F H Q d z s ha e q => by
      have plain : (tyD d).map (fun _ => R.fz (.bl false)) = some z → rIsi X.K [x, .ref C] H Q := fun h => by
        obtain ⟨t, h1, h2⟩ := Option.map_eq_some_iff.mp h
        subst h2
        exact ⟨x, .ref C, .type t, .ref C, false, rfl, .own C, tyD_ok s ha h1, O.kn t (tyD_in h1), q _ _ (.old (.bl _))⟩
      cases d with
      | ins c fs =>
        unfold gIsO at e; dsimp only at e
        by_cases hc : c = c0
        · rw [if_pos hc] at e
          cases e
          subst hc
          cases ha with
          | @ins a C' dx _ vs _ hm' hH hk r =>
            rw [h0] at hm'
            cases hm'
            exact ⟨.ref a, .ref C, .ref C0, .ref C, b0, rfl, .own C, .base (.ins hH O.cl O.ha O.hn O.ht O.hm), O.k0, q _ _ (.old (.bl _))⟩
        · rw [if_neg hc] at e; cases e
      | _ => exact plain e) h⟩⟩
end
end DL
-- SP
namespace DL
open PySem PySem.Spec PyProof.Rows L2
theorem tk0 {X : Cx} : Takes X W0 := fun u s' ⟨a, B, sI, pins, σ, H, cls, d, e, I, nb, up, sky, na, os, ag, w⟩ => w.elim
theorem scalI {C : Int → Int → Bool} {g : Int → Int → Int} : ∀ a b z, gI C g a b = some (.fz z) → ∃ n, z = .int n := by
  intro a b z h
  cases a <;> cases b <;> simp only [gI, reduceCtorEq] at h
  split at h
  · simp only [Option.some.injEq, R.fz.injEq] at h; exact ⟨_, h.symm⟩
  · cases h
end DL
-- SQ
namespace DL
open PySem PySem.Spec PyProof.Rows L2
section
variable {X : Cx} {F H : Hp}
def rSortedPT (K : PySem.W.Frag) : List V → Hp → VK → Prop := fun vs H Q => ∃ (a : Addr) (xs : List V) (k : V → Int × Int), vs = [V.ref a] ∧ SqT K H a xs ∧ (∀ x ∈ xs, ∃ t, x = V.ref t ∧ H t = some (.tup [.int (k x).1, .int (k x).2])) ∧
  ∀ ys p, SrtO.Srtd (ltP k) ys → SrtO.Stb (ltP k) ys xs → H p = none → Q (.ref p) (upd H p (.lst ys))
theorem cr_sortedPT : CallR X (.builtin "sorted") (rSortedPT X.K) := by
  intro pins s σ H vs us Q I r h
  obtain ⟨a, xs, k, rfl, hs, hx, q⟩ := h
  obtain ⟨its, rv, hl, hz⟩ := I.tuple hs
  rw [Vals.ref1 r]
  obtain ⟨e1, e2⟩ := refs_back rv fun x m => by
    obtain ⟨t, e, _⟩ := hx x m
    exact ⟨t, e⟩
  have hz' : its.length ≤ sizeLine := by rw [← rv.length]; exact hz
  have hp : ∀ v ∈ its, Srt.IsPair s.heap v (k (backV v)).1 (k (backV v)).2 := fun v hv => by
    obtain ⟨t, rfl⟩ := e2 v hv
    have hm : V.ref t ∈ xs := by rw [e1]; exact List.mem_map.mpr ⟨_, hv, rfl⟩
    obtain ⟨t', e, ht⟩ := hx _ hm
    cases e
    obtain ⟨_, its2, r2, o, ho, hc, n, hd⟩ := I.hok _ _ ht
    obtain ⟨u1, u2, rfl, ri, rj⟩ := vals2 r2
    obtain ⟨t1, rfl⟩ := ri
    obtain ⟨t2, rfl⟩ := rj
    exact ⟨t, o, t1, t2, n, rfl, ho, hc, hd⟩
  refine sorted_tupO (SrtO.swo_lex fun u => k (backV u)) hl hz' (fun h2 h₁ a' ha kk => ?_) fun out h1 h2 => ?_
  · refine SrtO.pairs_sortableO (s := { s with heap := h₁ }) (by omega) (fun v hm => (hp v hm).keeps fun b o e _ => (kk b o e).2) fun o e => ?_
    have e' : some o = some (seqObj "list" its.toArray 0) := e.symm.trans ha
    cases e'
    intro c
    exact absurd (Value.type.inj c) (by decide)
  · have h3 : ∀ u ∈ out, ∃ a, u = Value.ref a := fun u hu => e2 u (h2.perm.mem_iff.mp hu)
    obtain ⟨n, hn⟩ := PyProof.Rows.sortedAll_at s.heap its out.toArray
    have hb : SrtO.Stb (ltP k) (out.map backV) xs := by
      rw [e1]
      exact SrtO.Stb.map (ltP_swo k) backV h2
    refine ⟨.ref _, upd H (s.heap.objs.size + 1) (.lst (out.map backV)), I.laid (t' := s.toks) (fun _ _ => PyProof.Rows.sortedAll_old) (Nat.le_succ _) ⟨?_, out, n, vals_back h3, hn⟩, rfl, q _ _ (SrtO.srtd_map h1) hb (I.hok.fresh (Nat.le_succ _))⟩
    rw [hb.len]
    exact hz
def gSortedB : List D → Option R
  | [.tup ds] => (match unIs ds with
    | some ns => some (.fs (.lst ((sortI ns).map .int)))
    | none => match unPs ds with
      | some ps => some (.fs (.lst ((sortP ps).map pD)))
      | none => none)
  | ds => gSortedA ds
theorem op_sortedB : CallR X (.builtin "sorted") (fun vs H Q => ((rSortedI X.K vs H Q ∨ rSortedPO X.K vs H Q) ∨ rSortedIT X.K vs H Q) ∨ rSortedPT X.K vs H Q) := CallR.or op_sortedA cr_sortedPT
theorem sortedBOk : CbOk X (fun vs H Q => ((rSortedI X.K vs H Q ∨ rSortedPO X.K vs H Q) ∨ rSortedIT X.K vs H Q) ∨ rSortedPT X.K vs H Q) gSortedB := by
  intro vs F H Q ds z s hA e q
  by_cases hT : ∃ xs, ds = [.tup xs]
  · obtain ⟨xs, rfl⟩ := hT
    unfold gSortedB at e
    dsimp only at e
    cases z1 : unIs xs with
    | some ns =>
      rw [z1] at e
      refine .inl (sortedAOk (X := X) vs F H Q [.tup xs] z s hA ?_ q)
      unfold gSortedA tupI tupOf
      dsimp only [Option.bind]
      rw [z1]
      exact e
    | none =>
      rw [z1] at e
      cases z2 : unPs xs with
      | none => simp [z2] at e
      | some ps =>
        simp only [z2, Option.some.injEq] at e
        subst e
        cases hA with
        | cons h t =>
          cases t
          obtain ⟨a, ws, rfl, h1, r⟩ := tupOf_ok (ds := xs) s h rfl
          rw [unPs_some z2] at r
          obtain ⟨e1, h2⟩ := isAll_pairs s r
          refine .inr ⟨a, ws, kOf H, rfl, h1, h2, fun ys p so sb hp => q _ _ (out_lst hp ?_)⟩
          have pm : (ys.map (kOf H)).Perm ps := by rw [← e1]; exact sb.perm.map _
          have so' : SortedP (ys.map (kOf H)) := List.pairwise_map.mpr so
          rw [sortedP_uniq (sortP_sorted ps) so' ((sortP_perm ps).trans pm.symm)]
          exact isAll_perm s r fun w hw => sb.perm.mem_iff.mp hw
  · refine .inl (sortedAOk (X := X) vs F H Q ds z s hA ?_ q)
    unfold gSortedB at e
    split at e
    · exact absurd ⟨_, rfl⟩ hT
    · exact e
end
end DL
-- SX
namespace PySem.SeqAt
open AutoSeq1 (wpAny_loadPart')
open MeetsSeq MeetsSeq2 MeetsSeq3 SeqRoads2
section
variable {P : Program} {w : World}
/-- the walk of list.__ne__ over like items -/
theorem nePw (p q : Addr) (xs ys : Array Value) (c1 c2 : Nat) (g1 g2 : Option Addr) (z1 z2 : Array (Option Value)) (same : xs.size = ys.size) (m : Nat) : ∀ j : Nat, xs.size - j = m →
    MeetsIn P w (Builtin.«list.__eq__.loop» ⟨[.ref p, .ref q, rawInt j, rawInt 3], []⟩) (fun A R s =>
      s.heap.get? p = some { cls := .type "list", dict := g1, data := .seq xs c1, slots := z1 } ∧
      s.heap.get? q = some { cls := .type "list", dict := g2, data := .seq ys c2, slots := z2 } ∧
      (∀ i (u1 : i < xs.size) (u2 : i < ys.size), EqP P w A.in1 s xs[i] ys[i] true) ∧ R (.ok (.ret (.bool false))) s) := by
  induction m with
  | zero =>
    intro j hj A R ⟨hh, gg, dr, tt, oo⟩ ⟨k1, k2, k3, k4⟩
    wp_walk using wpAny_loadPart' k1, wpAny_loadPart' k2
    rw [show xs[((j : Nat) : Int).toNat]? = none by simp; omega, show ys[((j : Nat) : Int).toNat]? = none by simp; omega]
    wp_walk using wpAny_loadPart' k1, wpAny_loadPart' k2
    show R (.ok (.ret (.bool (xs.size != ys.size)))) _
    rw [show (xs.size != ys.size) = false by rw [same]; simp]
    exact k4
  | succ m ih =>
    intro j hj A R ⟨hh, gg, dr, tt, oo⟩ ⟨k1, k2, k3, k4⟩
    wp_walk using wpAny_loadPart' k1, wpAny_loadPart' k2
    have l1 : j < xs.size := by omega
    have l2 : j < ys.size := by omega
    rw [show xs[((j : Nat) : Int).toNat]? = some xs[j] by simp [l1], show ys[((j : Nat) : Int).toNat]? = some ys[j] by simp [l2]]
    refine wpAny_bind (k3 j l1 l2 _ _ ?_)
    wp_walk
    rw [show ((j : Int) + 1) = ((j + 1 : Nat) : Int) by push_cast; rfl]
    exact ⟨plainId_quiet plain_eq_loop _, codeAny_builtin entry_eq_loop (by rw [Around.under_plainId plain_eq_loop _]; exact ih (j + 1) (by omega) A R _ ⟨k1, k2, k3, k4⟩)⟩
theorem nePl (p q : Addr) (xs ys : Array Value) (c1 c2 : Nat) (g1 g2 : Option Addr) (z1 z2 : Array (Option Value)) (same : xs.size = ys.size) :
    MeetsIn P w (Builtin.«list.__ne__» ⟨[.ref p, .ref q], []⟩) (fun A R s =>
      s.heap.get? p = some { cls := .type "list", dict := g1, data := .seq xs c1, slots := z1 } ∧
      s.heap.get? q = some { cls := .type "list", dict := g2, data := .seq ys c2, slots := z2 } ∧
      (∀ i (u1 : i < xs.size) (u2 : i < ys.size), EqP P w A.in1 s xs[i] ys[i] true) ∧ R (.ok (.ret (.bool false))) s) := by
  intro A R ⟨hh, gg, dr, tt, oo⟩ ⟨k1, k2, k3, k4⟩
  have sl := AutoSeq1.sub_list_list
  have no : ¬ (xs.size != ys.size) = true := by rw [same]; simp
  wp_walk using wpAny_loadPart' k1, wpAny_loadPart' k2
  exact ⟨plainId_quiet plain_eq_loop _, codeAny_builtin entry_eq_loop (by rw [Around.under_plainId plain_eq_loop _]; exact nePw p q xs ys c1 c2 g1 g2 z1 z2 same _ 0 rfl A R _ ⟨k1, k2, k3, k4⟩)⟩
theorem rnP_lists {A : Around} {s : Shared} {p q : Addr} {xs ys : Array Value} (h1 : s.heap.IsList p xs) (h2 : s.heap.IsList q ys) (same : xs.size = ys.size) (hu : A.units < cLine)
    (he : ∀ i (u1 : i < xs.size) (u2 : i < ys.size), EqP P w A.in1 s xs[i] ys[i] true) (E Q : Value → Shared → Prop) (h : Q (.bool false) s) : wpAny (model P w) A (richCompare .NotEq (.ref p) (.ref q)) Q E s := by
  obtain ⟨⟨k1, k2, k3, k4⟩, o1, e1, c1, f1⟩ := id h1
  obtain ⟨⟨m1, m2, m3, m4⟩, o2, e2, c2, f2⟩ := id h2
  simp only at e1 f1 e2 f2
  subst e1 f1 e2 f2
  have t1 : s.TypeIs (.ref p) "list" := ⟨_, o1, rfl⟩
  have t2 : s.TypeIs (.ref q) "list" := ⟨_, o2, rfl⟩
  exact wpAny_richCompare_same_room (op := .NotEq) t1 t2 F.slot_list_ne (call_meetsIn F.slot_list_ne t1 F.entry_list_ne (F.args_list_ne_2 _ _) (nePl p q xs ys c1 c2 k2 m2 k4 m4 same)
    ⟨o1, o2, he, show Value.bool false ≠ Value.notImplemented ∧ Q (.bool false) s from ⟨(fun z => nomatch z), h⟩⟩) hu
theorem nePt (p q : Addr) (xs ys : Array Value) (c1 c2 : Nat) (g1 g2 : Option Addr) (z1 z2 : Array (Option Value)) (same : xs.size = ys.size) :
    MeetsIn P w (Builtin.«tuple.__ne__» ⟨[.ref p, .ref q], []⟩) (fun A R s =>
      s.heap.get? p = some { cls := .type "tuple", dict := g1, data := .seq xs c1, slots := z1 } ∧
      s.heap.get? q = some { cls := .type "tuple", dict := g2, data := .seq ys c2, slots := z2 } ∧
      (∀ i (u1 : i < xs.size) (u2 : i < ys.size), EqP P w A.in1 s xs[i] ys[i] true) ∧ R (.ok (.ret (.bool false))) s) :=
  .of_wp fun A R ⟨hh, gg, dr, tt, oo⟩ ⟨k1, k2, k3, k4⟩ => by
    have st := AutoSeq1.sub_tuple_tuple
    have len : (xs.toList.zip ys.toList).length = xs.size := by simp [same]
    wp_walk using wpAny_loadPart' k1, wpAny_loadPart' k2, wpAny_forIn_list _ (fun left acc s' => acc.1 = none ∧ s' = ⟨hh, gg, dr, tt, oo⟩ ∧ ∃ j, left = (xs.toList.zip ys.toList).drop j) _
    case turn =>
      rintro ⟨y, x⟩ left acc s' ⟨e0, rfl, j, hj⟩
      have lt : j < (xs.toList.zip ys.toList).length := by
        refine Nat.lt_of_not_le fun no => ?_
        rw [List.drop_of_length_le no] at hj
        cases hj
      have l1 : j < xs.size := len ▸ lt
      have l2 : j < ys.size := same ▸ l1
      rw [List.drop_eq_getElem_cons lt] at hj
      obtain ⟨e1, e2⟩ := List.cons.inj hj
      obtain rfl : y = xs[j] := by simpa using congrArg Prod.fst e1
      obtain rfl : x = ys[j] := by simpa using congrArg Prod.snd e1
      refine wpAny_bind (k3 j l1 l2 _ _ ?_)
      wp_walk
      exact ⟨rfl, rfl, j + 1, e2⟩
    case fin =>
      rintro ⟨b1, b2⟩ s' ⟨e0, rfl, j, hj⟩
      simp only at e0
      subst e0
      wp_walk
      refine ⟨_, rfl, ?_⟩
      simpa [Builtin.Tuple.tupleCompareSizes, same] using k4
    case h => exact ⟨rfl, rfl, 0, rfl⟩
theorem rnP_tuples {A : Around} {s : Shared} {p q : Addr} {xs ys : Array Value} (h1 : s.heap.IsTuple p xs) (h2 : s.heap.IsTuple q ys) (same : xs.size = ys.size) (hu : A.units < cLine)
    (he : ∀ i (u1 : i < xs.size) (u2 : i < ys.size), EqP P w A.in1 s xs[i] ys[i] true) (E Q : Value → Shared → Prop) (h : Q (.bool false) s) : wpAny (model P w) A (richCompare .NotEq (.ref p) (.ref q)) Q E s := by
  obtain ⟨⟨k1, k2, k3, k4⟩, o1, e1, c1, f1⟩ := id h1
  obtain ⟨⟨m1, m2, m3, m4⟩, o2, e2, c2, f2⟩ := id h2
  simp only at e1 f1 e2 f2
  subst e1 f1 e2 f2
  have t1 : s.TypeIs (.ref p) "tuple" := ⟨_, o1, rfl⟩
  have t2 : s.TypeIs (.ref q) "tuple" := ⟨_, o2, rfl⟩
  exact wpAny_richCompare_same_room (op := .NotEq) t1 t2 F.slot_tuple_ne (call_meetsIn F.slot_tuple_ne t1 F.entry_tuple_ne (F.args_tuple_ne_2 _ _) (nePt p q xs ys c1 c2 k2 m2 k4 m4 same)
    ⟨o1, o2, he, show Value.bool false ≠ Value.notImplemented ∧ Q (.bool false) s from ⟨(fun z => nomatch z), h⟩⟩) hu
end
end PySem.SeqAt
namespace PySem.W
open PySem PySem.Calls PyProof.Rows PyProof.V PySem.Spec
section
variable {P : Program} {w : World} {K : Type} [DecidableEq K] {knd : KeyKind P w K} {A : Around} {s : Shared}
theorem rnP_dicts {p q : Addr} {ks ls : List (K × Value)} (n1 : (p == sysModules) = false) (n2 : (q == sysModules) = false) (d1 : s.heap.DictOf knd p ks) (d2 : s.heap.DictOf knd q ls) (hu : A.units < cLine)
    (same : ks.length = ls.length) (hits : KeqHitsP P w A.in1 s ls ks true) (E Q : Value → Shared → Prop) (h : Q (.bool false) s) : wpAny (model P w) A (richCompare .NotEq (.ref p) (.ref q)) Q E s := by
  refine wpAny_richCompare_same_room (op := .NotEq) d1.typeIs d2.typeIs PySem.F.slot_dict_ne (wpAny_call_entry PySem.F.slot_dict_ne d1.typeIs PySem.F.entry_dict_ne ?_ (PySem.F.args_dict_ne_2 _ _)) hu
  show wpAny _ _ (Builtin.Dict.dictSlotArgs "__ne__" ⟨[.ref p, .ref q], []⟩ >>= _) _ _ s
  unfold Builtin.Dict.dictSlotArgs
  refine wpAny_bind (wpAny_bind (wpAny_notOrdered_dict d1.typeIs (wpAny_pure ?_)))
  refine wpAny_bind (wpAny_isInstance (T := "dict") d2.typeIs PySem.F.sub_dict_dict ?_)
  simp only [Bool.not_true, if_false, Bool.false_eq_true]
  refine wpAny_bind (wpAny_pure (wpAny_bind (wpAny_pure (wpAny_bind (samePairsP n1 n2 d1 d2 (fun _ => hits) (wpAny_pure ⟨_, rfl, (fun z => nomatch z), ?_⟩))))))
  simpa [same] using h
end
end PySem.W
namespace DL
open PySem PySem.Spec PyProof.Rows L2
/-- plain data, nested less deep than n, no key twice -/
def plD : Nat → D → Bool
  | 0, _ => false
  | _ + 1, .non => true
  | _ + 1, .bl _ => true
  | _ + 1, .int _ => true
  | _ + 1, .str _ => true
  | n + 1, .tup ds => ds.all (plD n)
  | n + 1, .lst ds => ds.all (plD n)
  | n + 1, .dk kvs => kvs.all (fun p => plD n p.2) && decide (kvs.map (·.1)).Nodup
  | _ + 1, _ => false
section
variable {X : Cx} {pins : List (Addr × Obj)} {σ : L2.St} {H : Hp} {s : Shared}
theorem valV_mem {ls : List (Key × V)} (nd : (ls.map (·.1)).Nodup) {q : Key × V} (h : q ∈ ls) : valV ls q.1 = some q.2 := by
  induction ls with
  | nil => cases h
  | cons p r ih =>
    rw [List.map_cons, List.nodup_cons] at nd
    rcases List.mem_cons.mp h with rfl | h
    · exact valV_pos rfl
    · rw [valV_neg fun e => nd.1 (by rw [e]; exact List.mem_map_of_mem h)]
      exact ih nd.2 h
/-- two values of the same data -/
def Tw (K : PySem.W.Frag) (mg : Str → Option Value) (H : Hp) (n : Nat) (x y : V) : Prop := ∃ d, plD n d = true ∧ Is K mg H x d ∧ Is K mg H y d
theorem tw_items {K : PySem.W.Frag} {mg : Str → Option Value} {n : Nat} : ∀ {ds : List D} {vs us : List V}, ds.all (plD n) = true → IsAll K mg H vs ds → IsAll K mg H us ds → Paired (Tw K mg H n) vs us
  | [], _, _, _, .nil, .nil => .nil
  | d :: ds, _, _, h, .cons a b, .cons c e => by
    rw [List.all_cons, Bool.and_eq_true] at h
    exact .cons ⟨d, h.1, a, c⟩ (tw_items h.2 b e)
theorem tw_hits {K : PySem.W.Frag} {mg : Str → Option Value} {n : Nat} {ls : List (Key × V)} (nd : (ls.map (·.1)).Nodup) : ∀ {kvs : List (Key × D)} {ks : List (Key × V)} {ms : List (Key × V)}, kvs.all (fun p => plD n p.2) = true → ks.map (·.1) = kvs.map (·.1) → ms.map (·.1) = kvs.map (·.1) →
    IsAll K mg H (ks.map (·.2)) (kvs.map (·.2)) → IsAll K mg H (ms.map (·.2)) (kvs.map (·.2)) → (∀ p ∈ ms, p ∈ ls) → ∀ p ∈ ks, ∃ u, valV ls p.1 = some u ∧ Tw K mg H n p.2 u
  | [], ks, ms, _, e, _, _, _, _ => by
    have : ks = [] := by cases ks with | nil => rfl | cons => simp at e
    subst this
    simp
  | (k, d) :: kvs, ks, ms, h, e, e2, a, b, hm => by
    cases ks with
    | nil => simp at e
    | cons p ks =>
      cases ms with
      | nil => simp at e2
      | cons q ms =>
        simp only [List.map_cons, List.cons.injEq] at e e2
        rw [List.map_cons, List.map_cons] at a b
        rw [List.all_cons, Bool.and_eq_true] at h
        cases a with
        | cons a1 a2 =>
          cases b with
          | cons b1 b2 =>
            intro r hr
            rcases List.mem_cons.mp hr with rfl | hr
            · refine ⟨q.2, ?_, d, h.1, a1, b1⟩
              have hq : q ∈ ls := hm q List.mem_cons_self
              rw [e.1, ← e2.1]
              exact valV_mem nd hq
            · exact tw_hits nd h.2 e.2 e2.2 a2 b2 (fun x hx => hm x (List.mem_cons_of_mem _ hx)) r hr
/-- what == and != find within two values of the same data that are no scalars -/
inductive TwR (K : PySem.W.Frag) (mg : Str → Option Value) (H : Hp) (n : Nat) : V → V → Prop
  | tup {a b : Addr} {vs us : List V} : H a = some (.tup vs) → H b = some (.tup us) → Paired (Tw K mg H n) vs us → TwR K mg H n (.ref a) (.ref b)
  | lst {a b : Addr} {vs us : List V} : H a = some (.lst vs) → H b = some (.lst us) → Paired (Tw K mg H n) vs us → TwR K mg H n (.ref a) (.ref b)
  | dk {a b : Addr} {ks ls : List (Key × V)} : H a = some (.dK ks) → H b = some (.dK ls) → ks.length = ls.length → (∀ p ∈ ks, ∃ u, valV ls p.1 = some u ∧ Tw K mg H n p.2 u) → TwR K mg H n (.ref a) (.ref b)
theorem tw_split {K : PySem.W.Frag} {mg : Str → Option Value} {n : Nat} {x y : V} (h : Tw K mg H (n + 1) x y) : (x = y ∧ flatB x = true) ∨ TwR K mg H n x y := by
  obtain ⟨d, p, a, b⟩ := h
  cases a with
  | non => cases b; exact .inl ⟨rfl, rfl⟩
  | bl _ => cases b; exact .inl ⟨rfl, rfl⟩
  | int _ => cases b; exact .inl ⟨rfl, rfl⟩
  | str _ => cases b; exact .inl ⟨rfl, rfl⟩
  | tup q r =>
    cases b with
    | tup q2 r2 => exact .inr (.tup q q2 (tw_items p r r2))
  | lst q r =>
    cases b with
    | lst q2 r2 => exact .inr (.lst q q2 (tw_items p r r2))
  | dk q k r =>
    cases b with
    | dk q2 k2 r2 =>
      have p' := Bool.and_eq_true_iff.mp p
      have l1 := congrArg List.length k
      have l2 := congrArg List.length k2
      simp only [List.length_map] at l1 l2
      exact .inr (.dk q q2 (by omega) (tw_hits (by rw [k2]; exact of_decide_eq_true p'.2) p'.1 k k2 r r2 fun x hx => hx))
  | _ => cases p
theorem tw_run (I : L2.Inv X pins σ H s) : ∀ (n : Nat) (A : Around), A.units + n < cLine → ∀ (x y : V) (v u : Value), Tw X.K X.mg H n x y → RelV x v → RelV y u → SeqAt.EqP X.prog X.w A s v u true
  | 0, _, _, _, _, _, _, ⟨_, z, _⟩, _, _ => nomatch z
  | n + 1, A, hu, x, y, v, u, h, rx, ry => by
    have ih := tw_run I n A.in1 (by show A.units + 1 + n < cLine; omega)
    rcases tw_split h with ⟨rfl, f⟩ | h
    · exact (eqAt_same rx ry f).eqP
    · cases h with
      | @tup a b vs us ha hb hp =>
        cases (show v = Value.ref a from rx)
        cases (show u = Value.ref b from ry)
        by_cases e : a = b
        · subst e; exact (SeqAt.EqAt.same _).eqP
        · obtain ⟨is1, r1, p1, _⟩ := I.tuple (.inl (.inl ha))
          obtain ⟨is2, r2, p2, _⟩ := I.tuple (.inl (.inl hb))
          have sz : is1.toArray.size = is2.toArray.size := by
            rw [List.size_toArray, List.size_toArray, ← r1.length, ← r2.length]
            exact Paired.length hp
          refine SeqAt.eqP_refs e fun E Q q => SeqAt.rcIn_tuples (e := fun _ => true) p1 p2 (by omega) (fun j h1 h2 => (show SeqAt.EqP X.prog X.w A.in1 s _ _ true by simpa using items_run ih hp r1 r2 j (by simpa using h1) (by simpa using h2))) ?_
          rw [show ((List.range (min is1.toArray.size is2.toArray.size)).all (fun _ => true) && is1.toArray.size == is2.toArray.size) = true by rw [sz]; simp]
          exact q
      | @lst a b vs us ha hb hp =>
        cases (show v = Value.ref a from rx)
        cases (show u = Value.ref b from ry)
        by_cases e : a = b
        · subst e; exact (SeqAt.EqAt.same _).eqP
        · exact SeqAt.eqP_refs e (eqR_run I (A := A) (by omega) ih (.inl ⟨a, b, vs, us, rfl, rfl, .inl (.inl ha), .inl (.inl hb), hp⟩) rfl rfl)
      | @dk a b ks ls ha hb hl hp =>
        cases (show v = Value.ref a from rx)
        cases (show u = Value.ref b from ry)
        by_cases e : a = b
        · subst e; exact (SeqAt.EqAt.same _).eqP
        · exact SeqAt.eqP_refs e (eqR_run I (A := A) (by omega) ih (.inr ⟨a, b, ks, ls, rfl, rfl, ha, hb, hl, hp⟩) rfl rfl)
/-- u != v of the same data -/
def rNeW (K : PySem.W.Frag) (mg : Str → Option Value) : R2 := fun x y H Q => ∃ n, n ≤ 60 ∧ TwR K mg H n x y ∧ Q (.bl false) H
theorem op_neW (hu : X.A.units + 64 < cLine) : OpR X (compareOp .NotEq) (rNeW X.K X.mg) := by
  intro pins s σ H x y v u Q I rx ry ⟨n, hn, h, q⟩
  have ih := tw_run I n X.A.in1 (by show X.A.units + 1 + n < cLine; omega)
  show wpAny _ _ (richCompare .NotEq v u) _ _ _
  have fin : EP X pins σ Q (.bool false) s := ⟨.bl false, H, I, rfl, q⟩
  cases h with
  | @tup a b vs us ha hb hp =>
    cases (show v = Value.ref a from rx)
    cases (show u = Value.ref b from ry)
    obtain ⟨is1, r1, p1, _⟩ := I.tuple (.inl (.inl ha))
    obtain ⟨is2, r2, p2, _⟩ := I.tuple (.inl (.inl hb))
    have sz : is1.toArray.size = is2.toArray.size := by
      rw [List.size_toArray, List.size_toArray, ← r1.length, ← r2.length]
      exact Paired.length hp
    exact SeqAt.rnP_tuples p1 p2 sz (by omega) (fun j h1 h2 => by simpa using items_run ih hp r1 r2 j (by simpa using h1) (by simpa using h2)) _ _ fin
  | @lst a b vs us ha hb hp =>
    cases (show v = Value.ref a from rx)
    cases (show u = Value.ref b from ry)
    obtain ⟨is1, r1, p1, _⟩ := I.list (.inl (.inl ha))
    obtain ⟨is2, r2, p2, _⟩ := I.list (.inl (.inl hb))
    have sz : is1.toArray.size = is2.toArray.size := by
      rw [List.size_toArray, List.size_toArray, ← r1.length, ← r2.length]
      exact Paired.length hp
    exact SeqAt.rnP_lists p1.isList p2.isList sz (by omega) (fun j h1 h2 => by simpa using items_run ih hp r1 r2 j (by simpa using h1) (by simpa using h2)) _ _ fin
  | @dk a b ks ls ha hb hl hp =>
    cases (show v = Value.ref a from rx)
    cases (show u = Value.ref b from ry)
    obtain ⟨_, ya, va, ra, da⟩ := (show ObjOk X.prog X.w H s.heap a (.dK ks) from I.hok a _ ha)
    obtain ⟨_, yb, vb, rb, db⟩ := (show ObjOk X.prog X.w H s.heap b (.dK ls) from I.hok b _ hb)
    exact PySem.W.rnP_dicts (knd := mixKind X.prog X.w) ya yb da db (by omega) (by rw [← ra.length, ← rb.length]; exact hl) (hits_run ih rb ra hp) _ _ fin
end
section
variable {X : Cx} {W : WX} {a b : Expr} {fa fb : M R} {pos : Pos}
open Classical in
/-- u != v: said of the same plain data alone -/
noncomputable def gNeW (a b : D) : Option R := if a = b ∧ plD 60 a = true then some (.fz (.bl false)) else none
theorem gNeW_self {a : D} (h : plD 60 a = true) : gNeW a a = some (.fz (.bl false)) := if_pos ⟨rfl, h⟩
theorem neWOk : BinOk X (fun x y H Q => rNe x y H Q ∨ rNeW X.K X.mg x y H Q) gNeW := by
  intro x y F H Q a b z s ha hb e q
  unfold gNeW at e
  by_cases h : a = b ∧ plD 60 a = true
  · rw [if_pos h] at e
    cases e
    obtain ⟨rfl, hp⟩ := h
    have q' : Q (.bl false) H := q _ _ (.old (.bl _))
    have i1 := ha.is s
    have i2 := hb.is s
    rcases tw_split (n := 59) ⟨a, hp, i1, i2⟩ with ⟨rfl, f⟩ | h
    · left
      cases i1 with
      | non => exact ⟨rfl, by simpa using q'⟩
      | bl c => exact ⟨rfl, by simpa using q'⟩
      | int c => exact ⟨rfl, by simpa using q'⟩
      | str c => exact ⟨rfl, by simpa using q'⟩
      | _ => cases f
    · exact .inr ⟨59, by decide, h, q'⟩
  · rw [if_neg h] at e; cases e
theorem d_neW {k : Nat} (hr : Room k X.A) (ha : DE X W a fa) (hb : DE X W b fb) : DE X W (.Compare a [.NotEq] [b] pos) (mBin gNeW fa fb) := d_cmp (op_ne.or (op_neW (by have := hu65 hr; omega))) neWOk ha hb (nomark _)
theorem t_neW {k : Nat} (hr : Room k X.A) (ha : DE X W a fa) (hb : DE X W b fb) : DT X W (.Compare a [.NotEq] [b] pos) (mBl (mBin gNeW fa fb)) := t_cmp (op_ne.or (op_neW (by have := hu65 hr; omega))) neWOk ha hb (nomark _)
end
end DL
-- SY
namespace DL
open PySem PySem.Spec PyProof.Rows L2
section
variable {X : Cx} {W : WX} {F F1 F' : Hp} {E E1 E' : En} {σ σ1 σ' : L2.St} {H H1 H' : Hp}
variable {a b e : Expr} {es : List Expr} {fa : M R} {fs : M (List D)} {pos p p2 : Pos} {x T : Str} {k : Nat}
theorem pe_exV0 {C : Addr} {bmB : List Value} {B newId initId : String} (FB : ExcBaseFacts B newId initId bmB) (q : PySem.W.excIn X.K C bmB newId = true) (gC : X.mg x = some (.ref C)) (kC : PySem.W.keepIn X.K (.ref C) = true) (hg : Gl X x) (hdb : (x == ("__debug__" : Str)) = false := by decide) :
    PE X (.Call (.Name x p) [] [] pos) (fun σ H Q => ∀ a, H a = none → Q (.ref a) (upd H a (ExO (.ref C) a))) := ⟨fun pins s σ H Q I h => by
  refine wpAny_Call_Name_kw (ld_glob I hg gC ?_ hdb)
  refine PySem.W.callWith_K0 I.kIn kC ?_
  show wpAny _ _ (call (.ref C) []) _ _ _
  obtain ⟨bm, N, nm, qn, bs, hdct, sn, sub, ab, col, dd, k0, k1, k2, k3, k5, mN, hC, hN, hni, Tl⟩ := exc_obj I.kIn q
  exact wpAny_call_exc_subT FB Tl hC hN hni (fun h' a hm => by
    have hn : H a = none := I.hok.gone hm.new
    obtain ⟨t, ht, _, _⟩ := hm.there
    exact ⟨.ref a, upd H a (ExO (.ref C) a), I.laidN hm.keeps hm.new hn (exO_ok ht ⟨rfl, rfl⟩ rfl rfl rfl (show 4 < 6 by decide)), rfl, h a hn⟩) (Nat.zero_le _)⟩
def mExc0 (c : Str) : M R := fun E => .ok (.fz (.ex0 c)) E
theorem d_exc0 {C : Addr} {bmB : List Value} {B newId initId : String} (FB : ExcBaseFacts B newId initId bmB) (q : PySem.W.excIn X.K C bmB newId = true) (gC : X.mg x = some (.ref C)) (kC : PySem.W.keepIn X.K (.ref C) = true) (hg : Gl X x) (hdb : (x == ("__debug__" : Str)) = false := by decide) :
    DE X W (.Call (.Name x p) [] [] pos) (mExc0 x) :=
  ⟨pe_mono (pe_exV0 FB q gC kC hg hdb) fun σ H Q ⟨F, E, rel, h⟩ => fun a ha => h _ _ _ (Stp.allocF rel ha) (.ex0 gC upd_same) trivial⟩
def spXI (K : PySem.W.Frag) (f : Str) : Sp := fun vs H Q _ => ∃ (a : Addr) (y : V) (C : Addr), vs = [.ref a, y] ∧ OexC K C ∧ PySem.W.findIn K (.ref C) f = some none ∧ H a = some (exo a C none) ∧ ∀ dx, H dx = none → dx ≠ a → Q .non (upd (upd H dx (exd dx [(f, y)])) a (exo a C (some dx)))
theorem okXI {P : Program} {w : World} {K : PySem.W.Frag} {mg : Str → Option Value} {base : Heap} {x qual f pn : Str} {st : Stmt} {g : Addr} {fd : FuncData} (F : Fun K x qual st g fd) (S : FnScope ["self", pn] ["self", pn] (defScope st))
    (hb : ∀ (cdv : Value) (A : Around) (outer : List Env) (s : Shared) (H : Hp) (E : XK), PSs (cxD P w K mg base ["self", pn] qual st g cdv A outer s H E) (defBody st) (tOst K f (tVar 0) (tVar 1))) :
    FnOk P w K mg base (L2.CX P w) 1 g fd ["self", pn] (spXI K f) :=
  F.okX S (fun vs H Q E ⟨a, y, C, h, _⟩ => by rw [h]; rfl) fun cdv A outer s H vs Q E hr ⟨a, y, C, h, T, hno, ha, q⟩ => by
    subst h
    exact ⟨_, hb cdv A outer s H E, y, rfl, .ref a, rfl, a, C, rfl, T, hno, .inl ⟨ha, q⟩⟩
def tMkV (C : Addr) (sp : Sp) (ta : TA) : TE := fun σ H Q => ta σ H fun vs H1 => vs.length ≤ 1000 ∧ ∀ a, H1 a = none → sp (.ref a :: vs) (upd H1 a (exo a C none)) (fun v H2 => v = .non ∧ Q (.ref a) H2) (fun _ _ _ => False)
theorem pe_oexV {C fI : Addr} {ta : TA} {fd : FuncData} {ps : List Str} {sp : Sp} (O : OexC X.K C) (iC : PySem.W.findIn X.K (.ref C) "__init__" = some (some (.ref fI))) (tI : PySem.W.typeIn X.K (.ref fI) = some (.type "function"))
    (FO : FnOk X.prog X.w X.K X.mg X.base (L2.CX X.prog X.w) k fI fd ps sp) (hr : Room (k + 1) X.A) (hb : Binds X.K fd ps []) (hx : Passes (L2.CX X.prog X.w) X (fun _ _ _ => False)) (hg : Gl X x) (hm : X.mg x = some (.ref C)) (ha : PA X (e :: es) ta)
    (hdb : (x == ("__debug__" : Str)) = false := by decide) (he : starEach (e :: es) X.env = (false, eval e X.env) :: starEach es X.env := by rfl) (hpl : (backTo pos (starEach es X.env)).any (·.1) = false := by rfl) :
    PE X (.Call (.Name x p) (e :: es) [] pos) (tMkV C sp ta) := ⟨fun pins s σ H Q I h => by
  obtain ⟨nm, q, N, bs, bm, sn, sub, ab, col, dd, k0, k1, k2, k3, k5, hC, hbm⟩ := O.cls
  refine wpAny_Call_Name_kw (ld_glob I hg hm (PySem.W.callWith_K (h₀ := X.base) I.ok.mod.kin O.kC (thn (ha.run pos pins s σ H _ I h) fun us s1 ⟨vs, H1, I1, r1, hz, q1⟩ => ⟨I1.kIn, ?_⟩) he hpl) hdb)
  show wpAny _ _ (call (.ref C) us) _ _ _
  obtain ⟨hp, g, dr, tk, os⟩ := s1
  have up1 : hp.objs.size ≤ hp.objs.size + 1 := Nat.le_succ _
  have hn : H1 (hp.objs.size + 1) = none := I1.hok.fresh up1
  have hq := q1 _ hn
  have J : L2.Inv X pins σ (upd H1 (hp.objs.size + 1) (exo (hp.objs.size + 1) C none)) ⟨(hp.push (PySem.W.kdv_tup us)).push (PySem.HandSPX.excO C hp.objs.size), g, dr, tk, os⟩ :=
    I1.laid (t' := tk) (fun b o h => Heap.get?_push_of_some _ (Heap.get?_push_of_some _ h)) up1 (exo_ok (by heap_get))
  have r2 : Vals (V.ref (hp.objs.size + 1) :: vs) (Value.ref (hp.objs.size + 1) :: us) := .cons rfl r1
  have hl : (Value.ref (hp.objs.size + 1) :: us ++ ([] : List Value)).length = ps.length := by
    rw [List.append_nil, ← r2.length]
    exact FO.len _ _ _ _ hq
  have hb' := hb _ (Value.ref (hp.objs.size + 1) :: us) J.kIn hl
  rw [List.append_nil] at hb'
  have few : us.length ≤ sizeLine := by rw [← r1.length, sizeLine_eq]; omega
  refine wpAny_call (PySem.HandSPX.call_own F.excBase_ValueError (fun Y => PySem.HandSPX.refsVE_contains Y bm hbm) (I1.kIn _ _ hC) (PySem.W.looks_findIn I1.kIn iC) (fun me => PySem.W.bind_fn I1.kIn me tI) few
    (codeAny_mono (FO.run _ X.stack _ _ ⟨Value.ref (hp.objs.size + 1) :: us, []⟩ (Value.ref (hp.objs.size + 1) :: us) _ _ (fun _ _ _ => False) (hr.make C us []) (J.env0.make C us []) hb' r2 hq) fun r s' hq' => ?_))
  cases r with
  | error er => exact hx pins σ _ _ er s' J hq'
  | ok fl =>
    cases fl with
    | ret u =>
      obtain ⟨v, H', I3, rv, ev, q3⟩ := J.after hq'
      subst ev
      exact ⟨rv, ⟨V.ref (hp.objs.size + 1), H', I3, rfl, q3⟩⟩
    | _ => exact False.elim hq'⟩
theorem passF : Passes (L2.CX X.prog X.w) X (fun _ _ _ => False) := fun pins σ H s e s' I ⟨_, _, _, _, _, _, _, _, _, _, _, _, h⟩ => h.elim
def mExc1 (c f : Str) (fs : M (List D)) : M R := M.bnd fs fun ds => fun E => match ds with
  | [d] => .ok (.fz (.ex1 c f d)) E
  | _ => .no
theorem d_exc1 {C fI : Addr} {fd : FuncData} {ps : List Str} {f : Str} (O : OexC X.K C) (iC : PySem.W.findIn X.K (.ref C) "__init__" = some (some (.ref fI))) (tI : PySem.W.typeIn X.K (.ref fI) = some (.type "function")) (hno : PySem.W.findIn X.K (.ref C) f = some none)
    (FO : FnOk X.prog X.w X.K X.mg X.base (L2.CX X.prog X.w) k fI fd ps (spXI X.K f)) (hr : Room (k + 1) X.A) (hb : Binds X.K fd ps []) (hx : Passes (L2.CX X.prog X.w) X (fun _ _ _ => False)) (hg : Gl X x) (hm : X.mg x = some (.ref C)) (ha : DA X W (e :: es) fs)
    (hdb : (x == ("__debug__" : Str)) = false := by decide) (he : starEach (e :: es) X.env = (false, eval e X.env) :: starEach es X.env := by rfl) (hpl : (backTo pos (starEach es X.env)).any (·.1) = false := by rfl) :
    DE X W (.Call (.Name x p) (e :: es) [] pos) (mExc1 x f fs) :=
  ⟨pe_mono (pe_oexV O iC tI FO hr hb hx hg hm ha.pa hdb he hpl) fun σ H Q ⟨F, E, rel, h⟩ => ⟨F, E, rel, by
    unfold Good mExc1 at h
    unfold GoodA
    cases z : fs E with
    | ok ds E1 =>
      simp only [M.bnd, z] at h
      intro F1 H1 vs s hA
      match ds, hA with
      | [d], .cons (v := v) hd .nil =>
        simp only at h
        refine ⟨by simp, fun q hq => ⟨q, v, C, rfl, O, hno, upd_same, fun dx hdx ne => ⟨rfl, ?_⟩⟩⟩
        have hdx' : H1 dx = none := by rw [upd_ne ne] at hdx; exact hdx
        have eq : upd (upd (upd H1 q (exo q C none)) dx (exd dx [(f, v)])) q (exo q C (some dx)) = upd (upd H1 dx (exd dx [(f, v)])) q (exo q C (some dx)) := by
          funext j
          by_cases h1 : j = q
          · rw [h1, upd_same, upd_same]
          · rw [upd_ne h1, upd_ne h1]
            by_cases h2 : j = dx
            · rw [h2, upd_same, upd_same]
            · rw [upd_ne h2, upd_ne h2, upd_ne h1]
        rw [eq]
        have s1 := Stp.allocF (o := exd dx [(f, v)]) s.rel hdx'
        have hq' : upd H1 dx (exd dx [(f, v)]) q = none := by rw [upd_ne (Ne.symm ne)]; exact hq
        have s2 := Stp.allocF (o := exo q C (some dx)) s1.rel hq'
        refine h _ _ _ (s.trans (s1.trans s2)) (.ex1 hm upd_same (by rw [upd_ne ne, upd_same]) ?_) trivial
        exact (hd.mono s1.mono).mono s2.mono
      | [], _ => simp only at h
      | _ :: _ :: _, _ => simp only at h
    | ex x E1 => simp only [M.bnd, z] at h; exact h
    | no => simp only [M.bnd, z] at h⟩⟩
def rXf (K : PySem.W.Frag) (n : Str) : V → Hp → VK → Prop := fun x H Q => ∃ (a C dx : Addr) (fs : List (Str × V)) (v : V), x = .ref a ∧ XfC K C ∧ PySem.W.findIn K (.ref C) n = some none ∧ H a = some (exo a C (some dx)) ∧ H dx = some (exd dx fs) ∧ fs.lookup n = some v ∧ Q v H
theorem pe_xfV {te : TE} {n : Str} (he : PE X e te) (hb : attributeBase e n X.env (eval e X.env) = eval e X.env := by rfl) : PE X (.Attribute e n pos) (fun σ H Q => te σ H fun x H1 => rXf X.K n x H1 Q) := ⟨fun pins s σ H Q I h => by
  refine attr_of hb (thn (he.run pins s σ H _ I h) fun u s1 ⟨x, H1, I1, rx, a, C, dx, fs, v, ex, T, hno, ea, ed, l, q⟩ => ?_)
  subst ex
  cases (show u = Value.ref a from rx)
  obtain ⟨t1, ho⟩ := exo_at I1.hok ea
  obtain ⟨mA, hns, hr⟩ := exd_at I1.hok ed
  obtain ⟨od, ho2, hl⟩ := lookIn_ns hns
  obtain ⟨u, hu, ru⟩ := RelO.some_of (v := v) (o := mA n) (by rw [← l]; exact hr n)
  exact HandSPX.exc_get I1.kIn ⟨ho, rfl, by unfold PySem.W.notCls; rfl, ho2⟩ T.ga T.gg T.exC (PySem.W.findObj_own T.hdC hno rfl (by rw [hl, hu])) (handed_of ru) ⟨v, H1, I1.tok _, ru, q⟩⟩
def gXf (c f : Str) : D → Option R
  | .ex1 c' f' d => if c' = c ∧ f' = f then some (.fz d) else none
  | _ => none
theorem d_xfV {c n : Str} {C : Addr} (hC : X.mg c = some (.ref C)) (T : XfC X.K C) (hno : PySem.W.findIn X.K (.ref C) n = some none) (he : DE X W e fa) (hb : attributeBase e n X.env (eval e X.env) = eval e X.env := by rfl) :
    DE X W (.Attribute e n pos) (mUn (gXf c n) fa) :=
  ⟨pe_mono (pe_xfV he.pe hb) fun σ H Q ⟨F, E, rel, h⟩ => ⟨F, E, rel, Good.un (r := rXf X.K n) (fun x F H Q d z s ha e q => by
    cases ha with
    | @ex1 a C' dx c' f' v d m h1 h2 hI =>
      unfold gXf at e; dsimp only at e
      by_cases hc : c' = c ∧ f' = n
      · rw [if_pos hc] at e
        cases e
        obtain ⟨rfl, rfl⟩ := hc
        rw [hC] at m
        cases m
        exact ⟨a, C, dx, _, v, rfl, T, hno, s _ _ h1, s _ _ h2, by simp [List.lookup], q _ _ (.old hI)⟩
      · rw [if_neg hc] at e; cases e
    | _ => simp [gXf] at e) h⟩⟩
def rIsX (K : PySem.W.Frag) (cv : Value) (b : Bool) : List V → Hp → VK → Prop := fun xs H Q => ∃ (a C : Addr) (c : V), xs = [.ref a, c] ∧ (∀ u, RelV c u → u = cv) ∧ ExcC K C ∧ PySem.W.kitOne K (.ref C) cv = some b ∧ (H a = some (ExO (.ref C) a) ∨ ∃ (dx : Addr) (fs : List (Str × V)), H a = some (exo a C (some dx)) ∧ H dx = some (exd dx fs)) ∧ Q (.bl b) H
theorem call_isX {cv : Value} {b : Bool} : CallR X (.builtin "isinstance") (rIsX X.K cv b) := by
  intro pins s σ H xs us Q I r ⟨a, C, c, hx, hcv, T, kit, ho, q⟩
  subst hx
  cases r with
  | cons rx rr =>
    cases rr with
    | cons rt rr =>
      cases rr
      cases rx
      obtain rfl := hcv _ rt
      have hcl : (PySem.W.clsIn X.K C).isSome = true := by
        obtain ⟨cd, hc, _⟩ := PySem.W.any_some T.hd
        rw [hc]; rfl
      have fin : ∀ tk, EP X pins σ Q (.bool b) ⟨s.heap, s.gens, s.drawn, tk, s.os⟩ := fun tk => ⟨.bl b, H, I.kept (t' := tk) fun _ _ z => z, rfl, q⟩
      rcases ho with ho | ⟨dx, fs, ho, hd⟩
      · obtain ⟨⟨⟨oc, od, oda, osl⟩, vs, hg, ⟨h1, h2⟩, h3, _⟩, _, _⟩ := I.hok a _ ho
        simp only at h1 h2 h3
        subst h1 h2 h3
        exact PySem.W.kia_one (PySem.W.kitx_exc (od := none) hcl T.hg T.hk T.hs T.ha T.hn T.ht T.hm) I.kIn ⟨hg, rfl, rfl, trivial⟩ kit (fun z => nomatch z) fin
      · obtain ⟨t1, hg⟩ := exo_at I.hok ho
        obtain ⟨mA, hns, _⟩ := exd_at I.hok hd
        obtain ⟨od, ho2, _⟩ := lookIn_ns hns
        exact PySem.W.kia_one (PySem.W.kitx_exc (od := some od) hcl T.hg T.hk T.hs T.ha T.hn T.ht T.hm) I.kIn ⟨hg, rfl, rfl, ho2⟩ kit (fun z => nomatch z) fin
/-- what is said of the classes L: which of them are T -/
def IsX (K : PySem.W.Frag) (mg : Str → Option Value) (cv : Value) (L : List Str) (tb : Str → Bool) : Prop := ∀ c ∈ L, ∃ C, mg c = some (.ref C) ∧ ExcC K C ∧ PySem.W.kitOne K (.ref C) cv = some (tb c)
def gIsX (L : List Str) (tb : Str → Bool) : D → Option R
  | .ex0 c => if c ∈ L then some (.fz (.bl (tb c))) else none
  | .ex1 c _ _ => if c ∈ L then some (.fz (.bl (tb c))) else none
  | _ => none
theorem isXOk {L : List Str} {tb : Str → Bool} {cv : Value} {c : V} (hcv : ∀ u, RelV c u → u = cv) (B : IsX X.K X.mg cv L tb) : UnOk X (fun x H Q => ∃ b, rIsX X.K cv b [x, c] H Q) (gIsX L tb) := by
  intro x F H Q d z s ha e q
  cases ha with
  | @ex0 a C cn m h =>
    unfold gIsX at e; dsimp only at e
    by_cases hc : cn ∈ L
    · rw [if_pos hc] at e
      cases e
      obtain ⟨C', m', T, kit⟩ := B cn hc
      rw [m] at m'; cases m'
      exact ⟨_, a, C, c, rfl, hcv, T, kit, .inl (s _ _ h), q _ _ (.old (.bl _))⟩
    · rw [if_neg hc] at e; cases e
  | @ex1 a C dx cn f v d m h1 h2 hI =>
    unfold gIsX at e; dsimp only at e
    by_cases hc : cn ∈ L
    · rw [if_pos hc] at e
      cases e
      obtain ⟨C', m', T, kit⟩ := B cn hc
      rw [m] at m'; cases m'
      exact ⟨_, a, C, c, rfl, hcv, T, kit, .inr ⟨dx, _, s _ _ h1, s _ _ h2⟩, q _ _ (.old (.bl _))⟩
    · rw [if_neg hc] at e; cases e
  | _ => simp [gIsX] at e
theorem call_isXE {cv : Value} : CallR X (.builtin "isinstance") (fun xs H Q => ∃ b, rIsX X.K cv b xs H Q) := fun pins s σ H xs us Q I r ⟨b, h⟩ => call_isX pins s σ H xs us Q I r h
theorem d_isX {CT : Addr} {L : List Str} {tb : Str → Bool} (B : IsX X.K X.mg (.ref CT) L tb) (hg : Gl X "isinstance") (hm : X.mg "isinstance" = none) (hgT : Gl X T) (hT : X.mg T = some (.ref CT)) (he : DE X W e fa) (hd : (T == ("__debug__" : Str)) = false := by decide)
    (hs1 : starEach [e, .Name T p2] X.env = (false, eval e X.env) :: starEach [.Name T p2] X.env := by rfl) (hs2 : starEach [.Name T p2] X.env = (false, eval (.Name T p2) X.env) :: starEach [] X.env := by rfl) (hpl : (backTo pos (starEach [.Name T p2] X.env)).any (·.1) = false := by rfl) :
    DE X W (.Call (.Name "isinstance" p) [e, .Name T p2] [] pos) (mUn (gIsX L tb) fa) :=
  ⟨pe_mono (pe_callB (call_isXE (cv := .ref CT)) hg hm PyProof.Rows.boot_isinstance (pa_cons he.pe (pa_cons (pe_glob (v := .ref CT) hgT hT (show RelV (.ref CT) (.ref CT) from rfl) hd) pa_nil hs2) hs1) (by decide) (by decide) hs1 hpl) fun σ H Q ⟨F, E, rel, h⟩ =>
    ⟨F, E, rel, Good.un (isXOk (c := .ref CT) (fun u h => (show u = Value.ref CT from h)) B) h⟩⟩
theorem d_isXB {t : String} {L : List Str} {tb : Str → Bool} (B : IsX X.K X.mg (.type t) L tb) (hg : Gl X "isinstance") (hm : X.mg "isinstance" = none) (hgT : Gl X T) (hmT : X.mg T = none) (hv : bootBuiltins T = some (.type t)) (he : DE X W e fa) (hn : T ≠ "__name__" := by decide) (hd : (T == ("__debug__" : Str)) = false := by decide)
    (hs1 : starEach [e, .Name T p2] X.env = (false, eval e X.env) :: starEach [.Name T p2] X.env := by rfl) (hs2 : starEach [.Name T p2] X.env = (false, eval (.Name T p2) X.env) :: starEach [] X.env := by rfl) (hpl : (backTo pos (starEach [.Name T p2] X.env)).any (·.1) = false := by rfl) :
    DE X W (.Call (.Name "isinstance" p) [e, .Name T p2] [] pos) (mUn (gIsX L tb) fa) :=
  ⟨pe_mono (pe_callB (call_isXE (cv := .type t)) hg hm PyProof.Rows.boot_isinstance (pa_cons he.pe (pa_cons (pe_bltn hgT hmT hv (show RelV (.ty t) (.type t) from rfl) hn hd) pa_nil hs2) hs1) (by decide) (by decide) hs1 hpl) fun σ H Q ⟨F, E, rel, h⟩ =>
    ⟨F, E, rel, Good.un (isXOk (c := .ty t) (fun u h => (show u = Value.type t from h)) B) h⟩⟩
def cntE (k : Bool) : Value → Bool
  | .bool b => b == k
  | _ => false
theorem cnt_vals {k : Bool} : ∀ {bs : List Bool} {us : List Value}, Vals (bs.map V.bl) us → us.countP (cntE k) = bs.count k ∧ ∀ u ∈ us, ∃ b, u = Value.bool b
  | [], _, .nil => ⟨rfl, fun _ h => nomatch h⟩
  | b :: bs, _, .cons (b := u) h t => by
    obtain ⟨h1, h2⟩ := cnt_vals (k := k) t
    cases (show u = Value.bool b from h)
    refine ⟨?_, fun u hu => ?_⟩
    · rw [List.countP_cons, List.count_cons, h1]
      rfl
    · rcases List.mem_cons.mp hu with rfl | hu
      · exact ⟨b, rfl⟩
      · exact h2 u hu
def rCntB (K : PySem.W.Frag) : V → List V → Hp → VK → Prop := fun x xs H Q => ∃ (p : Addr) (bs : List Bool) (k : Bool), x = .ref p ∧ xs = [.bl k] ∧ SqL K H p (bs.map V.bl) ∧ Q (.int (bs.count k : Nat)) H
theorem mt_cntB : MtR X "list.count" (rCntB X.K) := by
  intro pins s σ H x xs v us Q I rx rxs ⟨p, bs, k, ex, exs, hs, q⟩
  subst ex exs
  cases rx
  obtain ⟨u, rfl, ru⟩ := rxs.one
  cases (show u = Value.bool k from ru)
  obtain ⟨its, rv, ⟨⟨cls, dd, data, sl⟩, n, ho, hc, hdn, hd⟩, hlen⟩ := I.list hs
  simp only at hc hd
  subst hc hd
  obtain ⟨c1, c2⟩ := cnt_vals (k := k) rv
  refine call_meets PySem.F.slot_list_count ⟨_, ho, rfl⟩ PySem.F.entry_list_count (PySem.F.args_list_count_2 _ _)
    (SeqAt.list_countAt p its.toArray n dd sl (.bool k) (cntE k)) ⟨ho, fun y hy => ?_, ?_⟩
  · obtain ⟨b, rfl⟩ := c2 y (by simpa using hy)
    exact SeqAt.EqAt.bool_bool b k
  · refine ⟨.int (bs.count k : Nat), H, I.tok _, ⟨s.toks, ?_⟩, q⟩
    show Value.int ((its.toArray.toList.countP (cntE k) : Nat) : Int) s.toks = Value.int ((bs.count k : Nat) : Int) s.toks
    rw [show its.toArray.toList.countP (cntE k) = bs.count k from c1]
def unBl : List D → Option (List Bool)
  | [] => some []
  | .bl b :: r => (unBl r).map (b :: ·)
  | _ => none
theorem isAll_bl {K : PySem.W.Frag} {mg : Str → Option Value} {H : Hp} : ∀ {ds : List D} {vs : List V} {bs : List Bool}, unBl ds = some bs → IsAll K mg H vs ds → vs = bs.map V.bl
  | [], _, _, e, .nil => by cases e; rfl
  | d :: ds, _, bs, e, .cons h t => by
    cases d with
    | bl b =>
      obtain ⟨r, h1, h2⟩ := Option.map_eq_some_iff.mp (show (unBl ds).map (b :: ·) = some bs from e)
      subst h2
      cases h
      rw [List.map_cons, isAll_bl h1 t]
    | _ => cases e
def gCnt : D → List D → Option (D × D)
  | .lst xs, [.bl k] => (unBl xs).map fun bs => (.lst xs, .int (bs.count k : Nat))
  | _, _ => none
theorem cntOk : MutOk X (rCntB X.K) gCnt := by
  intro p vs F H Q c c' v ds s n hc hA e q
  cases c with
  | lst xs =>
    obtain ⟨ws, hp, r⟩ := hc
    cases hA with
    | nil => simp [gCnt] at e
    | @cons y ys d ds hy t =>
      cases t with
      | cons _ _ => cases hy <;> simp [gCnt] at e
      | nil =>
        cases hy with
        | bl k =>
          obtain ⟨bs, h1, h2⟩ := Option.map_eq_some_iff.mp (show (unBl xs).map (fun bs => (D.lst xs, D.int (bs.count k : Nat))) = some (c', v) from e)
          cases h2
          have eu : upd H p (.lst ws) = H := by
            funext j
            by_cases h : j = p
            · rw [h, upd_same, hp]
            · rw [upd_ne h]
          have q' := q (.int (bs.count k : Nat)) (.lst ws) (.int _) ⟨ws, upd_same, r⟩
          rw [eu] at q'
          exact ⟨p, bs, k, rfl, rfl, .inl (.inl (by rw [← isAll_bl h1 r]; exact hp)), q'⟩
        | _ => simp [gCnt] at e
  | _ => simp [gCnt] at e
variable {apos cpos p' : Pos} {i : Nat} in
theorem d_cnt {f : M (List D)} (ha : DA X W [e] f) (hN : X.N[i]? = some x := by rfl) (hv : Vis X.env.scope x := by first | exact Or.inl rfl | exact Or.inr (Or.inl rfl) | exact Or.inr (Or.inr rfl)) (hd : (x == ("__debug__" : Str)) = false := by decide) (hcd : (x == ("__classdict__" : Str)) = false := by decide)
    (hl : (apos.endLine == cpos.line) = true := by rfl) (hs : starEach [e] X.env = (false, eval e X.env) :: starEach [] X.env := by rfl)
    (hfew : ((backTo cpos (starEach [e] X.env)).all (fun x => !x.1) && (backToKw cpos (keywordEach [] X.env)).all (fun x => x.1.isSome) && decide (([e] : List Expr).length + ([] : List Keyword).length + (if ([] : List Keyword).isEmpty then 0 else 1) < 30)) = true := by rfl) :
    DE X W (.Call (.Attribute (.Name x p') "count" apos) [e] [] cpos) (mMut "list" i f gCnt) := d_mut PySem.F.plainAttrs_list PySem.F.slot_list_count PySem.F.type_list_count mt_cntB cntOk ha hN hv hd hcd rfl hfew hl hs rfl
end
end DL
-- K0D
set_option maxHeartbeats 1000000
namespace K00
open PySem PySem.Spec PyProof.Rows L2 DL
def LX : List Str := ["BadHome", "NotBare", "BadCrews", "Busy", "Closes", "TooMany", "NoLot", "NoStanding", "NoThing", "NoThings", "NoOrder", "NoArrow", "NoHands", "NoNumber", "NoTies", "NotSpined", "NoSeen", "NoFit", "NothingDone", "NoCrew", "NotNow", "NoHand", "Full", "Clash", "Tied", "NoText"]
def tbX (T c : Str) : Bool := T == c || T == "TurnError" || T == "ValueError"
noncomputable section
def den__law_hand : M Fl := (sSeq (sSet 1 (mLc [2] (mIter (mSl (mName 0) (M.ret none) (mPart (mK (.int 63))))) (bName 2) (M.ret true) (mRd gAbs (pCons (mRd gInt (pCons (mName 2) pNil)) pNil))))
      (sRet (mLst (mCons (mName 1) (mCons (mK (.int 0)) (mCons (mK (.int 0)) (mCons (mBin gAddA (mK (.int 1)) (mRd gLen (pCons (mName 1) pNil))) (mCons (mK (.int 0)) mNil))))))))
def G__law_hand : Dn := runD false 3 den__law_hand
def den__law_draw : M Fl := (sSeq (sIf (mAndB (mBl (mBin gEq (mBin gIxA (mName 0) (mK (.int 2))) (mK (.int 0)))) (mBl (mBin gLtA (mBin gIxA (mName 0) (mK (.int 1))) (mRd gLen (pCons (mBin gIxA (mName 0) (mK (.int 0))) pNil))))) (sSeq (sSet 3 (mBin gIxA (mBin gIxA (mName 0) (mK (.int 0))) (mBin gIxA (mName 0) (mK (.int 1)))))
        (sSeq (sPutA 0 (mBin gAddA (mBin gIxA (mName 0) (mK (.int 1))) (mK (.int 1))) (mK (.int 1)))
        (sSeq (sPutA 0 (mBin gMod (mRd gInt (pCons (mBin gAddA (mBin gAddA (mBin gMulA (mBin gIxA (mName 0) (mK (.int 3))) (mK (.int 69621))) (mName 3)) (mK (.int 11))) pNil)) (mK (.int 2147483629))) (mK (.int 3)))
        (sIf (mBl (mBin gGe (mName 3) (mBin gPow (mK (.int 10)) (mK (.int 18))))) (sPutA 0 (mName 3) (mK (.int 2))) sNx)))) sNx)
      (sSeq (sIf (mBl (mBin gGtA (mBin gIxA (mName 0) (mK (.int 2))) (mK (.int 0)))) (sSeq (sSet 4 (mBin gMod (mRd gInt (pCons (mBin gIxA (mName 0) (mK (.int 2))) pNil)) (mName 1)))
        (sSeq (sPutA 0 (mBin gDiv (mBin gIxA (mName 0) (mK (.int 2))) (mName 1)) (mK (.int 2)))
        (sRet (mName 4)))) sNx)
      (sSeq (sPutA 0 (mBin gAddA (mBin gIxA (mName 0) (mK (.int 4))) (mK (.int 1))) (mK (.int 4)))
      (sSeq (sSet 2 (mBin gMod (mRd gInt (pCons (mBin gMulA (mRd gInt (pCons (mBin gAddA (mBin gIxA (mName 0) (mK (.int 3))) (mBin gMulA (mK (.int 7919)) (mBin gIxA (mName 0) (mK (.int 4))))) pNil)) (mK (.int 48271))) pNil)) (mK (.int 2147483647))))
      (sSeq (sSet 2 (mBin gMod (mRd gInt (pCons (mBin gMulA (mName 2) (mBin gAddA (mBin gDiv (mName 2) (mK (.int 1009))) (mK (.int 69621)))) pNil)) (mK (.int 2147483647))))
      (sSeq (sSet 2 (mBin gMod (mRd gInt (pCons (mBin gMulA (mName 2) (mBin gAddA (mBin gDiv (mName 2) (mK (.int 2003))) (mK (.int 40692)))) pNil)) (mK (.int 2147483399))))
      (sRet (mBin gMod (mRd gInt (pCons (mBin gDiv (mName 2) (mK (.int 16))) pNil)) (mName 1)))))))))
def G__law_draw : Dn := runD true 5 den__law_draw
def den__law_deep : M Fl := (sSeq (sSet 1 (mBin gIxA (mLst (mCons (mK .non) (mCons (mTup mNil) (mCons (mK (.int 0)) mNil)))) (mCallL 0 2 G__law_draw (mCons (mK (.int 3)) mNil))))
      (sSeq (sFor (mRng1 (mCons (mBin gAddA (mK (.int 14)) (mCallL 0 2 G__law_draw (mCons (mK (.int 8)) mNil))) mNil)) (bName 2) (sSet 1 (mBin gIxA (mLst (mCons (mLst (mCons (mName 1) mNil)) (mCons (mTup (mCons (mName 1) mNil)) (mCons (mDict1 (mK (.int 0)) (mName 1)) mNil)))) (mCallL 0 2 G__law_draw (mCons (mK (.int 3)) mNil)))))
      (sRet (mName 1))))
def G__law_deep : Dn := runD true 3 den__law_deep
def den_law : M Fl := (sSeq (sSet 1 (mCall G__law_hand (nArgs 1 (mCons (mName 0) mNil))))
      (sSeq (sSet 2 (mLst (mCons (mK (.int 0)) (mCons (mUn gNeg (mK (.int 1))) (mCons (mK (.bl true)) (mCons (mK .non) (mCons (mK (.str "x")) (mCons (mK (.str "")) (mCons (mTup (mCons (mK (.int 1)) (mCons (mK (.int 2)) mNil))) (mCons (mLst (mCons (mK (.int 3)) mNil)) (mCons (mDict1 (mK (.str "a")) (mK (.int 4))) (mCons (mCallL 1 1 G__law_deep mNil) (mCons (mBin gPow (mK (.int 10)) (mK (.int 29))) mNil)))))))))))))
      (sSeq (sSet 3 (mBin gIxA (mName 2) (mCallL 1 2 G__law_draw (mCons (mK (.int 11)) mNil))))
      (sSeq (sSet 4 (mLst (mCons (mExc1 "BadHome" "part" (mCons (mName 3) mNil)) (mCons (mExc1 "NotBare" "way" (mCons (mName 3) mNil)) (mCons (mExc1 "BadCrews" "index" (mCons (mName 3) mNil)) (mCons (mExc1 "Busy" "who" (mCons (mName 3) mNil)) (mCons (mExc1 "Closes" "who" (mCons (mName 3) mNil)) (mCons (mExc1 "TooMany" "most" (mCons (mName 3) mNil)) mNil))))))))
      (sSeq (sSet 5 (mLst (mCons (mUn (gXf "BadHome" "part") (mBin gIxA (mName 4) (mK (.int 0)))) (mCons (mUn (gXf "NotBare" "way") (mBin gIxA (mName 4) (mK (.int 1)))) (mCons (mUn (gXf "BadCrews" "index") (mBin gIxA (mName 4) (mK (.int 2)))) (mCons (mUn (gXf "Busy" "who") (mBin gIxA (mName 4) (mK (.int 3)))) (mCons (mUn (gXf "Closes" "who") (mBin gIxA (mName 4) (mK (.int 4)))) (mCons (mUn (gXf "TooMany" "most") (mBin gIxA (mName 4) (mK (.int 5)))) mNil))))))))
      (sSeq (sIf (mTru (mRd (gAny false) (pCons (mLc [7] (mIter (mName 5)) (bName 7) (M.ret true) (mOrV (mBin gNe (mUn (gIsi "bool") (mName 7)) (mUn (gIsi "bool") (mName 3))) (mBin gNeW (mName 7) (mName 3)))) pNil))) (sRet (mK (.bl false))) sNx)
      (sSeq (sSet 4 (mBin gAddA (mName 4) (mLst (mCons (mExc0 "NoLot") (mCons (mExc0 "NoStanding") (mCons (mExc0 "NoThing") (mCons (mExc0 "NoThings") (mCons (mExc0 "NoOrder") (mCons (mExc0 "NoArrow") (mCons (mExc0 "NoHands") (mCons (mExc0 "NoNumber") (mCons (mExc0 "NoTies") mNil))))))))))))
      (sSeq (sSet 4 (mBin gAddA (mName 4) (mLst (mCons (mExc0 "NotSpined") (mCons (mExc0 "NoSeen") (mCons (mExc0 "NoFit") (mCons (mExc0 "NothingDone") (mCons (mExc0 "NoCrew") (mCons (mExc0 "NotNow") (mCons (mExc0 "NoHand") (mCons (mExc0 "Full") (mCons (mExc0 "Clash") mNil))))))))))))
      (sSeq (sSet 4 (mBin gAddA (mName 4) (mLst (mCons (mExc0 "Tied") (mCons (mExc0 "NoText") mNil)))))
      (sSeq (sFor (mRng1 (mCons (mK (.int 26)) mNil)) (bName 6) (sSeq (sSet 7 (mBin gIxA (mName 4) (mName 6)))
        (sSeq (sSet 8 (mLst (mCons (mUn (gIsX LX (tbX "BadHome")) (mName 7)) (mCons (mUn (gIsX LX (tbX "NotBare")) (mName 7)) (mCons (mUn (gIsX LX (tbX "BadCrews")) (mName 7)) (mCons (mUn (gIsX LX (tbX "Busy")) (mName 7)) mNil))))))
        (sSeq (sSet 8 (mBin gAddA (mName 8) (mLst (mCons (mUn (gIsX LX (tbX "Closes")) (mName 7)) (mCons (mUn (gIsX LX (tbX "TooMany")) (mName 7)) (mCons (mUn (gIsX LX (tbX "NoLot")) (mName 7)) mNil))))))
        (sSeq (sSet 8 (mBin gAddA (mName 8) (mLst (mCons (mUn (gIsX LX (tbX "NoStanding")) (mName 7)) (mCons (mUn (gIsX LX (tbX "NoThing")) (mName 7)) (mCons (mUn (gIsX LX (tbX "NoThings")) (mName 7)) mNil))))))
        (sSeq (sSet 8 (mBin gAddA (mName 8) (mLst (mCons (mUn (gIsX LX (tbX "NoOrder")) (mName 7)) (mCons (mUn (gIsX LX (tbX "NoArrow")) (mName 7)) (mCons (mUn (gIsX LX (tbX "NoHands")) (mName 7)) mNil))))))
        (sSeq (sSet 8 (mBin gAddA (mName 8) (mLst (mCons (mUn (gIsX LX (tbX "NoNumber")) (mName 7)) (mCons (mUn (gIsX LX (tbX "NoTies")) (mName 7)) (mCons (mUn (gIsX LX (tbX "NotSpined")) (mName 7)) mNil))))))
        (sSeq (sSet 8 (mBin gAddA (mName 8) (mLst (mCons (mUn (gIsX LX (tbX "NoSeen")) (mName 7)) (mCons (mUn (gIsX LX (tbX "NoFit")) (mName 7)) (mCons (mUn (gIsX LX (tbX "NothingDone")) (mName 7)) mNil))))))
        (sSeq (sSet 8 (mBin gAddA (mName 8) (mLst (mCons (mUn (gIsX LX (tbX "NoCrew")) (mName 7)) (mCons (mUn (gIsX LX (tbX "NotNow")) (mName 7)) (mCons (mUn (gIsX LX (tbX "NoHand")) (mName 7)) mNil))))))
        (sSeq (sSet 8 (mBin gAddA (mName 8) (mLst (mCons (mUn (gIsX LX (tbX "Full")) (mName 7)) (mCons (mUn (gIsX LX (tbX "Clash")) (mName 7)) (mCons (mUn (gIsX LX (tbX "Tied")) (mName 7)) (mCons (mUn (gIsX LX (tbX "NoText")) (mName 7)) mNil)))))))
        (sIf (mOrB (mBl (mBin gNe (mMut "list" 8 (mCons (mK (.bl true)) mNil) gCnt) (mK (.int 1)))) (mOrB (mNotB (mTru (mBin gIxA (mName 8) (mName 6)))) (mOrB (mNotB (mTru (mUn (gIsX LX (tbX "TurnError")) (mName 7)))) (mNotB (mTru (mUn (gIsX LX (tbX "ValueError")) (mName 7))))))) (sRet (mK (.bl false))) sNx)))))))))))
      (sRet (mK (.bl true)))))))))))))
def G_law : Dn := runD false 9 den_law
end
end K00
-- K0
set_option maxHeartbeats 1000000
namespace K00
open PySem PySem.Spec PyProof.Rows L2 DL
def topS (i : Nat) : Stmt := PySem.Challenge.pw_turnedapart_k00_errors_and_their_fields.main.body.getD i (.Pass ⟨0, 0, 0, 0⟩)
def subS (i j : Nat) : Stmt := match topS i with | .ClassDef _ _ _ body _ _ _ _ _ _ _ => body.getD j (.Pass ⟨0, 0, 0, 0⟩) | s => s
abbrev s_BadHome___init__ : Stmt := subS 22 0
abbrev N_BadHome___init__ : List Str := ["self", "part"]
theorem sc_BadHome___init__ : FnScope N_BadHome___init__ ["self", "part"] (defScope s_BadHome___init__) := ⟨rfl, rfl, rfl, by decide +kernel, rfl, by decide +kernel, by decide +kernel⟩
abbrev s_NotBare___init__ : Stmt := subS 23 0
abbrev N_NotBare___init__ : List Str := ["self", "way"]
theorem sc_NotBare___init__ : FnScope N_NotBare___init__ ["self", "way"] (defScope s_NotBare___init__) := ⟨rfl, rfl, rfl, by decide +kernel, rfl, by decide +kernel, by decide +kernel⟩
abbrev s_BadCrews___init__ : Stmt := subS 24 0
abbrev N_BadCrews___init__ : List Str := ["self", "index"]
theorem sc_BadCrews___init__ : FnScope N_BadCrews___init__ ["self", "index"] (defScope s_BadCrews___init__) := ⟨rfl, rfl, rfl, by decide +kernel, rfl, by decide +kernel, by decide +kernel⟩
abbrev s_Busy___init__ : Stmt := subS 25 0
abbrev N_Busy___init__ : List Str := ["self", "who"]
theorem sc_Busy___init__ : FnScope N_Busy___init__ ["self", "who"] (defScope s_Busy___init__) := ⟨rfl, rfl, rfl, by decide +kernel, rfl, by decide +kernel, by decide +kernel⟩
abbrev s_Closes___init__ : Stmt := subS 26 0
abbrev N_Closes___init__ : List Str := ["self", "who"]
theorem sc_Closes___init__ : FnScope N_Closes___init__ ["self", "who"] (defScope s_Closes___init__) := ⟨rfl, rfl, rfl, by decide +kernel, rfl, by decide +kernel, by decide +kernel⟩
abbrev s_TooMany___init__ : Stmt := subS 27 0
abbrev N_TooMany___init__ : List Str := ["self", "most"]
theorem sc_TooMany___init__ : FnScope N_TooMany___init__ ["self", "most"] (defScope s_TooMany___init__) := ⟨rfl, rfl, rfl, by decide +kernel, rfl, by decide +kernel, by decide +kernel⟩
abbrev s__law_hand : Stmt := topS 29
abbrev N__law_hand : List Str := ["_law_script", "_law_cells", "_law_cell"]
theorem sc__law_hand : FnScope N__law_hand ["_law_script"] (defScope s__law_hand) := ⟨rfl, rfl, rfl, by decide +kernel, rfl, by decide +kernel, by decide +kernel⟩
abbrev s__law_draw : Stmt := topS 30
abbrev N__law_draw : List Str := ["_law_hand_here", "_law_many", "_law_number", "_law_cell", "_law_digit"]
theorem sc__law_draw : FnScope N__law_draw ["_law_hand_here", "_law_many"] (defScope s__law_draw) := ⟨rfl, rfl, rfl, by decide +kernel, rfl, by decide +kernel, by decide +kernel⟩
abbrev s__law_deep : Stmt := topS 31
abbrev N__law_deep : List Str := ["_law_hand_here", "_law_found", "_law_turn"]
theorem sc__law_deep : FnScope N__law_deep ["_law_hand_here"] (defScope s__law_deep) := ⟨rfl, rfl, rfl, by decide +kernel, rfl, by decide +kernel, by decide +kernel⟩
abbrev s_law : Stmt := topS 32
abbrev N_law : List Str := ["_law_script", "_law_hand_here", "_law_things", "_law_thing", "_law_made", "_law_kept", "_law_at", "_law_one", "_law_flags"]
theorem sc_law : FnScope N_law ["_law_script"] (defScope s_law) := ⟨rfl, rfl, rfl, by decide +kernel, rfl, by decide +kernel, by decide +kernel⟩
/-- what is known of the module -/
structure Tx (K : PySem.W.Frag) (mg : Str → Option Value) where
  f_BadHome___init__ : Addr
  fd_BadHome___init__ : FuncData
  F_BadHome___init__ : Fun K "__init__" "BadHome.__init__" s_BadHome___init__ f_BadHome___init__ fd_BadHome___init__
  b_BadHome___init__ : Binds K fd_BadHome___init__ ["self", "part"] []
  f_NotBare___init__ : Addr
  fd_NotBare___init__ : FuncData
  F_NotBare___init__ : Fun K "__init__" "NotBare.__init__" s_NotBare___init__ f_NotBare___init__ fd_NotBare___init__
  b_NotBare___init__ : Binds K fd_NotBare___init__ ["self", "way"] []
  f_BadCrews___init__ : Addr
  fd_BadCrews___init__ : FuncData
  F_BadCrews___init__ : Fun K "__init__" "BadCrews.__init__" s_BadCrews___init__ f_BadCrews___init__ fd_BadCrews___init__
  b_BadCrews___init__ : Binds K fd_BadCrews___init__ ["self", "index"] []
  f_Busy___init__ : Addr
  fd_Busy___init__ : FuncData
  F_Busy___init__ : Fun K "__init__" "Busy.__init__" s_Busy___init__ f_Busy___init__ fd_Busy___init__
  b_Busy___init__ : Binds K fd_Busy___init__ ["self", "who"] []
  f_Closes___init__ : Addr
  fd_Closes___init__ : FuncData
  F_Closes___init__ : Fun K "__init__" "Closes.__init__" s_Closes___init__ f_Closes___init__ fd_Closes___init__
  b_Closes___init__ : Binds K fd_Closes___init__ ["self", "who"] []
  f_TooMany___init__ : Addr
  fd_TooMany___init__ : FuncData
  F_TooMany___init__ : Fun K "__init__" "TooMany.__init__" s_TooMany___init__ f_TooMany___init__ fd_TooMany___init__
  b_TooMany___init__ : Binds K fd_TooMany___init__ ["self", "most"] []
  f__law_hand : Addr
  fd__law_hand : FuncData
  F__law_hand : Fun K "_law_hand" "_law_hand" s__law_hand f__law_hand fd__law_hand
  b__law_hand : Binds K fd__law_hand ["_law_script"] []
  g__law_hand : mg "_law_hand" = some (.ref f__law_hand)
  f__law_draw : Addr
  fd__law_draw : FuncData
  F__law_draw : Fun K "_law_draw" "_law_draw" s__law_draw f__law_draw fd__law_draw
  b__law_draw : Binds K fd__law_draw ["_law_hand_here", "_law_many"] []
  g__law_draw : mg "_law_draw" = some (.ref f__law_draw)
  f__law_deep : Addr
  fd__law_deep : FuncData
  F__law_deep : Fun K "_law_deep" "_law_deep" s__law_deep f__law_deep fd__law_deep
  b__law_deep : Binds K fd__law_deep ["_law_hand_here"] []
  g__law_deep : mg "_law_deep" = some (.ref f__law_deep)
  f_law : Addr
  fd_law : FuncData
  F_law : Fun K "law" "law" s_law f_law fd_law
  b_law : Binds K fd_law ["_law_script"] []
  g_law : mg "law" = some (.ref f_law)
  C_BadCrews : Addr
  g_BadCrews : mg "BadCrews" = some (.ref C_BadCrews)
  C_BadHome : Addr
  g_BadHome : mg "BadHome" = some (.ref C_BadHome)
  C_Busy : Addr
  g_Busy : mg "Busy" = some (.ref C_Busy)
  C_Clash : Addr
  g_Clash : mg "Clash" = some (.ref C_Clash)
  C_Closes : Addr
  g_Closes : mg "Closes" = some (.ref C_Closes)
  C_Full : Addr
  g_Full : mg "Full" = some (.ref C_Full)
  C_NoArrow : Addr
  g_NoArrow : mg "NoArrow" = some (.ref C_NoArrow)
  C_NoCrew : Addr
  g_NoCrew : mg "NoCrew" = some (.ref C_NoCrew)
  C_NoFit : Addr
  g_NoFit : mg "NoFit" = some (.ref C_NoFit)
  C_NoHand : Addr
  g_NoHand : mg "NoHand" = some (.ref C_NoHand)
  C_NoHands : Addr
  g_NoHands : mg "NoHands" = some (.ref C_NoHands)
  C_NoLot : Addr
  g_NoLot : mg "NoLot" = some (.ref C_NoLot)
  C_NoNumber : Addr
  g_NoNumber : mg "NoNumber" = some (.ref C_NoNumber)
  C_NoOrder : Addr
  g_NoOrder : mg "NoOrder" = some (.ref C_NoOrder)
  C_NoSeen : Addr
  g_NoSeen : mg "NoSeen" = some (.ref C_NoSeen)
  C_NoStanding : Addr
  g_NoStanding : mg "NoStanding" = some (.ref C_NoStanding)
  C_NoText : Addr
  g_NoText : mg "NoText" = some (.ref C_NoText)
  C_NoThing : Addr
  g_NoThing : mg "NoThing" = some (.ref C_NoThing)
  C_NoThings : Addr
  g_NoThings : mg "NoThings" = some (.ref C_NoThings)
  C_NoTies : Addr
  g_NoTies : mg "NoTies" = some (.ref C_NoTies)
  C_NotBare : Addr
  g_NotBare : mg "NotBare" = some (.ref C_NotBare)
  C_NotNow : Addr
  g_NotNow : mg "NotNow" = some (.ref C_NotNow)
  C_NotSpined : Addr
  g_NotSpined : mg "NotSpined" = some (.ref C_NotSpined)
  C_NothingDone : Addr
  g_NothingDone : mg "NothingDone" = some (.ref C_NothingDone)
  C_Tied : Addr
  g_Tied : mg "Tied" = some (.ref C_Tied)
  C_TooMany : Addr
  g_TooMany : mg "TooMany" = some (.ref C_TooMany)
  C_TurnError : Addr
  g_TurnError : mg "TurnError" = some (.ref C_TurnError)
  xi_Clash : PySem.W.excIn K C_Clash [.type "ValueError", .type "Exception", .type "BaseException", .type "object"] "ValueError.__new__" = true
  kp_Clash : PySem.W.keepIn K (.ref C_Clash) = true
  xi_Full : PySem.W.excIn K C_Full [.type "ValueError", .type "Exception", .type "BaseException", .type "object"] "ValueError.__new__" = true
  kp_Full : PySem.W.keepIn K (.ref C_Full) = true
  xi_NoArrow : PySem.W.excIn K C_NoArrow [.type "ValueError", .type "Exception", .type "BaseException", .type "object"] "ValueError.__new__" = true
  kp_NoArrow : PySem.W.keepIn K (.ref C_NoArrow) = true
  xi_NoCrew : PySem.W.excIn K C_NoCrew [.type "ValueError", .type "Exception", .type "BaseException", .type "object"] "ValueError.__new__" = true
  kp_NoCrew : PySem.W.keepIn K (.ref C_NoCrew) = true
  xi_NoFit : PySem.W.excIn K C_NoFit [.type "ValueError", .type "Exception", .type "BaseException", .type "object"] "ValueError.__new__" = true
  kp_NoFit : PySem.W.keepIn K (.ref C_NoFit) = true
  xi_NoHand : PySem.W.excIn K C_NoHand [.type "ValueError", .type "Exception", .type "BaseException", .type "object"] "ValueError.__new__" = true
  kp_NoHand : PySem.W.keepIn K (.ref C_NoHand) = true
  xi_NoHands : PySem.W.excIn K C_NoHands [.type "ValueError", .type "Exception", .type "BaseException", .type "object"] "ValueError.__new__" = true
  kp_NoHands : PySem.W.keepIn K (.ref C_NoHands) = true
  xi_NoLot : PySem.W.excIn K C_NoLot [.type "ValueError", .type "Exception", .type "BaseException", .type "object"] "ValueError.__new__" = true
  kp_NoLot : PySem.W.keepIn K (.ref C_NoLot) = true
  xi_NoNumber : PySem.W.excIn K C_NoNumber [.type "ValueError", .type "Exception", .type "BaseException", .type "object"] "ValueError.__new__" = true
  kp_NoNumber : PySem.W.keepIn K (.ref C_NoNumber) = true
  xi_NoOrder : PySem.W.excIn K C_NoOrder [.type "ValueError", .type "Exception", .type "BaseException", .type "object"] "ValueError.__new__" = true
  kp_NoOrder : PySem.W.keepIn K (.ref C_NoOrder) = true
  xi_NoSeen : PySem.W.excIn K C_NoSeen [.type "ValueError", .type "Exception", .type "BaseException", .type "object"] "ValueError.__new__" = true
  kp_NoSeen : PySem.W.keepIn K (.ref C_NoSeen) = true
  xi_NoStanding : PySem.W.excIn K C_NoStanding [.type "ValueError", .type "Exception", .type "BaseException", .type "object"] "ValueError.__new__" = true
  kp_NoStanding : PySem.W.keepIn K (.ref C_NoStanding) = true
  xi_NoText : PySem.W.excIn K C_NoText [.type "ValueError", .type "Exception", .type "BaseException", .type "object"] "ValueError.__new__" = true
  kp_NoText : PySem.W.keepIn K (.ref C_NoText) = true
  xi_NoThing : PySem.W.excIn K C_NoThing [.type "ValueError", .type "Exception", .type "BaseException", .type "object"] "ValueError.__new__" = true
  kp_NoThing : PySem.W.keepIn K (.ref C_NoThing) = true
  xi_NoThings : PySem.W.excIn K C_NoThings [.type "ValueError", .type "Exception", .type "BaseException", .type "object"] "ValueError.__new__" = true
  kp_NoThings : PySem.W.keepIn K (.ref C_NoThings) = true
  xi_NoTies : PySem.W.excIn K C_NoTies [.type "ValueError", .type "Exception", .type "BaseException", .type "object"] "ValueError.__new__" = true
  kp_NoTies : PySem.W.keepIn K (.ref C_NoTies) = true
  xi_NotNow : PySem.W.excIn K C_NotNow [.type "ValueError", .type "Exception", .type "BaseException", .type "object"] "ValueError.__new__" = true
  kp_NotNow : PySem.W.keepIn K (.ref C_NotNow) = true
  xi_NotSpined : PySem.W.excIn K C_NotSpined [.type "ValueError", .type "Exception", .type "BaseException", .type "object"] "ValueError.__new__" = true
  kp_NotSpined : PySem.W.keepIn K (.ref C_NotSpined) = true
  xi_NothingDone : PySem.W.excIn K C_NothingDone [.type "ValueError", .type "Exception", .type "BaseException", .type "object"] "ValueError.__new__" = true
  kp_NothingDone : PySem.W.keepIn K (.ref C_NothingDone) = true
  xi_Tied : PySem.W.excIn K C_Tied [.type "ValueError", .type "Exception", .type "BaseException", .type "object"] "ValueError.__new__" = true
  kp_Tied : PySem.W.keepIn K (.ref C_Tied) = true
  xo_BadCrews : OexC K C_BadCrews
  xn_BadCrews : PySem.W.findIn K (.ref C_BadCrews) "__init__" = some (some (.ref f_BadCrews___init__))
  xt_BadCrews : PySem.W.typeIn K (.ref f_BadCrews___init__) = some (.type "function")
  xh_BadCrews : PySem.W.findIn K (.ref C_BadCrews) "index" = some none
  xf_BadCrews : XfC K C_BadCrews
  xo_BadHome : OexC K C_BadHome
  xn_BadHome : PySem.W.findIn K (.ref C_BadHome) "__init__" = some (some (.ref f_BadHome___init__))
  xt_BadHome : PySem.W.typeIn K (.ref f_BadHome___init__) = some (.type "function")
  xh_BadHome : PySem.W.findIn K (.ref C_BadHome) "part" = some none
  xf_BadHome : XfC K C_BadHome
  xo_Busy : OexC K C_Busy
  xn_Busy : PySem.W.findIn K (.ref C_Busy) "__init__" = some (some (.ref f_Busy___init__))
  xt_Busy : PySem.W.typeIn K (.ref f_Busy___init__) = some (.type "function")
  xh_Busy : PySem.W.findIn K (.ref C_Busy) "who" = some none
  xf_Busy : XfC K C_Busy
  xo_Closes : OexC K C_Closes
  xn_Closes : PySem.W.findIn K (.ref C_Closes) "__init__" = some (some (.ref f_Closes___init__))
  xt_Closes : PySem.W.typeIn K (.ref f_Closes___init__) = some (.type "function")
  xh_Closes : PySem.W.findIn K (.ref C_Closes) "who" = some none
  xf_Closes : XfC K C_Closes
  xo_NotBare : OexC K C_NotBare
  xn_NotBare : PySem.W.findIn K (.ref C_NotBare) "__init__" = some (some (.ref f_NotBare___init__))
  xt_NotBare : PySem.W.typeIn K (.ref f_NotBare___init__) = some (.type "function")
  xh_NotBare : PySem.W.findIn K (.ref C_NotBare) "way" = some none
  xf_NotBare : XfC K C_NotBare
  xo_TooMany : OexC K C_TooMany
  xn_TooMany : PySem.W.findIn K (.ref C_TooMany) "__init__" = some (some (.ref f_TooMany___init__))
  xt_TooMany : PySem.W.typeIn K (.ref f_TooMany___init__) = some (.type "function")
  xh_TooMany : PySem.W.findIn K (.ref C_TooMany) "most" = some none
  xf_TooMany : XfC K C_TooMany
  is_BadHome : IsX K mg (.ref C_BadHome) LX (tbX "BadHome")
  is_NotBare : IsX K mg (.ref C_NotBare) LX (tbX "NotBare")
  is_BadCrews : IsX K mg (.ref C_BadCrews) LX (tbX "BadCrews")
  is_Busy : IsX K mg (.ref C_Busy) LX (tbX "Busy")
  is_Closes : IsX K mg (.ref C_Closes) LX (tbX "Closes")
  is_TooMany : IsX K mg (.ref C_TooMany) LX (tbX "TooMany")
  is_NoLot : IsX K mg (.ref C_NoLot) LX (tbX "NoLot")
  is_NoStanding : IsX K mg (.ref C_NoStanding) LX (tbX "NoStanding")
  is_NoThing : IsX K mg (.ref C_NoThing) LX (tbX "NoThing")
  is_NoThings : IsX K mg (.ref C_NoThings) LX (tbX "NoThings")
  is_NoOrder : IsX K mg (.ref C_NoOrder) LX (tbX "NoOrder")
  is_NoArrow : IsX K mg (.ref C_NoArrow) LX (tbX "NoArrow")
  is_NoHands : IsX K mg (.ref C_NoHands) LX (tbX "NoHands")
  is_NoNumber : IsX K mg (.ref C_NoNumber) LX (tbX "NoNumber")
  is_NoTies : IsX K mg (.ref C_NoTies) LX (tbX "NoTies")
  is_NotSpined : IsX K mg (.ref C_NotSpined) LX (tbX "NotSpined")
  is_NoSeen : IsX K mg (.ref C_NoSeen) LX (tbX "NoSeen")
  is_NoFit : IsX K mg (.ref C_NoFit) LX (tbX "NoFit")
  is_NothingDone : IsX K mg (.ref C_NothingDone) LX (tbX "NothingDone")
  is_NoCrew : IsX K mg (.ref C_NoCrew) LX (tbX "NoCrew")
  is_NotNow : IsX K mg (.ref C_NotNow) LX (tbX "NotNow")
  is_NoHand : IsX K mg (.ref C_NoHand) LX (tbX "NoHand")
  is_Full : IsX K mg (.ref C_Full) LX (tbX "Full")
  is_Clash : IsX K mg (.ref C_Clash) LX (tbX "Clash")
  is_Tied : IsX K mg (.ref C_Tied) LX (tbX "Tied")
  is_NoText : IsX K mg (.ref C_NoText) LX (tbX "NoText")
  is_TurnError : IsX K mg (.ref C_TurnError) LX (tbX "TurnError")
  is_ValueError : IsX K mg (.type "ValueError") LX (tbX "ValueError")
  z_ValueError : mg "ValueError" = none
  z_abs : mg "abs" = none
  z_any : mg "any" = none
  z_bool : mg "bool" = none
  z_int : mg "int" = none
  z_isinstance : mg "isinstance" = none
  z_len : mg "len" = none
  z_range : mg "range" = none
section
variable {P : Program} {w : World} {K : PySem.W.Frag} {mg : Str → Option Value} {base : Heap}
theorem ok_BadHome___init__ (T : Tx K mg) : FnOk P w K mg base (L2.CX P w) 1 T.f_BadHome___init__ T.fd_BadHome___init__ ["self", "part"] (spXI K "part") := okXI T.F_BadHome___init__ sc_BadHome___init__ fun cdv A outer s H E => pss_one (ps_ost (pe_var rfl (Or.inl rfl)) (pe_var rfl (Or.inl rfl)))
theorem ok_NotBare___init__ (T : Tx K mg) : FnOk P w K mg base (L2.CX P w) 1 T.f_NotBare___init__ T.fd_NotBare___init__ ["self", "way"] (spXI K "way") := okXI T.F_NotBare___init__ sc_NotBare___init__ fun cdv A outer s H E => pss_one (ps_ost (pe_var rfl (Or.inl rfl)) (pe_var rfl (Or.inl rfl)))
theorem ok_BadCrews___init__ (T : Tx K mg) : FnOk P w K mg base (L2.CX P w) 1 T.f_BadCrews___init__ T.fd_BadCrews___init__ ["self", "index"] (spXI K "index") := okXI T.F_BadCrews___init__ sc_BadCrews___init__ fun cdv A outer s H E => pss_one (ps_ost (pe_var rfl (Or.inl rfl)) (pe_var rfl (Or.inl rfl)))
theorem ok_Busy___init__ (T : Tx K mg) : FnOk P w K mg base (L2.CX P w) 1 T.f_Busy___init__ T.fd_Busy___init__ ["self", "who"] (spXI K "who") := okXI T.F_Busy___init__ sc_Busy___init__ fun cdv A outer s H E => pss_one (ps_ost (pe_var rfl (Or.inl rfl)) (pe_var rfl (Or.inl rfl)))
theorem ok_Closes___init__ (T : Tx K mg) : FnOk P w K mg base (L2.CX P w) 1 T.f_Closes___init__ T.fd_Closes___init__ ["self", "who"] (spXI K "who") := okXI T.F_Closes___init__ sc_Closes___init__ fun cdv A outer s H E => pss_one (ps_ost (pe_var rfl (Or.inl rfl)) (pe_var rfl (Or.inl rfl)))
theorem ok_TooMany___init__ (T : Tx K mg) : FnOk P w K mg base (L2.CX P w) 1 T.f_TooMany___init__ T.fd_TooMany___init__ ["self", "most"] (spXI K "most") := okXI T.F_TooMany___init__ sc_TooMany___init__ fun cdv A outer s H E => pss_one (ps_ost (pe_var rfl (Or.inl rfl)) (pe_var rfl (Or.inl rfl)))
theorem ok__law_hand (T : Tx K mg) : FnOk P w K mg base (L2.CX P w) 1 T.f__law_hand T.fd__law_hand ["_law_script"] (spD K mg false 1 G__law_hand) :=
  okD false T.F__law_hand sc__law_hand (by decide) (fun cdv A outer s H E hr => 
      (db_cons (s_setLc (i := 1) [("_law_cell", 2)] rfl sc__law_hand.nd rfl rfl (sw_true rfl rfl rfl (by decide +kernel)) (i_seq (d_sl (d_name 0) o_none (o_some d_int))) (blkOk_by (own := [("_law_cell", 2)]) (N := N__law_hand) (sc := defScope s__law_hand) (by decide +kernel)) (fun _ _ _ _ _ => (gw_name (i := 2) sc__law_hand.nd rfl (by first | exact Or.inl rfl | exact Or.inr rfl))) (fun _ _ _ _ _ => ts_nil) (fun _ _ _ _ _ => (d_callB call_abs absOk (by rfl) T.z_abs (by decide +kernel) (dp_cons (d_callTy call_int1 intOk (by rfl) T.z_int (by decide +kernel) (dp_cons (d_name 2) dp_nil)) dp_nil)))) 
      (db_one (s_ret (d_lst (da_cons (d_name 1) (da_cons d_int (da_cons d_int (da_cons (d_addA d_int (d_callB call_len_seq lenOk (by rfl) T.z_len PySem.boot_len (dp_cons (d_name 1) dp_nil))) (da_cons d_int da_nil))))))))))
theorem ok__law_draw (T : Tx K mg) : FnOk P w K mg base (L2.CX P w) 1 T.f__law_draw T.fd__law_draw ["_law_hand_here", "_law_many"] (spD K mg true 2 G__law_draw) :=
  okD true T.F__law_draw sc__law_draw (by decide) (fun cdv A outer s H E hr => 
      (db_cons (s_if (w_and (t_eq hr (d_ixA hr (d_name 0) d_int) d_int) (w_and1 (t_ltA hr (d_ixA hr (d_name 0) d_int) (d_callB call_len_seq lenOk (by rfl) T.z_len PySem.boot_len (dp_cons (d_ixA hr (d_name 0) d_int) dp_nil))))).dt 
        (db_cons (s_set (i := 3) (d_ixA hr (d_ixA hr (d_name 0) d_int) (d_ixA hr (d_name 0) d_int)) sc__law_draw.nd rfl (by first | exact Or.inl rfl | exact Or.inr rfl)) 
        (db_cons (s_putA (i := 0) hr (d_addA (d_ixA hr (d_name 0) d_int) d_int) d_int) 
        (db_cons (s_putA (i := 0) hr (d_mod (d_callTy call_int1 intOk (by rfl) T.z_int (by decide +kernel) (dp_cons (d_addA (d_addA (d_mulA (d_ixA hr (d_name 0) d_int) d_int) (d_name 3)) d_int) dp_nil)) d_int) d_int) 
        (db_one (s_if (t_ge (d_name 3) (d_pow d_int d_int)) 
          (db_one (s_putA (i := 0) hr (d_name 3) d_int)) db_nil))))) db_nil) 
      (db_cons (s_if (t_gtA hr (d_ixA hr (d_name 0) d_int) d_int) 
        (db_cons (s_set (i := 4) (d_mod (d_callTy call_int1 intOk (by rfl) T.z_int (by decide +kernel) (dp_cons (d_ixA hr (d_name 0) d_int) dp_nil)) (d_name 1)) sc__law_draw.nd rfl (by first | exact Or.inl rfl | exact Or.inr rfl)) 
        (db_cons (s_putA (i := 0) hr (d_div (d_ixA hr (d_name 0) d_int) (d_name 1)) d_int) 
        (db_one (s_ret (d_name 4))))) db_nil) 
      (db_cons (s_putA (i := 0) hr (d_addA (d_ixA hr (d_name 0) d_int) d_int) d_int) 
      (db_cons (s_set (i := 2) (d_mod (d_callTy call_int1 intOk (by rfl) T.z_int (by decide +kernel) (dp_cons (d_mulA (d_callTy call_int1 intOk (by rfl) T.z_int (by decide +kernel) (dp_cons (d_addA (d_ixA hr (d_name 0) d_int) (d_mulA d_int (d_ixA hr (d_name 0) d_int))) dp_nil)) d_int) dp_nil)) d_int) sc__law_draw.nd rfl (by first | exact Or.inl rfl | exact Or.inr rfl)) 
      (db_cons (s_set (i := 2) (d_mod (d_callTy call_int1 intOk (by rfl) T.z_int (by decide +kernel) (dp_cons (d_mulA (d_name 2) (d_addA (d_div (d_name 2) d_int) d_int)) dp_nil)) d_int) sc__law_draw.nd rfl (by first | exact Or.inl rfl | exact Or.inr rfl)) 
      (db_cons (s_set (i := 2) (d_mod (d_callTy call_int1 intOk (by rfl) T.z_int (by decide +kernel) (dp_cons (d_mulA (d_name 2) (d_addA (d_div (d_name 2) d_int) d_int)) dp_nil)) d_int) sc__law_draw.nd rfl (by first | exact Or.inl rfl | exact Or.inr rfl)) 
      (db_one (s_ret (d_mod (d_callTy call_int1 intOk (by rfl) T.z_int (by decide +kernel) (dp_cons (d_div (d_name 2) d_int) dp_nil)) (d_name 1)))))))))))
theorem ok__law_deep (T : Tx K mg) : FnOk P w K mg base (L2.CX P w) 2 T.f__law_deep T.fd__law_deep ["_law_hand_here"] (spD K mg true 1 G__law_deep) :=
  okD true T.F__law_deep sc__law_deep (by decide) (fun cdv A outer s H E hr => 
      (db_cons (s_set (i := 1) (d_ixA hr (d_lst (da_cons d_non (da_cons (d_tup da_nil) (da_cons d_int da_nil)))) (d_callL (i := 0) (k := 1) (ps := ["_law_hand_here", "_law_many"]) (G := G__law_draw) (f := T.f__law_draw) (fd := T.fd__law_draw) (ok__law_draw T) takesD (hr.mono (by decide)) (by rfl) T.g__law_draw T.F__law_draw.kp T.b__law_draw (da_cons d_int da_nil))) sc__law_deep.nd rfl (by first | exact Or.inl rfl | exact Or.inr rfl)) 
      (db_cons (s_for passesD rfl (i_rng1 (by rfl) T.z_range (da_cons (d_addA d_int (d_callL (i := 0) (k := 1) (ps := ["_law_hand_here", "_law_many"]) (G := G__law_draw) (f := T.f__law_draw) (fd := T.fd__law_draw) (ok__law_draw T) takesD (hr.mono (by decide)) (by rfl) T.g__law_draw T.F__law_draw.kp T.b__law_draw (da_cons d_int da_nil))) da_nil)) (g_name (i := 2) sc__law_deep.nd rfl (by first | exact Or.inl rfl | exact Or.inr rfl)) 
        (db_one (s_set (i := 1) (d_ixA hr (d_lst (da_cons (d_lst (da_cons (d_name 1) da_nil)) (da_cons (d_tup (da_cons (d_name 1) da_nil)) (da_cons (d_dict1 d_int (d_name 1)) da_nil)))) (d_callL (i := 0) (k := 1) (ps := ["_law_hand_here", "_law_many"]) (G := G__law_draw) (f := T.f__law_draw) (fd := T.fd__law_draw) (ok__law_draw T) takesD (hr.mono (by decide)) (by rfl) T.g__law_draw T.F__law_draw.kp T.b__law_draw (da_cons d_int da_nil))) sc__law_deep.nd rfl (by first | exact Or.inl rfl | exact Or.inr rfl)))) 
      (db_one (s_ret (d_name 1))))))
theorem ok_law (T : Tx K mg) : FnOk P w K mg base (L2.CX P w) 3 T.f_law T.fd_law ["_law_script"] (spD K mg false 1 G_law) :=
  okD false T.F_law sc_law (by decide) (fun cdv A outer s H E hr => 
      (db_cons (s_set (i := 1) (d_call (k := 1) (ps := ["_law_script"]) (G := G__law_hand) (f := T.f__law_hand) (fd := T.fd__law_hand) (ok__law_hand T) takesD (hr.mono (by decide)) (by rfl) T.g__law_hand T.F__law_hand.kp T.b__law_hand (da_cons (d_name 0) da_nil)) sc_law.nd rfl (by first | exact Or.inl rfl | exact Or.inr rfl)) 
      (db_cons (s_set (i := 2) (d_lst (da_cons d_int (da_cons (d_neg d_int) (da_cons d_bl (da_cons d_non (da_cons d_str (da_cons d_str (da_cons (d_tup (da_cons d_int (da_cons d_int da_nil))) (da_cons (d_lst (da_cons d_int da_nil)) (da_cons (d_dict1 d_str d_int) (da_cons (d_callL (i := 1) (k := 2) (ps := ["_law_hand_here"]) (G := G__law_deep) (f := T.f__law_deep) (fd := T.fd__law_deep) (ok__law_deep T) takesD (hr.mono (by decide)) (by rfl) T.g__law_deep T.F__law_deep.kp T.b__law_deep da_nil) (da_cons (d_pow d_int d_int) da_nil)))))))))))) sc_law.nd rfl (by first | exact Or.inl rfl | exact Or.inr rfl)) 
      (db_cons (s_set (i := 3) (d_ixA hr (d_name 2) (d_callL (i := 1) (k := 1) (ps := ["_law_hand_here", "_law_many"]) (G := G__law_draw) (f := T.f__law_draw) (fd := T.fd__law_draw) (ok__law_draw T) takesD (hr.mono (by decide)) (by rfl) T.g__law_draw T.F__law_draw.kp T.b__law_draw (da_cons d_int da_nil))) sc_law.nd rfl (by first | exact Or.inl rfl | exact Or.inr rfl)) 
      (db_cons (s_set (i := 4) (d_lst (da_cons (d_exc1 T.xo_BadHome T.xn_BadHome T.xt_BadHome T.xh_BadHome (ok_BadHome___init__ T) (hr.mono (by decide)) T.b_BadHome___init__ passF (by rfl) T.g_BadHome (da_cons (d_name 3) da_nil)) (da_cons (d_exc1 T.xo_NotBare T.xn_NotBare T.xt_NotBare T.xh_NotBare (ok_NotBare___init__ T) (hr.mono (by decide)) T.b_NotBare___init__ passF (by rfl) T.g_NotBare (da_cons (d_name 3) da_nil)) (da_cons (d_exc1 T.xo_BadCrews T.xn_BadCrews T.xt_BadCrews T.xh_BadCrews (ok_BadCrews___init__ T) (hr.mono (by decide)) T.b_BadCrews___init__ passF (by rfl) T.g_BadCrews (da_cons (d_name 3) da_nil)) (da_cons (d_exc1 T.xo_Busy T.xn_Busy T.xt_Busy T.xh_Busy (ok_Busy___init__ T) (hr.mono (by decide)) T.b_Busy___init__ passF (by rfl) T.g_Busy (da_cons (d_name 3) da_nil)) (da_cons (d_exc1 T.xo_Closes T.xn_Closes T.xt_Closes T.xh_Closes (ok_Closes___init__ T) (hr.mono (by decide)) T.b_Closes___init__ passF (by rfl) T.g_Closes (da_cons (d_name 3) da_nil)) (da_cons (d_exc1 T.xo_TooMany T.xn_TooMany T.xt_TooMany T.xh_TooMany (ok_TooMany___init__ T) (hr.mono (by decide)) T.b_TooMany___init__ passF (by rfl) T.g_TooMany (da_cons (d_name 3) da_nil)) da_nil))))))) sc_law.nd rfl (by first | exact Or.inl rfl | exact Or.inr rfl)) 
      (db_cons (s_set (i := 5) (d_lst (da_cons (d_xfV T.g_BadHome T.xf_BadHome T.xh_BadHome (d_ixA hr (d_name 4) d_int)) (da_cons (d_xfV T.g_NotBare T.xf_NotBare T.xh_NotBare (d_ixA hr (d_name 4) d_int)) (da_cons (d_xfV T.g_BadCrews T.xf_BadCrews T.xh_BadCrews (d_ixA hr (d_name 4) d_int)) (da_cons (d_xfV T.g_Busy T.xf_Busy T.xh_Busy (d_ixA hr (d_name 4) d_int)) (da_cons (d_xfV T.g_Closes T.xf_Closes T.xh_Closes (d_ixA hr (d_name 4) d_int)) (da_cons (d_xfV T.g_TooMany T.xf_TooMany T.xh_TooMany (d_ixA hr (d_name 4) d_int)) da_nil))))))) sc_law.nd rfl (by first | exact Or.inl rfl | exact Or.inr rfl)) 
      (db_cons (s_if (t_val (d_callB (cr_anyF rfl) (anyOk (all := false)) (by rfl) T.z_any (by decide +kernel) (dp_cons (d_lc [("_law_one", 7)] rfl sc_law.nd (i_seq (d_name 5)) (blkOk_by (own := [("_law_one", 7)]) (N := N_law) (sc := defScope s_law) (by decide +kernel)) (fun _ _ _ _ _ => (gw_name (i := 7) sc_law.nd rfl (by first | exact Or.inl rfl | exact Or.inr rfl))) (fun _ _ _ _ _ => ts_nil) (fun _ _ _ _ _ => (d_or' (d_ne hr (d_isi (T := "bool") (by decide) (by rfl) T.z_isinstance (by rfl) T.z_bool (by decide +kernel) (d_name 7)) (d_isi (T := "bool") (by decide) (by rfl) T.z_isinstance (by rfl) T.z_bool (by decide +kernel) (d_name 3))) (d_one (d_neW hr (d_name 7) (d_name 3)))))) dp_nil))) 
        (db_one (s_ret d_bl)) db_nil) 
      (db_cons (s_set (i := 4) (d_addA (d_name 4) (d_lst (da_cons (d_exc0 PySem.F.excBase_ValueError T.xi_NoLot T.g_NoLot T.kp_NoLot (by rfl)) (da_cons (d_exc0 PySem.F.excBase_ValueError T.xi_NoStanding T.g_NoStanding T.kp_NoStanding (by rfl)) (da_cons (d_exc0 PySem.F.excBase_ValueError T.xi_NoThing T.g_NoThing T.kp_NoThing (by rfl)) (da_cons (d_exc0 PySem.F.excBase_ValueError T.xi_NoThings T.g_NoThings T.kp_NoThings (by rfl)) (da_cons (d_exc0 PySem.F.excBase_ValueError T.xi_NoOrder T.g_NoOrder T.kp_NoOrder (by rfl)) (da_cons (d_exc0 PySem.F.excBase_ValueError T.xi_NoArrow T.g_NoArrow T.kp_NoArrow (by rfl)) (da_cons (d_exc0 PySem.F.excBase_ValueError T.xi_NoHands T.g_NoHands T.kp_NoHands (by rfl)) (da_cons (d_exc0 PySem.F.excBase_ValueError T.xi_NoNumber T.g_NoNumber T.kp_NoNumber (by rfl)) (da_cons (d_exc0 PySem.F.excBase_ValueError T.xi_NoTies T.g_NoTies T.kp_NoTies (by rfl)) da_nil))))))))))) sc_law.nd rfl (by first | exact Or.inl rfl | exact Or.inr rfl)) 
      (db_cons (s_set (i := 4) (d_addA (d_name 4) (d_lst (da_cons (d_exc0 PySem.F.excBase_ValueError T.xi_NotSpined T.g_NotSpined T.kp_NotSpined (by rfl)) (da_cons (d_exc0 PySem.F.excBase_ValueError T.xi_NoSeen T.g_NoSeen T.kp_NoSeen (by rfl)) (da_cons (d_exc0 PySem.F.excBase_ValueError T.xi_NoFit T.g_NoFit T.kp_NoFit (by rfl)) (da_cons (d_exc0 PySem.F.excBase_ValueError T.xi_NothingDone T.g_NothingDone T.kp_NothingDone (by rfl)) (da_cons (d_exc0 PySem.F.excBase_ValueError T.xi_NoCrew T.g_NoCrew T.kp_NoCrew (by rfl)) (da_cons (d_exc0 PySem.F.excBase_ValueError T.xi_NotNow T.g_NotNow T.kp_NotNow (by rfl)) (da_cons (d_exc0 PySem.F.excBase_ValueError T.xi_NoHand T.g_NoHand T.kp_NoHand (by rfl)) (da_cons (d_exc0 PySem.F.excBase_ValueError T.xi_Full T.g_Full T.kp_Full (by rfl)) (da_cons (d_exc0 PySem.F.excBase_ValueError T.xi_Clash T.g_Clash T.kp_Clash (by rfl)) da_nil))))))))))) sc_law.nd rfl (by first | exact Or.inl rfl | exact Or.inr rfl)) 
      (db_cons (s_set (i := 4) (d_addA (d_name 4) (d_lst (da_cons (d_exc0 PySem.F.excBase_ValueError T.xi_Tied T.g_Tied T.kp_Tied (by rfl)) (da_cons (d_exc0 PySem.F.excBase_ValueError T.xi_NoText T.g_NoText T.kp_NoText (by rfl)) da_nil)))) sc_law.nd rfl (by first | exact Or.inl rfl | exact Or.inr rfl)) 
      (db_cons (s_for passesD rfl (i_rng1 (by rfl) T.z_range (da_cons d_int da_nil)) (g_name (i := 6) sc_law.nd rfl (by first | exact Or.inl rfl | exact Or.inr rfl)) 
        (db_cons (s_set (i := 7) (d_ixA hr (d_name 4) (d_name 6)) sc_law.nd rfl (by first | exact Or.inl rfl | exact Or.inr rfl)) 
        (db_cons (s_set (i := 8) (d_lst (da_cons (d_isX T.is_BadHome (by rfl) T.z_isinstance (by rfl) T.g_BadHome (d_name 7)) (da_cons (d_isX T.is_NotBare (by rfl) T.z_isinstance (by rfl) T.g_NotBare (d_name 7)) (da_cons (d_isX T.is_BadCrews (by rfl) T.z_isinstance (by rfl) T.g_BadCrews (d_name 7)) (da_cons (d_isX T.is_Busy (by rfl) T.z_isinstance (by rfl) T.g_Busy (d_name 7)) da_nil))))) sc_law.nd rfl (by first | exact Or.inl rfl | exact Or.inr rfl)) 
        (db_cons (s_set (i := 8) (d_addA (d_name 8) (d_lst (da_cons (d_isX T.is_Closes (by rfl) T.z_isinstance (by rfl) T.g_Closes (d_name 7)) (da_cons (d_isX T.is_TooMany (by rfl) T.z_isinstance (by rfl) T.g_TooMany (d_name 7)) (da_cons (d_isX T.is_NoLot (by rfl) T.z_isinstance (by rfl) T.g_NoLot (d_name 7)) da_nil))))) sc_law.nd rfl (by first | exact Or.inl rfl | exact Or.inr rfl)) 
        (db_cons (s_set (i := 8) (d_addA (d_name 8) (d_lst (da_cons (d_isX T.is_NoStanding (by rfl) T.z_isinstance (by rfl) T.g_NoStanding (d_name 7)) (da_cons (d_isX T.is_NoThing (by rfl) T.z_isinstance (by rfl) T.g_NoThing (d_name 7)) (da_cons (d_isX T.is_NoThings (by rfl) T.z_isinstance (by rfl) T.g_NoThings (d_name 7)) da_nil))))) sc_law.nd rfl (by first | exact Or.inl rfl | exact Or.inr rfl)) 
        (db_cons (s_set (i := 8) (d_addA (d_name 8) (d_lst (da_cons (d_isX T.is_NoOrder (by rfl) T.z_isinstance (by rfl) T.g_NoOrder (d_name 7)) (da_cons (d_isX T.is_NoArrow (by rfl) T.z_isinstance (by rfl) T.g_NoArrow (d_name 7)) (da_cons (d_isX T.is_NoHands (by rfl) T.z_isinstance (by rfl) T.g_NoHands (d_name 7)) da_nil))))) sc_law.nd rfl (by first | exact Or.inl rfl | exact Or.inr rfl)) 
        (db_cons (s_set (i := 8) (d_addA (d_name 8) (d_lst (da_cons (d_isX T.is_NoNumber (by rfl) T.z_isinstance (by rfl) T.g_NoNumber (d_name 7)) (da_cons (d_isX T.is_NoTies (by rfl) T.z_isinstance (by rfl) T.g_NoTies (d_name 7)) (da_cons (d_isX T.is_NotSpined (by rfl) T.z_isinstance (by rfl) T.g_NotSpined (d_name 7)) da_nil))))) sc_law.nd rfl (by first | exact Or.inl rfl | exact Or.inr rfl)) 
        (db_cons (s_set (i := 8) (d_addA (d_name 8) (d_lst (da_cons (d_isX T.is_NoSeen (by rfl) T.z_isinstance (by rfl) T.g_NoSeen (d_name 7)) (da_cons (d_isX T.is_NoFit (by rfl) T.z_isinstance (by rfl) T.g_NoFit (d_name 7)) (da_cons (d_isX T.is_NothingDone (by rfl) T.z_isinstance (by rfl) T.g_NothingDone (d_name 7)) da_nil))))) sc_law.nd rfl (by first | exact Or.inl rfl | exact Or.inr rfl)) 
        (db_cons (s_set (i := 8) (d_addA (d_name 8) (d_lst (da_cons (d_isX T.is_NoCrew (by rfl) T.z_isinstance (by rfl) T.g_NoCrew (d_name 7)) (da_cons (d_isX T.is_NotNow (by rfl) T.z_isinstance (by rfl) T.g_NotNow (d_name 7)) (da_cons (d_isX T.is_NoHand (by rfl) T.z_isinstance (by rfl) T.g_NoHand (d_name 7)) da_nil))))) sc_law.nd rfl (by first | exact Or.inl rfl | exact Or.inr rfl)) 
        (db_cons (s_set (i := 8) (d_addA (d_name 8) (d_lst (da_cons (d_isX T.is_Full (by rfl) T.z_isinstance (by rfl) T.g_Full (d_name 7)) (da_cons (d_isX T.is_Clash (by rfl) T.z_isinstance (by rfl) T.g_Clash (d_name 7)) (da_cons (d_isX T.is_Tied (by rfl) T.z_isinstance (by rfl) T.g_Tied (d_name 7)) (da_cons (d_isX T.is_NoText (by rfl) T.z_isinstance (by rfl) T.g_NoText (d_name 7)) da_nil)))))) sc_law.nd rfl (by first | exact Or.inl rfl | exact Or.inr rfl)) 
        (db_one (s_if (w_or (t_ne hr (d_cnt (i := 8) (da_cons d_bl da_nil)) d_int) (w_or (t_not (t_val (d_ixA hr (d_name 8) (d_name 6)))) (w_or (t_not (t_val (d_isX T.is_TurnError (by rfl) T.z_isinstance (by rfl) T.g_TurnError (d_name 7)))) (w_or1 (t_not (t_val (d_isXB T.is_ValueError (by rfl) T.z_isinstance (by rfl) T.z_ValueError (by decide +kernel) (d_name 7)))))))).dt 
          (db_one (s_ret d_bl)) db_nil)))))))))))) 
      (db_one (s_ret d_bl)))))))))))))
end
end K00
-- DQ
namespace DL
open PySem PySem.Spec PyProof.Rows L2
section
variable {α β : Type} {E E1 E2 : En} {f fa fb fc fi fv : M R} {g : D → D → Option R} {i j n : Nat} {d d0 : D} {r ra rb : R} {x : Xn} {a : α} {G : Dn}
@[irreducible] def un1 (g : D → Option R) (r : Rs R) : Rs R := match r with | .ok r E => (match pk r E with | some a => mOut (g a) E | none => .no) | .ex x E => .ex x E | .no => .no
@[irreducible] def un2 (g : D → Option R) (a : Option D) (E : En) : Rs R := match a with | some a => mOut (g a) E | none => .no
@[irreducible] def bin1 (g : D → D → Option R) (fb : M R) (r : Rs R) : Rs R := match r with | .ok ra E => M.bnd fb (fun rb => fun E => match pk ra E, pk rb E with | some a, some b => mOut (g a b) E | _, _ => .no) E | .ex x E => .ex x E | .no => .no
@[irreducible] def bin2 (g : D → D → Option R) (ra : R) (r : Rs R) : Rs R := match r with | .ok rb E => (match pk ra E, pk rb E with | some a, some b => mOut (g a b) E | _, _ => .no) | .ex x E => .ex x E | .no => .no
@[irreducible] def bin3 (g : D → D → Option R) (a b : Option D) (E : En) : Rs R := match a, b with | some a, some b => mOut (g a b) E | _, _ => .no
theorem q_ret : M.ret a E = .ok a E := rfl
theorem q_mK : mK d E = .ok (.fz d) E := rfl
@[irreducible] def nm (s : Option Sl) (i : Nat) (E : En) : Rs R := match s with | some (.fr d) => .ok (.fz d) E | some (.ow _) => .ok (.sl i) E | _ => .no
theorem q_name : mName i E = nm E[i]? i E := by unfold mName nm; rfl
theorem q_nm1 : nm (some (.fr d)) i E = .ok (.fz d) E := by unfold nm; rfl
theorem q_nm2 : nm (some (.ow d)) i E = .ok (.sl i) E := by unfold nm; rfl
@[irreducible] def pkS (s : Option Sl) : Option D := match s with | some (.fr d) => some d | some (.ow d) => some d | _ => none
theorem q_pk1 : pk (.fz d) E = some d := rfl
theorem q_pk2 : pk (.fs d) E = some d := rfl
theorem q_pk3 : pk (.sl i) E = pkS E[i]? := by unfold pkS pk; rfl
theorem q_pkS1 : pkS (some (.fr d)) = some d := by unfold pkS; rfl
theorem q_pkS2 : pkS (some (.ow d)) = some d := by unfold pkS; rfl
@[irreducible] def tkS (s : Option Sl) (i : Nat) (E : En) : Rs D := match s with | some (.fr d) => .ok d E | some (.ow d) => .ok d (E.set i (.fr d)) | _ => .no
theorem q_take1 : take (.fz d) E = .ok d E := rfl
theorem q_take2 : take (.fs d) E = .ok d E := rfl
theorem q_take3 : take (.sl i) E = tkS E[i]? i E := by unfold tkS take; rfl
theorem q_tkS1 : tkS (some (.fr d)) i E = .ok d E := by unfold tkS; rfl
theorem q_tkS2 : tkS (some (.ow d)) i E = .ok d (E.set i (.fr d)) := by unfold tkS; rfl
theorem q_out : mOut (some r) E = .ok r E := rfl
theorem q_un {g : D → Option R} : mUn g fa E = un1 g (fa E) := by unfold un1 mUn M.bnd; dsimp only; cases fa E <;> rfl
theorem q_un1 {g : D → Option R} : un1 g (.ok r E) = un2 g (pk r E) E := by unfold un1 un2; rfl
theorem q_un2 {g : D → Option R} : un2 g (some d) E = mOut (g d) E := by unfold un2; rfl
theorem q_bin : mBin g fa fb E = bin1 g fb (fa E) := by unfold bin1 mBin M.bnd; dsimp only; cases fa E <;> rfl
theorem q_bin1 : bin1 g fb (.ok ra E) = bin2 g ra (fb E) := by unfold bin1 bin2 M.bnd; dsimp only; cases fb E <;> rfl
theorem q_bin2 : bin2 g ra (.ok rb E) = bin3 g (pk ra E) (pk rb E) E := by unfold bin2 bin3; rfl
theorem q_bin3 : bin3 g (some d0) (some d) E = mOut (g d0 d) E := by unfold bin3; rfl
@[irreducible] def bl1 (r : Rs R) : Rs Bool := match r with | .ok (.fz (.bl b)) E => .ok b E | .ok _ _ => .no | .ex x E => .ex x E | .no => .no
theorem q_bl : mBl f E = bl1 (f E) := by
  unfold bl1 mBl M.bnd
  cases f E with
  | ok r E1 => cases r with
    | fz d => cases d <;> rfl
    | _ => rfl
  | _ => rfl
theorem q_bl1 {b : Bool} : bl1 (.ok (.fz (.bl b)) E) = .ok b E := by unfold bl1; rfl
@[irreducible] def tr1 (r : Rs R) : Rs Bool := match r with | .ok r E => (match (pk r E).bind truD with | some b => .ok b E | none => .no) | .ex x E => .ex x E | .no => .no
@[irreducible] def tr2 (r : Option D) (E : En) : Rs Bool := match r.bind truD with | some b => .ok b E | none => .no
@[irreducible] def tr3 (r : Option Bool) (E : En) : Rs Bool := match r with | some b => .ok b E | none => .no
theorem q_tru : mTru f E = tr1 (f E) := by unfold tr1 mTru M.bnd; dsimp only; cases f E <;> rfl
theorem q_tr1 : tr1 (.ok r E) = tr2 (pk r E) E := by unfold tr1 tr2; rfl
theorem q_tr2 : tr2 (some d) E = tr3 (truD d) E := by unfold tr2 tr3; rfl
theorem q_tr3 {b : Bool} : tr3 (some b) E = .ok b E := by unfold tr3; rfl
variable {p q : M Bool} {b : Bool}
@[irreducible] def and1 (q : M Bool) (r : Rs Bool) : Rs Bool := match r with | .ok true E => q E | .ok false E => .ok false E | .ex x E => .ex x E | .no => .no
theorem q_and : mAndB p q E = and1 q (p E) := by
  unfold and1 mAndB M.bnd
  cases p E with
  | ok b E1 => cases b <;> rfl
  | _ => rfl
theorem q_and1 : and1 q (.ok true E) = q E := by unfold and1; rfl
theorem q_and2 : and1 q (.ok false E) = .ok false E := by unfold and1; rfl
@[irreducible] def or1 (q : M Bool) (r : Rs Bool) : Rs Bool := match r with | .ok false E => q E | .ok true E => .ok true E | .ex x E => .ex x E | .no => .no
theorem q_or : mOrB p q E = or1 q (p E) := by
  unfold or1 mOrB M.bnd
  cases p E with
  | ok b E1 => cases b <;> rfl
  | _ => rfl
theorem q_or1 : or1 q (.ok false E) = q E := by unfold or1; rfl
theorem q_or2 : or1 q (.ok true E) = .ok true E := by unfold or1; rfl
@[irreducible] def not1 (r : Rs Bool) : Rs Bool := match r with | .ok b E => .ok (!b) E | .ex x E => .ex x E | .no => .no
theorem q_not : mNotB p E = not1 (p E) := by unfold not1 mNotB M.bnd; dsimp only; cases p E <;> rfl
theorem q_not1 : not1 (.ok b E) = .ok (!b) E := by unfold not1; rfl
@[irreducible] def ite1 {α : Type} (g h : M α) (r : Rs Bool) : Rs α := match r with | .ok true E => g E | .ok false E => h E | .ex x E => .ex x E | .no => .no
theorem q_if {g h : M R} : mIf p g h E = ite1 g h (p E) := by
  unfold ite1 mIf M.bnd
  cases p E with
  | ok b E1 => cases b <;> rfl
  | _ => rfl
theorem q_ite1 {g h : M α} : ite1 g h (.ok true E) = g E := by unfold ite1; rfl
theorem q_ite2 {g h : M α} : ite1 g h (.ok false E) = h E := by unfold ite1; rfl
theorem q_andV : mAndV fa fb E = ite1 fb (mK (.bl false)) (bl1 (fa E)) := by
  rw [← q_bl]
  unfold ite1 mAndV M.bnd
  cases mBl fa E with
  | ok b E1 => cases b <;> rfl
  | _ => rfl
theorem q_orV : mOrV fa fb E = ite1 (mK (.bl true)) fb (bl1 (fa E)) := by
  rw [← q_bl]
  unfold ite1 mOrV M.bnd
  cases mBl fa E with
  | ok b E1 => cases b <;> rfl
  | _ => rfl
@[irreducible] def notV1 (r : Rs Bool) : Rs R := match r with | .ok b E => .ok (.fz (.bl (!b))) E | .ex x E => .ex x E | .no => .no
theorem q_notV : mNotV fa E = notV1 (bl1 (fa E)) := by
  rw [← q_bl]
  unfold notV1 mNotV M.bnd
  cases mBl fa E <;> rfl
theorem q_notV1 : notV1 (.ok b E) = .ok (.fz (.bl (!b))) E := by unfold notV1; rfl
@[irreducible] def chain1 (g g' : D → D → Option R) (fb fc : M R) (r : Rs R) : Rs R := match r with
  | .ok ra E => M.bnd fb (fun rb => fun E => match pk ra E, pk rb E with
    | some x, some y => (match g x y with
      | some (.fz (.bl true)) => M.bnd fc (fun rc => fun E' => match pk rb E', pk rc E' with
        | some y', some z => mOut (g' y' z) E'
        | _, _ => .no) E
      | some (.fz (.bl false)) => .ok (.fz (.bl false)) E
      | _ => .no)
    | _, _ => .no) E
  | .ex x E => .ex x E | .no => .no
theorem q_chain {g' : D → D → Option R} : mChain g g' fa fb fc E = chain1 g g' fb fc (fa E) := by unfold chain1 mChain M.bnd; dsimp only; cases fa E <;> rfl
@[irreducible] def chain2 (g g' : D → D → Option R) (ra : R) (fc : M R) (r : Rs R) : Rs R := match r with
  | .ok rb E => (match pk ra E, pk rb E with
    | some x, some y => (match g x y with
      | some (.fz (.bl true)) => M.bnd fc (fun rc => fun E' => match pk rb E', pk rc E' with
        | some y', some z => mOut (g' y' z) E'
        | _, _ => .no) E
      | some (.fz (.bl false)) => .ok (.fz (.bl false)) E
      | _ => .no)
    | _, _ => .no)
  | .ex x E => .ex x E | .no => .no
theorem q_chain1 {g' : D → D → Option R} : chain1 g g' fb fc (.ok ra E) = chain2 g g' ra fc (fb E) := by unfold chain1 chain2 M.bnd; dsimp only; cases fb E <;> rfl
@[irreducible] def chain3 (g g' : D → D → Option R) (a b : Option D) (rb : R) (fc : M R) (E : En) : Rs R := match a, b with
    | some x, some y => (match g x y with
      | some (.fz (.bl true)) => M.bnd fc (fun rc => fun E' => match pk rb E', pk rc E' with
        | some y', some z => mOut (g' y' z) E'
        | _, _ => .no) E
      | some (.fz (.bl false)) => .ok (.fz (.bl false)) E
      | _ => .no)
    | _, _ => .no
theorem q_chain2 {g' : D → D → Option R} : chain2 g g' ra fc (.ok rb E) = chain3 g g' (pk ra E) (pk rb E) rb fc E := by unfold chain2 chain3; rfl
@[irreducible] def chain4 (g' : D → D → Option R) (z : Option R) (rb : R) (fc : M R) (E : En) : Rs R := match z with
      | some (.fz (.bl true)) => M.bnd fc (fun rc => fun E' => match pk rb E', pk rc E' with
        | some y', some z => mOut (g' y' z) E'
        | _, _ => .no) E
      | some (.fz (.bl false)) => .ok (.fz (.bl false)) E
      | _ => .no
theorem q_chain3 {g' : D → D → Option R} : chain3 g g' (some d0) (some d) rb fc E = chain4 g' (g d0 d) rb fc E := by unfold chain3 chain4; rfl
theorem q_chain4 {g' : D → D → Option R} : chain4 g' (some (.fz (.bl true))) rb fc E = bin2 g' rb (fc E) := by unfold chain4 bin2 M.bnd; dsimp only; cases fc E <;> rfl
theorem q_chain5 {g' : D → D → Option R} : chain4 g' (some (.fz (.bl false))) rb fc E = .ok (.fz (.bl false)) E := by unfold chain4; rfl
variable {fs gs : M (List D)} {ds : List D} {rs : List R} {ps : M (List R)}
theorem q_nil : mNil E = .ok [] E := rfl
@[irreducible] def cons1 (g : M (List D)) (r : Rs R) : Rs (List D) := match r with | .ok r E => M.bnd (take r) (fun d => M.bnd g fun ds => M.ret (d :: ds)) E | .ex x E => .ex x E | .no => .no
@[irreducible] def cons2 (g : M (List D)) (r : Rs D) : Rs (List D) := match r with | .ok d E => M.bnd g (fun ds => M.ret (d :: ds)) E | .ex x E => .ex x E | .no => .no
@[irreducible] def cons3 (d : D) (r : Rs (List D)) : Rs (List D) := match r with | .ok ds E => .ok (d :: ds) E | .ex x E => .ex x E | .no => .no
theorem q_cons : mCons f gs E = cons1 gs (f E) := by unfold cons1 mCons M.bnd; dsimp only; cases f E <;> rfl
theorem q_cons1 : cons1 gs (.ok r E) = cons2 gs (take r E) := by unfold cons1 cons2 M.bnd; dsimp only; cases take r E <;> rfl
theorem q_cons2 : cons2 gs (.ok d E) = cons3 d (gs E) := by unfold cons2 cons3 M.bnd; dsimp only; cases gs E <;> rfl
theorem q_cons3 : cons3 d (.ok ds E) = .ok (d :: ds) E := by unfold cons3; rfl
@[irreducible] def tup1 (r : Rs (List D)) : Rs R := match r with | .ok ds E => if ds.length ≤ 100000 then .ok (.fz (.tup ds)) E else .no | .ex x E => .ex x E | .no => .no
theorem q_tup : mTup fs E = tup1 (fs E) := by
  unfold tup1 mTup M.bnd
  cases fs E with
  | ok ds E1 => by_cases h : ds.length ≤ 100000 <;> simp only [h, if_true, if_false] <;> rfl
  | _ => rfl
theorem q_tup1 (h : ds.length ≤ 100000) : tup1 (.ok ds E) = .ok (.fz (.tup ds)) E := by unfold tup1; simp only [if_pos h]
@[irreducible] def lst1 (r : Rs (List D)) : Rs R := match r with | .ok ds E => if ds.length ≤ 100000 then .ok (.fs (.lst ds)) E else .no | .ex x E => .ex x E | .no => .no
theorem q_lst : mLst fs E = lst1 (fs E) := by
  unfold lst1 mLst M.bnd
  cases fs E with
  | ok ds E1 => by_cases h : ds.length ≤ 100000 <;> simp only [h, if_true, if_false] <;> rfl
  | _ => rfl
theorem q_lst1 (h : ds.length ≤ 100000) : lst1 (.ok ds E) = .ok (.fs (.lst ds)) E := by unfold lst1; simp only [if_pos h]
theorem q_pnil : pNil E = .ok [] E := rfl
@[irreducible] def pc1 (g : M (List R)) (r : Rs R) : Rs (List R) := match r with | .ok r E => M.bnd g (fun rs => M.ret (r :: rs)) E | .ex x E => .ex x E | .no => .no
@[irreducible] def pc2 (d : R) (r : Rs (List R)) : Rs (List R) := match r with | .ok ds E => .ok (d :: ds) E | .ex x E => .ex x E | .no => .no
theorem q_pcons : pCons f ps E = pc1 ps (f E) := by unfold pc1 pCons M.bnd; dsimp only; cases f E <;> rfl
theorem q_pc1 : pc1 ps (.ok r E) = pc2 r (ps E) := by unfold pc1 pc2 M.bnd; dsimp only; cases ps E <;> rfl
theorem q_pc2 : pc2 r (.ok rs E) = .ok (r :: rs) E := by unfold pc2; rfl
@[irreducible] def rd1 (g : List D → Option R) (r : Rs (List R)) : Rs R := match r with | .ok rs E => (match pks rs E with | some ds => mOut (g ds) E | none => .no) | .ex x E => .ex x E | .no => .no
@[irreducible] def rd2 (g : List D → Option R) (r : Option (List D)) (E : En) : Rs R := match r with | some ds => mOut (g ds) E | none => .no
@[irreducible] def pk2 (a : Option D) (b : Option (List D)) : Option (List D) := match a, b with | some d, some ds => some (d :: ds) | _, _ => none
theorem q_rd {g : List D → Option R} : mRd g ps E = rd1 g (ps E) := by unfold rd1 mRd M.bnd; dsimp only; cases ps E <;> rfl
theorem q_rd1 {g : List D → Option R} : rd1 g (.ok rs E) = rd2 g (pks rs E) E := by unfold rd1 rd2; rfl
theorem q_rd2 {g : List D → Option R} : rd2 g (some ds) E = mOut (g ds) E := by unfold rd2; rfl
theorem q_pks0 : pks [] E = some [] := rfl
theorem q_pks1 : pks (r :: rs) E = pk2 (pk r E) (pks rs E) := by unfold pk2; rw [pks] <;> rfl
theorem q_pk2' : pk2 (some d) (some ds) = some (d :: ds) := by unfold pk2; rfl
variable {lo hi : M (Option Int)} {l h : Option Int}
@[irreducible] def part1 (r : Rs R) : Rs (Option Int) := match r with | .ok r E => (match pk r E with | some (.int i) => .ok (some i) E | _ => .no) | .ex x E => .ex x E | .no => .no
@[irreducible] def part2 (r : Option D) (E : En) : Rs (Option Int) := match r with | some (.int i) => .ok (some i) E | _ => .no
theorem q_part : mPart f E = part1 (f E) := by unfold part1 mPart M.bnd; dsimp only; cases f E <;> rfl
theorem q_part1 : part1 (.ok r E) = part2 (pk r E) E := by unfold part1 part2; rfl
theorem q_part2 {k : Int} : part2 (some (.int k)) E = .ok (some k) E := by unfold part2; rfl
@[irreducible] def sl1 (lo hi : M (Option Int)) (r : Rs R) : Rs R := match r with | .ok r E => M.bnd lo (fun l => M.bnd hi fun h => fun E => match pk r E with | some d => mOut (gSl d l h) E | none => .no) E | .ex x E => .ex x E | .no => .no
@[irreducible] def sl2 (r : R) (hi : M (Option Int)) (l : Rs (Option Int)) : Rs R := match l with | .ok l E => M.bnd hi (fun h => fun E => match pk r E with | some d => mOut (gSl d l h) E | none => .no) E | .ex x E => .ex x E | .no => .no
@[irreducible] def sl3 (r : R) (l : Option Int) (h : Rs (Option Int)) : Rs R := match h with | .ok h E => (match pk r E with | some d => mOut (gSl d l h) E | none => .no) | .ex x E => .ex x E | .no => .no
@[irreducible] def sl4 (d : Option D) (l h : Option Int) (E : En) : Rs R := match d with | some d => mOut (gSl d l h) E | none => .no
theorem q_sl : mSl f lo hi E = DL.sl1 lo hi (f E) := by unfold DL.sl1 mSl M.bnd; dsimp only; cases f E <;> rfl
theorem q_sl1 : DL.sl1 lo hi (.ok r E) = DL.sl2 r hi (lo E) := by unfold DL.sl1 DL.sl2 M.bnd; dsimp only; cases lo E <;> rfl
theorem q_sl2 : DL.sl2 r hi (.ok l E) = DL.sl3 r l (hi E) := by unfold DL.sl2 DL.sl3 M.bnd; dsimp only; cases hi E <;> rfl
theorem q_sl3 : DL.sl3 r l (.ok h E) = DL.sl4 (pk r E) l h E := by unfold DL.sl3 DL.sl4; rfl
theorem q_sl4 : DL.sl4 (some d) l h E = mOut (gSl d l h) E := by unfold DL.sl4; rfl
end
end DL
-- DR
namespace DL
open PySem PySem.Spec PyProof.Rows L2
section
variable {α β : Type} {E E1 E2 : En} {f fa fb fc fi fv : M R} {g : D → D → Option R} {i j n : Nat} {d d0 c c' : D} {r ra rb : R} {x : Xn} {a : α} {G : Dn} {s s' : M Fl} {p : M Bool} {b : Bool}
@[irreducible] def seq1 (s : M Fl) (r : Rs Fl) : Rs Fl := match r with | .ok .nx E => s E | .ok .bk E => .ok .bk E | .ok .ct E => .ok .ct E | .ok (.rt r) E => .ok (.rt r) E | .ex x E => .ex x E | .no => .no
theorem q_seq : sSeq s s' E = seq1 s' (s E) := by
  unfold seq1 sSeq
  cases s E with
  | ok fl E1 => cases fl <;> rfl
  | _ => rfl
theorem q_seq1 : seq1 s (.ok .nx E) = s E := by unfold seq1; rfl
theorem q_seq2 : seq1 s (.ok .bk E) = .ok .bk E := by unfold seq1; rfl
theorem q_seq3 : seq1 s (.ok .ct E) = .ok .ct E := by unfold seq1; rfl
theorem q_seq4 : seq1 s (.ok (.rt r) E) = .ok (.rt r) E := by unfold seq1; rfl
theorem q_seq5 : seq1 s (.ex x E) = .ex x E := by unfold seq1; rfl
theorem q_nx : sNx E = .ok .nx E := rfl
@[irreducible] def drop1 (r : Rs R) : Rs Fl := match r with | .ok _ E => .ok .nx E | .ex x E => .ex x E | .no => .no
theorem q_drop : sDrop f E = drop1 (f E) := by unfold drop1 sDrop M.bnd; cases f E <;> rfl
theorem q_drop1 : drop1 (.ok r E) = .ok .nx E := by unfold drop1; rfl
theorem q_drop2 : drop1 (.ex x E) = .ex x E := by unfold drop1; rfl
@[irreducible] def ret1 (r : Rs R) : Rs Fl := match r with | .ok r E => .ok (.rt r) E | .ex x E => .ex x E | .no => .no
theorem q_sret : sRet f E = ret1 (f E) := by unfold ret1 sRet M.bnd; cases f E <;> rfl
theorem q_ret1 : ret1 (.ok r E) = .ok (.rt r) E := by unfold ret1; rfl
theorem q_ret2 : ret1 (.ex x E) = .ex x E := by unfold ret1; rfl
theorem q_sif : sIf p s s' E = ite1 s s' (p E) := by
  unfold ite1 sIf M.bnd
  cases p E with
  | ok b E1 => cases b <;> rfl
  | _ => rfl
@[irreducible] def set1 (i : Nat) (r : Rs R) : Rs Fl := match r with | .ok r E => stSl i r E | .ex x E => .ex x E | .no => .no
theorem q_set : sSet i f E = set1 i (f E) := by unfold set1 sSet M.bnd; cases f E <;> rfl
theorem q_set1 (h : i < E.length) : set1 i (.ok (.fz d) E) = .ok .nx (E.set i (.fr d)) := by unfold set1 stSl; simp only [if_pos h]
theorem q_set2 (h : i < E.length) (h0 : i ≠ 0) : set1 i (.ok (.fs d) E) = .ok .nx (E.set i (.ow d)) := by unfold set1 stSl; simp only [if_pos h, if_neg h0]
@[irreducible] def set3 (i : Nat) (r : Rs D) : Rs Fl := match r with | .ok d E => .ok .nx (E.set i (.fr d)) | .ex x E => .ex x E | .no => .no
theorem q_set3 (h : i < E.length) : set1 i (.ok (.sl j) E) = set3 i (tkS E[j]? j E) := by
  rw [← q_take3]
  unfold set1 stSl set3 M.bnd
  simp only [if_pos h]
  cases take (.sl j) E <;> rfl
theorem q_set4 : set3 i (.ok d E) = .ok .nx (E.set i (.fr d)) := by unfold set3; rfl
theorem q_set5 : set1 i (.ex x E) = .ex x E := by unfold set1; rfl
@[irreducible] def put1 (i : Nat) (fi : M R) (r : Rs R) : Rs Fl := match r with
  | .ok r E => M.bnd (take r) (fun d => fun E => if isOw i E = true then M.bnd fi (fun rk => fun E1 => match E1[i]?, pk rk E1 with
    | some (.ow c), some k => (match putL c k d with
      | some c' => .ok .nx (E1.set i (.ow c'))
      | none => .no)
    | _, _ => .no) E else .no) E
  | .ex x E => .ex x E | .no => .no
@[irreducible] def put2 (i : Nat) (fi : M R) (r : Rs D) : Rs Fl := match r with
  | .ok d E => if isOw i E = true then M.bnd fi (fun rk => fun E1 => match E1[i]?, pk rk E1 with
    | some (.ow c), some k => (match putL c k d with
      | some c' => .ok .nx (E1.set i (.ow c'))
      | none => .no)
    | _, _ => .no) E else .no
  | .ex x E => .ex x E | .no => .no
@[irreducible] def put3 (i : Nat) (d : D) (r : Rs R) : Rs Fl := match r with
  | .ok rk E1 => (match E1[i]?, pk rk E1 with
    | some (.ow c), some k => (match putL c k d with
      | some c' => .ok .nx (E1.set i (.ow c'))
      | none => .no)
    | _, _ => .no)
  | .ex x E => .ex x E | .no => .no
@[irreducible] def put4 (i : Nat) (d : D) (s : Option Sl) (k : Option D) (E1 : En) : Rs Fl := match s, k with
    | some (.ow c), some k => (match putL c k d with
      | some c' => .ok .nx (E1.set i (.ow c'))
      | none => .no)
    | _, _ => .no
@[irreducible] def put5 (i : Nat) (c : Option D) (E1 : En) : Rs Fl := match c with
      | some c' => .ok .nx (E1.set i (.ow c'))
      | none => .no
theorem q_put : sPut i fv fi E = put1 i fi (fv E) := by unfold put1 sPut M.bnd; cases fv E <;> rfl
theorem q_put1 : put1 i fi (.ok r E) = put2 i fi (take r E) := by unfold put1 put2 M.bnd; dsimp only; cases take r E <;> rfl
@[irreducible] def put2b (i : Nat) (d : D) (fi : M R) (s : Option Sl) (E : En) : Rs Fl := match s with
  | some (.ow _) => put3 i d (fi E)
  | _ => .no
theorem q_put2 : put2 i fi (.ok d E) = put2b i d fi E[i]? E := by
  by_cases hw : isOw i E = true
  · obtain ⟨c, hc⟩ := isOw_some hw
    unfold put2 put2b
    simp only [if_pos hw, hc]
    unfold put3 M.bnd
    cases fi E <;> rfl
  · unfold put2 put2b
    simp only [if_neg hw]
    split
    · rename_i c hc
      exact absurd (by unfold isOw; rw [hc]) hw
    · rfl
theorem q_put2b : put2b i d fi (some (.ow c)) E = put3 i d (fi E) := by unfold put2b; rfl
theorem q_put3 : put3 i d (.ok r E) = put4 i d E[i]? (pk r E) E := by unfold put3 put4; rfl
theorem q_put4 {k : D} : put4 i d (some (.ow c)) (some k) E = put5 i (putL c k d) E := by unfold put4 put5; rfl
theorem q_put5 : put5 i (some c) E = .ok .nx (E.set i (.ow c)) := by unfold put5; rfl
@[irreducible] def lf1 (b : Option En) : Rs Fl := match b with | some E => .ok .nx E | none => .no
theorem q_lf {b : B} : lf b E = lf1 (b E) := by unfold lf lf1; rfl
theorem q_lf1 : lf1 (some E) = .ok .nx E := by unfold lf1; rfl
@[irreducible] def asg1 (g : D → B) (r : Rs R) : Rs Fl := match r with | .ok r E => M.bnd (take r) (fun d => lf (g d)) E | .ex x E => .ex x E | .no => .no
@[irreducible] def asg2 (g : D → B) (r : Rs D) : Rs Fl := match r with | .ok d E => lf1 (g d E) | .ex x E => .ex x E | .no => .no
theorem q_asg {g : D → B} : sAsg f g E = asg1 g (f E) := by unfold asg1 sAsg M.bnd; cases f E <;> rfl
theorem q_asg1 {g : D → B} : asg1 g (.ok r E) = asg2 g (take r E) := by
  unfold asg1 asg2 M.bnd
  dsimp only
  cases take r E with
  | ok d E1 => exact q_lf
  | _ => rfl
theorem q_asg2 {g : D → B} : asg2 g (.ok d E) = lf1 (g d E) := by unfold asg2; rfl
theorem q_bname (h : i < E.length) : bName i d E = some (E.set i (.fr d)) := by unfold bName; rw [if_pos h]
theorem q_btup {f : List D → B} {ds : List D} (h : ds.length = n) : bTup n f (.tup ds) E = f ds E := by unfold bTup; simp only [if_pos h]
@[irreducible] def bc1 (g : List D → B) (ds : List D) (b : Option En) : Option En := b.bind (g ds)
theorem q_bcons {f : D → B} {g : List D → B} {ds : List D} : bCons f g (d :: ds) E = bc1 g ds (f d E) := by unfold bCons bc1; rfl
theorem q_bc1 {g : List D → B} {ds : List D} : bc1 g ds (some E) = g ds E := by unfold bc1; rfl
theorem q_bnil : bNil [] E = some E := rfl
@[irreducible] def aug1 (i : Nat) (g : D → D → Option R) (f : M R) (s : Option Sl) (E : En) : Rs Fl := match s with
  | some (.fr d0) => M.bnd f (fun r => fun E1 => match pk r E1 with
    | some d => (match g d0 d with
      | some (.fz z) => if i < E1.length then .ok .nx (E1.set i (.fr z)) else .no
      | _ => .no)
    | none => .no) E
  | _ => .no
@[irreducible] def aug2 (i : Nat) (g : D → D → Option R) (d0 : D) (r : Rs R) : Rs Fl := match r with
  | .ok r E1 => (match pk r E1 with
    | some d => (match g d0 d with
      | some (.fz z) => if i < E1.length then .ok .nx (E1.set i (.fr z)) else .no
      | _ => .no)
    | none => .no)
  | .ex x E => .ex x E | .no => .no
@[irreducible] def aug3 (i : Nat) (g : D → D → Option R) (d0 : D) (d : Option D) (E1 : En) : Rs Fl := match d with
    | some d => (match g d0 d with
      | some (.fz z) => if i < E1.length then .ok .nx (E1.set i (.fr z)) else .no
      | _ => .no)
    | none => .no
theorem q_aug : sAug i g f E = aug1 i g f E[i]? E := by unfold sAug aug1; rfl
theorem q_aug1 : aug1 i g f (some (.fr d0)) E = aug2 i g d0 (f E) := by unfold aug1 aug2 M.bnd; dsimp only; cases f E <;> rfl
theorem q_aug2 : aug2 i g d0 (.ok r E) = aug3 i g d0 (pk r E) E := by unfold aug2 aug3; rfl
theorem q_aug3 {z : D} (h : g d0 d = some (.fz z)) (hl : i < E.length) : aug3 i g d0 (some d) E = .ok .nx (E.set i (.fr z)) := by unfold aug3; simp only [h, if_pos hl]
variable {T : String} {fs : M (List D)} {ds : List D} {gm : D → List D → Option (D × D)}
@[irreducible] def mut1 (T : String) (i : Nat) (f : M (List D)) (g : D → List D → Option (D × D)) (s : Option Sl) (E : En) : Rs R := match s with
  | some (.ow c) => if isL T c = true then M.bnd f (fun ds => fun E1 => match E1[i]? with
    | some (.ow c1) => (match g c1 ds with
      | some (c2, v) => .ok (.fz v) (E1.set i (.ow c2))
      | none => .no)
    | _ => .no) E else .no
  | _ => .no
@[irreducible] def mut2 (i : Nat) (g : D → List D → Option (D × D)) (r : Rs (List D)) : Rs R := match r with
  | .ok ds E1 => (match E1[i]? with
    | some (.ow c1) => (match g c1 ds with
      | some (c2, v) => .ok (.fz v) (E1.set i (.ow c2))
      | none => .no)
    | _ => .no)
  | .ex x E => .ex x E | .no => .no
@[irreducible] def mut3 (i : Nat) (g : D → List D → Option (D × D)) (ds : List D) (s : Option Sl) (E1 : En) : Rs R := match s with
    | some (.ow c1) => (match g c1 ds with
      | some (c2, v) => .ok (.fz v) (E1.set i (.ow c2))
      | none => .no)
    | _ => .no
@[irreducible] def mut4 (i : Nat) (z : Option (D × D)) (E1 : En) : Rs R := match z with
      | some (c2, v) => .ok (.fz v) (E1.set i (.ow c2))
      | none => .no
theorem q_mut : mMut T i fs gm E = mut1 T i fs gm E[i]? E := by unfold mMut mut1; rfl
theorem q_mut1 (h : isL T c = true) : mut1 T i fs gm (some (.ow c)) E = mut2 i gm (fs E) := by
  unfold mut1 mut2 M.bnd
  simp only [if_pos h]
  cases fs E <;> rfl
theorem q_mut2 : mut2 i gm (.ok ds E) = mut3 i gm ds E[i]? E := by unfold mut2 mut3; rfl
theorem q_mut3 : mut3 i gm ds (some (.ow c)) E = mut4 i (gm c ds) E := by unfold mut3 mut4; rfl
theorem q_mut4 {v : D} : mut4 i (some (c, v)) E = .ok (.fz v) (E.set i (.ow c)) := by unfold mut4; rfl
theorem q_isL {xs : List D} : isL "list" (.lst xs) = true := rfl
theorem q_app {xs : List D} (h : xs.length < 100000) : gApp (.lst xs) [d] = some (.lst (xs ++ [d]), .non) := by simp only [gApp, if_pos h]
theorem q_ext {xs ys : List D} (h : xs.length + ys.length ≤ 100000) : gExt (.lst xs) [.lst ys] = some (.lst (xs ++ ys), .non) := by simp only [gExt, if_pos h]
theorem q_pop1 {xs : List D} {k : Nat} (h : xs[k]? = some d) (hl : k < 100000) : gPop (.lst xs) [.int (k : Int)] = some (.lst (xs.eraseIdx k), d) := by
  have e : ((k : Int)).toNat = k := rfl
  have h0 : (0 : Int) ≤ (k : Int) := by omega
  have h1 : (k : Int) < 100000 := by omega
  simp only [gPop, if_pos h0, e, h, if_pos h1]
theorem q_pop0 {xs : List D} : gPop (.lst (xs ++ [d])) [] = some (.lst xs, d) := by
  unfold gPop
  simp
@[irreducible] def call1 (G : Dn) (r : Rs (List D)) : Rs R := match r with | .ok ds E => (match G ds with | .ret b d _ => .ok (rOf b d) E | .exc x _ => .ex x E | .no => .no) | .ex x E => .ex x E | .no => .no
@[irreducible] def call2 (r : Rt) (E : En) : Rs R := match r with | .ret b d _ => .ok (rOf b d) E | .exc x _ => .ex x E | .no => .no
theorem q_call : mCall G fs E = call1 G (fs E) := by unfold call1 mCall M.bnd; cases fs E <;> rfl
theorem q_call1 : call1 G (.ok ds E) = call2 (G ds) E := by unfold call1 call2; rfl
theorem q_call2 {o : D} : call2 (.ret false d o) E = .ok (.fz d) E := by unfold call2; rfl
theorem q_call3 {o : D} : call2 (.ret true d o) E = .ok (.fs d) E := by unfold call2; rfl
theorem q_call4 {o : D} : call2 (.exc x o) E = .ex x E := by unfold call2; rfl
@[irreducible] def na1 (n : Nat) (r : Rs (List D)) : Rs (List D) := match r with | .ok ds E => if ds.length = n then .ok ds E else .no | .ex x E => .ex x E | .no => .no
theorem q_na : nArgs n fs E = na1 n (fs E) := by
  unfold na1 nArgs M.bnd
  cases fs E with
  | ok ds E1 => by_cases h : ds.length = n <;> simp only [h, if_true, if_false] <;> rfl
  | _ => rfl
theorem q_na1 (h : ds.length = n) : na1 n (.ok ds E) = .ok ds E := by unfold na1; simp only [if_pos h]
@[irreducible] def cl1 (i n : Nat) (G : Dn) (f : M (List D)) (s : Option Sl) (E : En) : Rs R := match s with
  | some (.ow _) => M.bnd f (fun ds => fun E1 => match E1[i]? with
    | some (.ow c) => if ds.length + 1 = n then (match G (c :: ds) with
      | .ret b d o => .ok (rOf b d) (E1.set i (.ow o))
      | .exc x o => .ex x (E1.set i (.ow o))
      | .no => .no) else .no
    | _ => .no) E
  | _ => .no
@[irreducible] def cl2 (i n : Nat) (G : Dn) (r : Rs (List D)) : Rs R := match r with
  | .ok ds E1 => (match E1[i]? with
    | some (.ow c) => if ds.length + 1 = n then (match G (c :: ds) with
      | .ret b d o => .ok (rOf b d) (E1.set i (.ow o))
      | .exc x o => .ex x (E1.set i (.ow o))
      | .no => .no) else .no
    | _ => .no)
  | .ex x E => .ex x E | .no => .no
@[irreducible] def cl3 (i n : Nat) (G : Dn) (ds : List D) (s : Option Sl) (E1 : En) : Rs R := match s with
    | some (.ow c) => if ds.length + 1 = n then (match G (c :: ds) with
      | .ret b d o => .ok (rOf b d) (E1.set i (.ow o))
      | .exc x o => .ex x (E1.set i (.ow o))
      | .no => .no) else .no
    | _ => .no
@[irreducible] def cl4 (i : Nat) (r : Rt) (E1 : En) : Rs R := match r with
      | .ret b d o => .ok (rOf b d) (E1.set i (.ow o))
      | .exc x o => .ex x (E1.set i (.ow o))
      | .no => .no
theorem q_cl : mCallL i n G fs E = cl1 i n G fs E[i]? E := by
  unfold mCallL cl1 isOw
  cases h : E[i]? with
  | none => simp
  | some s => cases s <;> simp <;> rfl
theorem q_cl1 : cl1 i n G fs (some (.ow c)) E = cl2 i n G (fs E) := by unfold cl1 cl2 M.bnd; dsimp only; cases fs E <;> rfl
theorem q_cl2 : cl2 i n G (.ok ds E) = cl3 i n G ds E[i]? E := by unfold cl2 cl3; rfl
theorem q_cl3 (h : ds.length + 1 = n) : cl3 i n G ds (some (.ow c)) E = cl4 i (G (c :: ds)) E := by unfold cl3 cl4; simp only [if_pos h]
theorem q_cl4 {o : D} : cl4 i (.ret false d o) E = .ok (.fz d) (E.set i (.ow o)) := by unfold cl4; rfl
theorem q_cl5 {o : D} : cl4 i (.ret true d o) E = .ok (.fs d) (E.set i (.ow o)) := by unfold cl4; rfl
theorem q_cl6 {o : D} : cl4 i (.exc x o) E = .ex x (E.set i (.ow o)) := by unfold cl4; rfl
@[irreducible] def run1 (l : Bool) (r : Rs Fl) : Rt := match r with
  | .ok .nx E => (match lentO l E with
    | some o => .ret false .non o
    | none => .no)
  | .ok (.rt r) E => (match lentO l E with
    | some o => (match r with
      | .fz d => .ret false d o
      | .fs d => .ret true d o
      | .sl i => if l = true ∧ i = 0 then .no else (match E[i]? with
        | some (.fr d) => .ret false d o
        | some (.ow d) => .ret true d o
        | _ => .no))
    | none => .no)
  | .ex x E => (match lentO l E with
    | some o => .exc x o
    | none => .no)
  | _ => .no
theorem q_run {l : Bool} : runD l n s ds = run1 l (s (enter l n ds)) := by
  unfold runD run1
  cases s (enter l n ds) with
  | ok fl E1 => cases fl <;> rfl
  | _ => rfl
@[irreducible] def run2 (r : Rs Fl) (o : Option D) : Rt := match r, o with
  | .ok .nx E, some o => .ret false .non o
  | .ok (.rt (.fz d)) E, some o => .ret false d o
  | .ok (.rt (.fs d)) E, some o => .ret true d o
  | .ok (.rt (.sl i)) E, some o => (match E[i]? with
        | some (.fr d) => .ret false d o
        | some (.ow d) => .ret true d o
        | _ => .no)
  | .ex x E, some o => .exc x o
  | _, _ => .no
theorem q_runF1 : run1 false (.ok .nx E) = .ret false .non .non := by unfold run1 lentO; rfl
theorem q_runF2 : run1 false (.ok (.rt (.fz d)) E) = .ret false d .non := by unfold run1 lentO; rfl
theorem q_runF3 : run1 false (.ok (.rt (.fs d)) E) = .ret true d .non := by unfold run1 lentO; rfl
@[irreducible] def run3 (s : Option Sl) (o : D) : Rt := match s with
        | some (.fr d) => .ret false d o
        | some (.ow d) => .ret true d o
        | _ => .no
theorem q_runF4 : run1 false (.ok (.rt (.sl i)) E) = run3 E[i]? .non := by unfold run1 lentO run3; simp
theorem q_runF5 : run1 false (.ex x E) = .exc x .non := by unfold run1 lentO; rfl
theorem q_run3a {o : D} : run3 (some (.fr d)) o = .ret false d o := by unfold run3; rfl
theorem q_run3b {o : D} : run3 (some (.ow d)) o = .ret true d o := by unfold run3; rfl
@[irreducible] def rtN (s : Option Sl) : Rt := match s with | some (.ow c) => .ret false .non c | _ => .no
@[irreducible] def rtZ (b : Bool) (d : D) (s : Option Sl) : Rt := match s with | some (.ow c) => .ret b d c | _ => .no
@[irreducible] def rtX (x : Xn) (s : Option Sl) : Rt := match s with | some (.ow c) => .exc x c | _ => .no
@[irreducible] def rtL (s t : Option Sl) : Rt := match s with | some (.ow c) => run3 t c | _ => .no
theorem q_runT1 : run1 true (.ok .nx E) = rtN E[(0 : Nat)]? := by
  unfold run1 rtN lentO
  simp only [if_true]
  cases E[(0 : Nat)]? with
  | none => rfl
  | some s => cases s <;> rfl
theorem q_runT2 : run1 true (.ok (.rt (.fz d)) E) = rtZ false d E[(0 : Nat)]? := by
  unfold run1 rtZ lentO
  simp only [if_true]
  cases E[(0 : Nat)]? with
  | none => rfl
  | some s => cases s <;> rfl
theorem q_runT3 : run1 true (.ok (.rt (.fs d)) E) = rtZ true d E[(0 : Nat)]? := by
  unfold run1 rtZ lentO
  simp only [if_true]
  cases E[(0 : Nat)]? with
  | none => rfl
  | some s => cases s <;> rfl
theorem q_runT4 (hi : i ≠ 0) : run1 true (.ok (.rt (.sl i)) E) = rtL E[(0 : Nat)]? E[i]? := by
  unfold run1 rtL run3 lentO
  simp only [if_true, if_neg (show ¬ (True ∧ i = 0) from fun z => hi z.2)]
  cases E[(0 : Nat)]? with
  | none => rfl
  | some s => cases s <;> rfl
theorem q_runT5 : run1 true (.ex x E) = rtX x E[(0 : Nat)]? := by
  unfold run1 rtX lentO
  simp only [if_true]
  cases E[(0 : Nat)]? with
  | none => rfl
  | some s => cases s <;> rfl
theorem q_rtN : rtN (some (.ow c)) = .ret false .non c := by unfold rtN; rfl
theorem q_rtZ : rtZ b d (some (.ow c)) = .ret b d c := by unfold rtZ; rfl
theorem q_rtX : rtX x (some (.ow c)) = .exc x c := by unfold rtX; rfl
theorem q_rtL {t : Option Sl} : rtL (some (.ow c)) t = run3 t c := by unfold rtL; rfl
theorem q_enterF {ds : List D} : enter false n ds = ds.map .fr ++ List.replicate (n - ds.length) .un := by unfold enter sl0; rfl
theorem q_enterT {ds : List D} : enter true n (c :: ds) = .ow c :: (ds.map .fr ++ List.replicate (n - (ds.length + 1)) .un) := by unfold enter sl0; rfl
end
theorem w_ixN (n k : Nat) (h : k < n) : ixN n (k : Int) = some k := by unfold ixN; rw [if_pos (by omega), if_pos (by omega)]; rfl
theorem w_ix (ds : List D) (k : Nat) : gIx (.lst ds) (.int (k : Int)) = (ds[k]?).map .fz := by
  simp only [gIx, atI, ixN]
  by_cases h : (k : Int) < (ds.length : Int)
  · rw [if_pos (by omega), if_pos h]; rfl
  · rw [if_pos (by omega), if_neg h, List.getElem?_eq_none (by omega)]; rfl
theorem w_ixT (ds : List D) (k : Nat) : gIx (.tup ds) (.int (k : Int)) = (ds[k]?).map .fz := by
  simp only [gIx, atI, ixN]
  by_cases h : (k : Int) < (ds.length : Int)
  · rw [if_pos (by omega), if_pos h]; rfl
  · rw [if_pos (by omega), if_neg h, List.getElem?_eq_none (by omega)]; rfl
theorem w_put (ds : List D) (k : Nat) (d : D) (h : k < ds.length) : putL (.lst ds) (.int (k : Int)) d = some (.lst (ds.set k d)) := by
  simp only [putL, w_ixN _ _ h, Option.map_some]
theorem eqD_int (a b : Int) : eqD (.int a) (.int b) = some (a == b) := by
  simp [eqD, toP, SeqAt.shaped, PyData.canLay0, PyData.depth, PyData.eqv]
theorem w_eq (a b : Int) : gEq (.int a) (.int b) = some (.fz (.bl (a == b))) := by simp only [gEq, eqD_int, Option.map_some]
theorem w_ne (a b : Int) : gNe (.int a) (.int b) = some (.fz (.bl (!(a == b)))) := by simp only [gNe, eqD_int, Option.map_some]
theorem w_lt (a b : Int) : gLt (.int a) (.int b) = some (.fz (.bl (decide (a < b)))) := rfl
theorem w_le (a b : Int) : gLe (.int a) (.int b) = some (.fz (.bl (decide (a ≤ b)))) := rfl
theorem w_gt (a b : Int) : gGt (.int a) (.int b) = some (.fz (.bl (decide (b < a)))) := rfl
theorem w_ge (a b : Int) : gGe (.int a) (.int b) = some (.fz (.bl (decide (b ≤ a)))) := rfl
theorem w_add (a b : Int) : gAdd (.int a) (.int b) = some (.fz (.int (a + b))) := rfl
theorem w_sub (a b : Int) : gSub (.int a) (.int b) = some (.fz (.int (a - b))) := by simp [gSub, gI]
theorem w_mul (a b : Int) (h : (-(2 ^ 64) < a ∧ a < 2 ^ 64) ∨ (-(2 ^ 64) < b ∧ b < 2 ^ 64)) : gMul (.int a) (.int b) = some (.fz (.int (a * b))) := by simp only [gMul, if_pos h]
theorem w_mod (a b : Int) (h : 0 < b) : gMod (.int a) (.int b) = some (.fz (.int (a % b))) := by simp only [gMod, gI, decide_eq_true h, if_true]
theorem w_div (a b : Int) (h : 0 < b) (h2 : b < 1073741824) : gDiv (.int a) (.int b) = some (.fz (.int (a / b))) := by simp only [gDiv, gI, decide_eq_true (show 0 < b ∧ b < 1073741824 from ⟨h, h2⟩), if_true]
theorem w_len (ds : List D) : gLen [.lst ds] = some (.fz (.int ds.length)) := rfl
theorem w_lenT (ds : List D) : gLen [.tup ds] = some (.fz (.int ds.length)) := rfl
theorem w_int (a : Int) : gInt [.int a] = some (.fz (.int a)) := rfl
theorem w_intb (b : Bool) : gInt [.bl b] = some (.fz (.int (if b then 1 else 0))) := rfl
theorem w_ixL (ds : List D) (k : Nat) : gIx (.lst ds) (.int (no_index (OfNat.ofNat k))) = (ds[(OfNat.ofNat k : Nat)]?).map .fz := w_ix ds k
theorem w_ixTL (ds : List D) (k : Nat) : gIx (.tup ds) (.int (no_index (OfNat.ofNat k))) = (ds[(OfNat.ofNat k : Nat)]?).map .fz := w_ixT ds k
theorem w_put_0 (ds : List D) (d : D) (h : 0 < ds.length) : putL (.lst ds) (.int 0) d = some (.lst (ds.set 0 d)) := w_put ds 0 d h
theorem w_put_1 (ds : List D) (d : D) (h : 1 < ds.length) : putL (.lst ds) (.int 1) d = some (.lst (ds.set 1 d)) := w_put ds 1 d h
theorem w_put_2 (ds : List D) (d : D) (h : 2 < ds.length) : putL (.lst ds) (.int 2) d = some (.lst (ds.set 2 d)) := w_put ds 2 d h
theorem w_put_3 (ds : List D) (d : D) (h : 3 < ds.length) : putL (.lst ds) (.int 3) d = some (.lst (ds.set 3 d)) := w_put ds 3 d h
theorem w_put_4 (ds : List D) (d : D) (h : 4 < ds.length) : putL (.lst ds) (.int 4) d = some (.lst (ds.set 4 d)) := w_put ds 4 d h
theorem w_put_5 (ds : List D) (d : D) (h : 5 < ds.length) : putL (.lst ds) (.int 5) d = some (.lst (ds.set 5 d)) := w_put ds 5 d h
theorem w_put_6 (ds : List D) (d : D) (h : 6 < ds.length) : putL (.lst ds) (.int 6) d = some (.lst (ds.set 6 d)) := w_put ds 6 d h
theorem w_put_7 (ds : List D) (d : D) (h : 7 < ds.length) : putL (.lst ds) (.int 7) d = some (.lst (ds.set 7 d)) := w_put ds 7 d h
theorem w_put_8 (ds : List D) (d : D) (h : 8 < ds.length) : putL (.lst ds) (.int 8) d = some (.lst (ds.set 8 d)) := w_put ds 8 d h
theorem w_pow (a b : Int) (h : 0 ≤ b) (h2 : b ≤ 1000000) (h3 : a.natAbs < 2 ^ 64) : gPow (.int a) (.int b) = some (.fz (.int (a ^ b.toNat))) := by simp only [gPow, gI, decide_eq_true (show 0 ≤ b ∧ b ≤ 1000000 ∧ a.natAbs < 2 ^ 64 from ⟨h, h2, h3⟩), if_true]
theorem w_neg (a : Int) : gNeg (.int a) = some (.fz (.int (-a))) := rfl
theorem w_mulR (a b : Int) (h : -18446744073709551616 < b) (h2 : b < 18446744073709551616) : gMul (.int a) (.int b) = some (.fz (.int (a * b))) := w_mul a b (.inr ⟨h, h2⟩)
theorem w_mulL (a b : Int) (h : -18446744073709551616 < a) (h2 : a < 18446744073709551616) : gMul (.int a) (.int b) = some (.fz (.int (a * b))) := w_mul a b (.inl ⟨h, h2⟩)
theorem w_mulM (x m b : Int) (h : 0 < m) (h2 : m < 18446744073709551616) : gMul (.int (x % m)) (.int b) = some (.fz (.int (x % m * b))) := w_mulL _ _ (by have := Int.emod_nonneg x (show m ≠ 0 by omega); omega) (by have := Int.emod_lt_of_pos x h; omega)
end DL
-- VA
namespace DL
open PySem PySem.Spec PyProof.Rows L2
section
variable {α β : Type} {E E1 E2 E3 : En} {f fa fb fc fi fv fk : M R} {i j n : Nat} {d d0 c c' v : D} {r ra rb : R} {x : Xn} {own : List Nat} {g : D → B} {t : M Bool} {ds acc : List D} {it : M (List D)} {b : Bool} {s : Sl} {fl : Fl} {body : M Fl}
theorem q_wipe0 : wipeE E [] = E := rfl
theorem q_wipe1 {vs : List Nat} : wipeE E (i :: vs) = (wipeE E vs).set i .un := rfl
@[irreducible] def rs1 (s : Option Sl) (i : Nat) (E : En) : En := match s with | some s => E.set i s | none => E
theorem q_rest0 {E0 : En} : rest0 [] E0 E = E := rfl
theorem q_rest1 {E0 : En} : rest0 (i :: own) E0 E = rs1 E0[i]? i (rest0 own E0 E) := by unfold rs1; rfl
theorem q_rs1 : rs1 (some s) i E = E.set i s := by unfold rs1; rfl
@[irreducible] def owS1 (s : Option Sl) : Bool := match s with | some (.ow _) => true | _ => false
theorem q_noOwn0 : noOwn [] E = true := rfl
theorem q_noOwn1 : noOwn (i :: own) E = (!owS1 E[i]? && noOwn own E) := by unfold owS1; rfl
theorem q_owS1 : owS1 (some (.fr d)) = false := by unfold owS1; rfl
theorem q_owS2 : owS1 (some .un) = false := by unfold owS1; rfl
theorem q_owS3 : owS1 (some (.ow d)) = true := by unfold owS1; rfl
@[irreducible] def lc4 (own : List Nat) (g : D → B) (t : M Bool) (f : M R) (acc ds : List D) (r : Rs D) : Rs (List D) := match r with
  | .ok v E4 => if acc.length < 100000 then lcGo own g t f (acc ++ [v]) ds (wipeE E4 own) else .no
  | _ => .no
@[irreducible] def lc3 (own : List Nat) (g : D → B) (t : M Bool) (f : M R) (acc ds : List D) (r : Rs R) : Rs (List D) := match r with
  | .ok r E3 => lc4 own g t f acc ds (take r E3)
  | _ => .no
@[irreducible] def lc2 (own : List Nat) (g : D → B) (t : M Bool) (f : M R) (acc ds : List D) (r : Rs Bool) : Rs (List D) := match r with
  | .ok false E2 => lcGo own g t f acc ds (wipeE E2 own)
  | .ok true E2 => lc3 own g t f acc ds (f E2)
  | _ => .no
@[irreducible] def lc1 (own : List Nat) (g : D → B) (t : M Bool) (f : M R) (acc ds : List D) (r : Option En) : Rs (List D) := match r with
  | some E1 => lc2 own g t f acc ds (t E1)
  | none => .no
theorem q_lc0 : lcGo own g t f acc [] E = .ok acc E := rfl
theorem q_lc : lcGo own g t f acc (d :: ds) E = lc1 own g t f acc ds (g d E) := by
  cases z : g d E with
  | none => unfold lc1; exact lcGo_none z
  | some E1 =>
    unfold lc1
    dsimp only
    cases zt : t E1 with
    | ok b E2 =>
      unfold lc2
      cases b with
      | false => exact lcGo_false z zt
      | true =>
        dsimp only
        cases zf : f E2 with
        | ok r E3 =>
          unfold lc3
          dsimp only
          cases zk : take r E3 with
          | ok v E4 => unfold lc4; exact lcGo_true z zt zf zk
          | ex x e => exact (take_no zk).elim
          | no => unfold lc4; exact lcGo_nok z zt zf zk
        | ex x e => unfold lc3; exact lcGo_nof z zt (by rw [zf]; exact fun _ _ y => nomatch y)
        | no => unfold lc3; exact lcGo_nof z zt (by rw [zf]; exact fun _ _ y => nomatch y)
    | ex x e => unfold lc2; exact lcGo_not z (by rw [zt]; exact fun _ _ y => nomatch y)
    | no => unfold lc2; exact lcGo_not z (by rw [zt]; exact fun _ _ y => nomatch y)
theorem q_lc1 : lc1 own g t f acc ds (some E) = lc2 own g t f acc ds (t E) := by unfold lc1; rfl
theorem q_lc2f : lc2 own g t f acc ds (.ok false E) = lcGo own g t f acc ds (wipeE E own) := by unfold lc2; rfl
theorem q_lc2t : lc2 own g t f acc ds (.ok true E) = lc3 own g t f acc ds (f E) := by unfold lc2; rfl
theorem q_lc3 : lc3 own g t f acc ds (.ok r E) = lc4 own g t f acc ds (take r E) := by unfold lc3; rfl
theorem q_lc4 (h : acc.length < 100000) : lc4 own g t f acc ds (.ok v E) = lcGo own g t f (acc ++ [v]) ds (wipeE E own) := by unfold lc4; simp only [if_pos h]
/-- a comprehension whose turns leave the names as they are -/
theorem lcGo_run {E : En} {p : D → Bool} {h : D → D} : ∀ (ds acc : List D), (∀ d ∈ ds, ∀ acc ds', acc.length < 100000 → lcGo own g t f acc (d :: ds') E = if p d = true then lcGo own g t f (acc ++ [h d]) ds' E else lcGo own g t f acc ds' E) → acc.length + ds.length ≤ 100000 →
    lcGo own g t f acc ds E = .ok (acc ++ (ds.filter p).map h) E
  | [], acc, _, _ => by rw [q_lc0]; simp
  | d :: ds, acc, hs, hl => by
    rw [List.length_cons] at hl
    rw [hs d List.mem_cons_self acc ds (by omega)]
    by_cases e : p d = true
    · rw [if_pos e, lcGo_run ds _ (fun d' h' => hs d' (List.mem_cons_of_mem _ h')) (by rw [List.length_append, List.length_singleton]; omega), List.filter_cons_of_pos e]
      simp
    · rw [if_neg e, lcGo_run ds _ (fun d' h' => hs d' (List.mem_cons_of_mem _ h')) (by omega), List.filter_cons_of_neg e]
@[irreducible] def mlc2 (own : List Nat) (E : En) (r : Rs (List D)) : Rs R := match r with | .ok acc E' => .ok (.fs (.lst acc)) (rest0 own E E') | _ => .no
@[irreducible] def mlc1 (own : List Nat) (g : D → B) (t : M Bool) (f : M R) (r : Rs (List D)) : Rs R := match r with
  | .ok ds E => if noOwn own E = true then mlc2 own E (lcGo own g t f [] ds (wipeE E own)) else .no
  | .ex x E => .ex x E | .no => .no
theorem q_mlc : mLc own it g t f E = mlc1 own g t f (it E) := by
  unfold mlc1 mlc2 mLc M.bnd
  cases it E with
  | ok ds E1 =>
    first
      | (dsimp only; done)
      | (dsimp only
         by_cases h : noOwn own E1 = true
         · rw [if_pos h, if_pos h]
           cases lcGo own g t f [] ds (wipeE E1 own) <;> rfl
         · rw [if_neg h, if_neg h])
  | _ => rfl
theorem q_mlc1 (h : noOwn own E = true) : mlc1 own g t f (.ok ds E) = mlc2 own E (lcGo own g t f [] ds (wipeE E own)) := by unfold mlc1; simp only [if_pos h]
theorem q_mlc2 : mlc2 own E1 (.ok acc E) = .ok (.fs (.lst acc)) (rest0 own E1 E) := by unfold mlc2; rfl
@[irreducible] def iter1 (r : Rs R) : Rs (List D) := match r with | .ok r E => M.bnd (take r) seqD E | .ex x E => .ex x E | .no => .no
@[irreducible] def iter2 (r : Rs D) : Rs (List D) := match r with | .ok d E => seqD d E | .ex x E => .ex x E | .no => .no
theorem q_iter : mIter f E = iter1 (f E) := by unfold iter1 mIter M.bnd; dsimp only; cases f E <;> rfl
theorem q_iter1 : iter1 (.ok r E) = iter2 (take r E) := by unfold iter1 iter2 M.bnd; dsimp only; cases take r E <;> rfl
theorem q_iter2 : iter2 (.ok d E) = seqD d E := by unfold iter2; rfl
theorem q_seqL : seqD (.lst ds) E = .ok ds E := rfl
theorem q_seqT : seqD (.tup ds) E = .ok ds E := rfl
theorem q_seqF : seqD (.tpf ds) E = .ok ds E := rfl
@[irreducible] def rng1 (r : Rs (List D)) : Rs (List D) := match r with
  | .ok [.int j] E => if -(2 ^ 62) ≤ j ∧ j < 2 ^ 62 then .ok (rngD 0 j.toNat) E else .no
  | .ok _ _ => .no | .ex x E => .ex x E | .no => .no
@[irreducible] def rng2 (r : Rs (List D)) : Rs (List D) := match r with
  | .ok [.int i, .int j] E => if -(2 ^ 62) ≤ i ∧ i < 2 ^ 62 ∧ -(2 ^ 62) ≤ j ∧ j < 2 ^ 62 then .ok (rngD i (j - i).toNat) E else .no
  | .ok _ _ => .no | .ex x E => .ex x E | .no => .no
theorem q_rng1 : mRng1 it E = rng1 (it E) := by
  unfold rng1 mRng1 M.bnd
  cases it E with
  | ok ds E1 =>
    dsimp only
    split
    · rfl
    · rename_i h
      split
      · rename_i e; cases e; exact absurd rfl (h _)
      · rfl
      · rename_i e; cases e
      · rename_i e; cases e
  | _ => rfl
theorem q_rng1' {j : Int} (h1 : -4611686018427387904 ≤ j) (h2 : j < 4611686018427387904) : rng1 (.ok [.int j] E) = .ok (rngD 0 j.toNat) E := by unfold rng1; dsimp only; rw [if_pos ⟨h1, h2⟩]
theorem q_rng2 : mRng2 it E = rng2 (it E) := by
  unfold rng2 mRng2 M.bnd
  cases it E with
  | ok ds E1 =>
    dsimp only
    split
    · rfl
    · rename_i h
      split
      · rename_i e; cases e; exact absurd rfl (h _ _)
      · rfl
      · rename_i e; cases e
      · rename_i e; cases e
  | _ => rfl
theorem q_rng2' {i j : Int} (h1 : -4611686018427387904 ≤ i) (h2 : i < 4611686018427387904) (h3 : -4611686018427387904 ≤ j) (h4 : j < 4611686018427387904) : rng2 (.ok [.int i, .int j] E) = .ok (rngD i (j - i).toNat) E := by unfold rng2; dsimp only; rw [if_pos ⟨h1, h2, h3, h4⟩]
@[irreducible] def for1 (g : D → B) (body : M Fl) (r : Rs (List D)) : Rs Fl := match r with | .ok ds E => loop g body ds E | .ex x E => .ex x E | .no => .no
theorem q_for : sFor it g body E = for1 g body (it E) := by unfold for1 sFor M.bnd; cases it E <;> rfl
theorem q_for1 : for1 g body (.ok ds E) = loop g body ds E := by unfold for1; rfl
@[irreducible] def lp2 (g : D → B) (body : M Fl) (ds : List D) (r : Rs Fl) : Rs Fl := match r with
  | .ok .nx E2 => loop g body ds E2
  | .ok .ct E2 => loop g body ds E2
  | .ok .bk E2 => .ok .nx E2
  | .ok (.rt r) E2 => .ok (.rt r) E2
  | .ex x E2 => .ex x E2
  | .no => .no
@[irreducible] def lp1 (g : D → B) (body : M Fl) (ds : List D) (r : Option En) : Rs Fl := match r with | some E1 => lp2 g body ds (body E1) | none => .no
theorem q_lp0 : loop g body [] E = .ok .nx E := rfl
theorem q_lp : loop g body (d :: ds) E = lp1 g body ds (g d E) := by
  cases z : g d E with
  | none => unfold lp1; simp only [loop, z]
  | some E1 =>
    unfold lp1
    dsimp only
    cases y : body E1 with
    | ok fl E2 => unfold lp2; cases fl <;> simp only [loop, z, y]
    | ex x e => unfold lp2; simp only [loop, z, y]
    | no => unfold lp2; simp only [loop, z, y]
theorem q_lp1 : lp1 g body ds (some E) = lp2 g body ds (body E) := by unfold lp1; rfl
theorem q_lp2n : lp2 g body ds (.ok .nx E) = loop g body ds E := by unfold lp2; rfl
theorem q_lp2c : lp2 g body ds (.ok .ct E) = loop g body ds E := by unfold lp2; rfl
theorem q_lp2b : lp2 g body ds (.ok .bk E) = .ok .nx E := by unfold lp2; rfl
theorem q_lp2r : lp2 g body ds (.ok (.rt r) E) = .ok (.rt r) E := by unfold lp2; rfl
theorem q_lp2x : lp2 g body ds (.ex x E) = .ex x E := by unfold lp2; rfl
/-- a loop by what stands after each turn -/
theorem loop_run {α : Type} {st : α → En} {nxt : α → D → α} : ∀ (ds : List D) (a : α), (∀ d ∈ ds, ∀ a ds', loop g body (d :: ds') (st a) = loop g body ds' (st (nxt a d))) → loop g body ds (st a) = .ok .nx (st (ds.foldl nxt a))
  | [], a, _ => rfl
  | d :: ds, a, h => by rw [h d List.mem_cons_self, loop_run ds _ fun d' h' => h d' (List.mem_cons_of_mem _ h'), List.foldl_cons]
end
end DL
-- VB
namespace DL
open PySem PySem.Spec PyProof.Rows L2
section
variable {E E1 : En} {f fa fb fi fv : M R} {i j n : Nat} {d d0 c c' v : D} {r : R} {x : Xn} {ds xs ys : List D} {G : Dn} {fs : M (List D)} {cn : Str}
theorem y_ixL (ds : List D) (k : Nat) : gIxA (.lst ds) (.int (k : Int)) = (ds[k]?).map .fz := w_ix ds k
theorem y_ixT (ds : List D) (k : Nat) : gIxA (.tup ds) (.int (k : Int)) = (ds[k]?).map .fz := w_ixT ds k
theorem y_ixLn (ds : List D) (k : Nat) : gIxA (.lst ds) (.int (no_index (OfNat.ofNat k))) = (ds[(OfNat.ofNat k : Nat)]?).map .fz := w_ix ds k
theorem y_ixTn (ds : List D) (k : Nat) : gIxA (.tup ds) (.int (no_index (OfNat.ofNat k))) = (ds[(OfNat.ofNat k : Nat)]?).map .fz := w_ixT ds k
theorem y_lt (a b : Int) : gLtA (.int a) (.int b) = some (.fz (.bl (decide (a < b)))) := rfl
theorem y_gt (a b : Int) : gGtA (.int a) (.int b) = some (.fz (.bl (decide (b < a)))) := rfl
theorem y_add (a b : Int) : gAddA (.int a) (.int b) = some (.fz (.int (a + b))) := rfl
theorem y_isi_non (T : String)  : gIsi T .non = some (.fz (.bl (isiB "NoneType" T))) := rfl
theorem y_isi_bl (T : String) (a : Bool) : gIsi T (.bl a) = some (.fz (.bl (isiB "bool" T))) := rfl
theorem y_isi_int (T : String) (a : Int) : gIsi T (.int a) = some (.fz (.bl (isiB "int" T))) := rfl
theorem y_isi_str (T : String) (a : Str) : gIsi T (.str a) = some (.fz (.bl (isiB "str" T))) := rfl
theorem y_isi_tup (T : String) (a : List D) : gIsi T (.tup a) = some (.fz (.bl (isiB "tuple" T))) := rfl
theorem y_isi_tpf (T : String) (a : List D) : gIsi T (.tpf a) = some (.fz (.bl (isiB "tuple" T))) := rfl
theorem y_isi_lst (T : String) (a : List D) : gIsi T (.lst a) = some (.fz (.bl (isiB "list" T))) := rfl
theorem y_isi_dk (T : String) (a : List (Key × D)) : gIsi T (.dk a) = some (.fz (.bl (isiB "dict" T))) := rfl
theorem y_isi_dt (T : String) (a : List (List Key × D)) : gIsi T (.dt a) = some (.fz (.bl (isiB "dict" T))) := rfl
theorem b_NoneType_bool : isiB "NoneType" "bool" = false := by decide
theorem b_NoneType_int : isiB "NoneType" "int" = false := by decide
theorem b_NoneType_str : isiB "NoneType" "str" = false := by decide
theorem b_NoneType_tuple : isiB "NoneType" "tuple" = false := by decide
theorem b_NoneType_list : isiB "NoneType" "list" = false := by decide
theorem b_NoneType_dict : isiB "NoneType" "dict" = false := by decide
theorem b_bool_bool : isiB "bool" "bool" = true := by decide
theorem b_bool_int : isiB "bool" "int" = true := by decide
theorem b_bool_str : isiB "bool" "str" = false := by decide
theorem b_bool_tuple : isiB "bool" "tuple" = false := by decide
theorem b_bool_list : isiB "bool" "list" = false := by decide
theorem b_bool_dict : isiB "bool" "dict" = false := by decide
theorem b_int_bool : isiB "int" "bool" = false := by decide
theorem b_int_int : isiB "int" "int" = true := by decide
theorem b_int_str : isiB "int" "str" = false := by decide
theorem b_int_tuple : isiB "int" "tuple" = false := by decide
theorem b_int_list : isiB "int" "list" = false := by decide
theorem b_int_dict : isiB "int" "dict" = false := by decide
theorem b_str_bool : isiB "str" "bool" = false := by decide
theorem b_str_int : isiB "str" "int" = false := by decide
theorem b_str_str : isiB "str" "str" = true := by decide
theorem b_str_tuple : isiB "str" "tuple" = false := by decide
theorem b_str_list : isiB "str" "list" = false := by decide
theorem b_str_dict : isiB "str" "dict" = false := by decide
theorem b_tuple_bool : isiB "tuple" "bool" = false := by decide
theorem b_tuple_int : isiB "tuple" "int" = false := by decide
theorem b_tuple_str : isiB "tuple" "str" = false := by decide
theorem b_tuple_tuple : isiB "tuple" "tuple" = true := by decide
theorem b_tuple_list : isiB "tuple" "list" = false := by decide
theorem b_tuple_dict : isiB "tuple" "dict" = false := by decide
theorem b_list_bool : isiB "list" "bool" = false := by decide
theorem b_list_int : isiB "list" "int" = false := by decide
theorem b_list_str : isiB "list" "str" = false := by decide
theorem b_list_tuple : isiB "list" "tuple" = false := by decide
theorem b_list_list : isiB "list" "list" = true := by decide
theorem b_list_dict : isiB "list" "dict" = false := by decide
theorem b_dict_bool : isiB "dict" "bool" = false := by decide
theorem b_dict_int : isiB "dict" "int" = false := by decide
theorem b_dict_str : isiB "dict" "str" = false := by decide
theorem b_dict_tuple : isiB "dict" "tuple" = false := by decide
theorem b_dict_list : isiB "dict" "list" = false := by decide
theorem b_dict_dict : isiB "dict" "dict" = true := by decide
theorem y_fld {fs : List (Str × D)} {f : Str} : gFld cn f (.ins cn fs) = (fs.lookup f).map .fz := by simp only [gFld, if_true]
end
end DL
-- VC
namespace DL
open PySem PySem.Spec PyProof.Rows L2
abbrev pP (p : Int × Int) : PyData := .tuple [.int p.1, .int p.2]
theorem toPs_pairs : ∀ ps : List (Int × Int), toPs (ps.map pD) = some (ps.map pP)
  | [] => rfl
  | p :: ps => by rw [List.map_cons, List.map_cons, toPs, toPs_pairs ps]; rfl
theorem toPs_ints : ∀ ns : List Int, toPs (ns.map .int) = some (ns.map PyData.int)
  | [] => rfl
  | n :: ns => by rw [List.map_cons, List.map_cons, toPs, toPs_ints ns]; rfl
theorem lay_pairs : ∀ ps : List (Int × Int), PyData.canLayAll0 (ps.map pP) = true
  | [] => rfl
  | p :: ps => by rw [List.map_cons, PyData.canLayAll0, lay_pairs ps]; rfl
theorem lay_ints : ∀ ns : List Int, PyData.canLayAll0 (ns.map PyData.int) = true
  | [] => rfl
  | n :: ns => by rw [List.map_cons, PyData.canLayAll0, lay_ints ns]; rfl
theorem dep_pairs : ∀ ps : List (Int × Int), PyData.depthAll (ps.map pP) ≤ 1
  | [] => Nat.zero_le _
  | p :: ps => by
    have h : PyData.depth (pP p) = 1 := by simp [pP, PyData.depth, PyData.depthAll]
    rw [List.map_cons, PyData.depthAll, h]
    exact Nat.max_le.mpr ⟨Nat.le_refl _, dep_pairs ps⟩
theorem dep_ints : ∀ ns : List Int, PyData.depthAll (ns.map PyData.int) = 0
  | [] => rfl
  | n :: ns => by
    have h : PyData.depth (.int n) = 0 := by simp [PyData.depth]
    rw [List.map_cons, PyData.depthAll, h, dep_ints ns]; rfl
theorem sh_pair (p : Int × Int) : SeqAt.shaped (pP p) = true := by simp [SeqAt.shaped, pP, PyData.canLay0, PyData.canLayAll0, PyData.depth, PyData.depthAll]
theorem sh_int (n : Int) : SeqAt.shaped (.int n) = true := by simp [SeqAt.shaped, PyData.canLay0, PyData.depth]
theorem sh_pairsL (ps : List (Int × Int)) : SeqAt.shaped (.list (ps.map pP)) = true := by
  have := dep_pairs ps
  unfold SeqAt.shaped PyData.canLay0 PyData.depth
  rw [lay_pairs, decide_eq_true (Nat.succ_le_succ (Nat.le_trans this (by decide)))]; rfl
theorem sh_pairsT (ps : List (Int × Int)) : SeqAt.shaped (.tuple (ps.map pP)) = true := by
  have := dep_pairs ps
  unfold SeqAt.shaped PyData.canLay0 PyData.depth
  rw [lay_pairs, decide_eq_true (Nat.succ_le_succ (Nat.le_trans this (by decide)))]; rfl
theorem sh_intsL (ns : List Int) : SeqAt.shaped (.list (ns.map PyData.int)) = true := by simp only [SeqAt.shaped, PyData.canLay0, lay_ints, PyData.depth, dep_ints, Bool.true_and, decide_eq_true_eq]; omega
theorem sh_intsT (ns : List Int) : SeqAt.shaped (.tuple (ns.map PyData.int)) = true := by simp only [SeqAt.shaped, PyData.canLay0, lay_ints, PyData.depth, dep_ints, Bool.true_and, decide_eq_true_eq]; omega
theorem eqv_pair (p q : Int × Int) : PyData.eqv (pP p) (pP q) = decide (p = q) := by
  obtain ⟨a, b⟩ := p
  obtain ⟨c, d⟩ := q
  simp only [pP, PyData.eqv, PyData.eqvAll, Bool.and_true]
  rw [Bool.eq_iff_iff]
  simp
theorem eqv_pairs : ∀ ps qs : List (Int × Int), PyData.eqvAll (ps.map pP) (qs.map pP) = decide (ps = qs)
  | [], [] => by simp [PyData.eqvAll]
  | [], q :: qs => by simp [PyData.eqvAll]
  | p :: ps, [] => by simp [PyData.eqvAll]
  | p :: ps, q :: qs => by
    rw [List.map_cons, List.map_cons, PyData.eqvAll, eqv_pair, eqv_pairs ps qs]
    rw [Bool.eq_iff_iff]
    simp
theorem eqv_ints : ∀ ps qs : List Int, PyData.eqvAll (ps.map PyData.int) (qs.map PyData.int) = decide (ps = qs)
  | [], [] => by simp [PyData.eqvAll]
  | [], q :: qs => by simp [PyData.eqvAll]
  | p :: ps, [] => by simp [PyData.eqvAll]
  | p :: ps, q :: qs => by
    rw [List.map_cons, List.map_cons, PyData.eqvAll, eqv_ints ps qs]
    rw [Bool.eq_iff_iff]
    simp [PyData.eqv]
theorem any_pair (p : Int × Int) : ∀ as : List (Int × Int), ((as.map pP).any fun z => PyData.eqv z (pP p)) = decide (p ∈ as)
  | [] => by simp
  | a :: as => by
    rw [List.map_cons, List.any_cons, any_pair p as, eqv_pair, Bool.eq_iff_iff]
    simp only [Bool.or_eq_true, decide_eq_true_eq, List.mem_cons]
    exact ⟨fun h => h.imp Eq.symm id, fun h => h.imp Eq.symm id⟩
theorem any_int (n : Int) : ∀ as : List Int, ((as.map PyData.int).any fun z => PyData.eqv z (.int n)) = decide (n ∈ as)
  | [] => by simp
  | a :: as => by
    rw [List.map_cons, List.any_cons, any_int n as, PyData.eqv, Bool.eq_iff_iff]
    simp only [Bool.or_eq_true, decide_eq_true_eq, List.mem_cons, beq_iff_eq]
    exact ⟨fun h => h.imp Eq.symm id, fun h => h.imp Eq.symm id⟩
theorem toP_pair (p : Int × Int) : toP (pD p) = some (pP p) := rfl
theorem inS_pair {y : D} {as : List (Int × Int)} (p : Int × Int) (h : seqOf y = some (as.map pD)) : inS (pD p) y = some (decide (p ∈ as)) := by
  unfold inS
  rw [toP_pair, h, Option.bind_some, toPs_pairs]
  dsimp only
  rw [if_pos ⟨sh_pair p, sh_pairsL as⟩, any_pair]
theorem inS_int {y : D} {as : List Int} (n : Int) (h : seqOf y = some (as.map .int)) : inS (.int n) y = some (decide (n ∈ as)) := by
  unfold inS
  rw [show toP (.int n) = some (.int n) from rfl, h, Option.bind_some, toPs_ints]
  dsimp only
  rw [if_pos ⟨sh_int n, sh_intsL as⟩, any_int]
theorem y_inPT (p : Int × Int) (as : List (Int × Int)) : gInA (pD p) (.tup (as.map pD)) = some (.fz (.bl (decide (p ∈ as)))) := by unfold gInA inAny; dsimp only; rw [inS_pair p rfl]; rfl
theorem y_inPL (p : Int × Int) (as : List (Int × Int)) : gInA (pD p) (.lst (as.map pD)) = some (.fz (.bl (decide (p ∈ as)))) := by unfold gInA inAny; dsimp only; rw [inS_pair p rfl]; rfl
theorem y_notinPT (p : Int × Int) (as : List (Int × Int)) : gNotInA (pD p) (.tup (as.map pD)) = some (.fz (.bl (!decide (p ∈ as)))) := by unfold gNotInA inAny; dsimp only; rw [inS_pair p rfl]; rfl
theorem y_inIL (n : Int) (as : List Int) : gInA (.int n) (.lst (as.map .int)) = some (.fz (.bl (decide (n ∈ as)))) := by unfold gInA inAny; dsimp only; rw [inS_int n rfl]; rfl
theorem y_notinIL (n : Int) (as : List Int) : gNotInA (.int n) (.lst (as.map .int)) = some (.fz (.bl (!decide (n ∈ as)))) := by unfold gNotInA inAny; dsimp only; rw [inS_int n rfl]; rfl
theorem eqD_pair (p q : Int × Int) : eqD (pD p) (pD q) = some (decide (p = q)) := by
  unfold eqD
  rw [toP_pair, toP_pair]
  dsimp only
  rw [if_pos ⟨sh_pair p, sh_pair q⟩, eqv_pair]
theorem toP_pairsT (as : List (Int × Int)) : toP (.tup (as.map pD)) = some (.tuple (as.map pP)) := by unfold toP; rw [toPs_pairs]; rfl
theorem toP_intsT (as : List Int) : toP (.tup (as.map .int)) = some (.tuple (as.map PyData.int)) := by unfold toP; rw [toPs_ints]; rfl
theorem toP_intsL (as : List Int) : toP (.lst (as.map .int)) = some (.list (as.map PyData.int)) := by unfold toP; rw [toPs_ints]; rfl
theorem toP_pairsL (as : List (Int × Int)) : toP (.lst (as.map pD)) = some (.list (as.map pP)) := by unfold toP; rw [toPs_pairs]; rfl
theorem eqD_pairsT (as bs : List (Int × Int)) : eqD (.tup (as.map pD)) (.tup (bs.map pD)) = some (decide (as = bs)) := by
  unfold eqD
  rw [toP_pairsT, toP_pairsT]
  dsimp only
  rw [if_pos ⟨sh_pairsT as, sh_pairsT bs⟩, PyData.eqv, eqv_pairs]
theorem eqD_pairsL (as bs : List (Int × Int)) : eqD (.lst (as.map pD)) (.lst (bs.map pD)) = some (decide (as = bs)) := by
  unfold eqD
  rw [toP_pairsL, toP_pairsL]
  dsimp only
  rw [if_pos ⟨sh_pairsL as, sh_pairsL bs⟩, PyData.eqv, eqv_pairs]
theorem eqD_intsT (as bs : List Int) : eqD (.tup (as.map .int)) (.tup (bs.map .int)) = some (decide (as = bs)) := by
  unfold eqD
  rw [toP_intsT, toP_intsT]
  dsimp only
  rw [if_pos ⟨sh_intsT as, sh_intsT bs⟩, PyData.eqv, eqv_ints]
theorem eqD_intsL (as bs : List Int) : eqD (.lst (as.map .int)) (.lst (bs.map .int)) = some (decide (as = bs)) := by
  unfold eqD
  rw [toP_intsL, toP_intsL]
  dsimp only
  rw [if_pos ⟨sh_intsL as, sh_intsL bs⟩, PyData.eqv, eqv_ints]
theorem y_eqP (p q : Int × Int) : gEq (pD p) (pD q) = some (.fz (.bl (decide (p = q)))) := by unfold gEq; rw [eqD_pair]; rfl
theorem y_neP (p q : Int × Int) : gNe (pD p) (pD q) = some (.fz (.bl (!decide (p = q)))) := by unfold gNe; rw [eqD_pair]; rfl
theorem y_nePT (as bs : List (Int × Int)) : gNe (.tup (as.map pD)) (.tup (bs.map pD)) = some (.fz (.bl (!decide (as = bs)))) := by unfold gNe; rw [eqD_pairsT]; rfl
theorem y_eqPT (as bs : List (Int × Int)) : gEq (.tup (as.map pD)) (.tup (bs.map pD)) = some (.fz (.bl (decide (as = bs)))) := by unfold gEq; rw [eqD_pairsT]; rfl
theorem y_neIT (as bs : List Int) : gNe (.tup (as.map .int)) (.tup (bs.map .int)) = some (.fz (.bl (!decide (as = bs)))) := by unfold gNe; rw [eqD_intsT]; rfl
theorem y_neIL0 (as : List Int) : gNe (.lst (as.map .int)) (.lst []) = some (.fz (.bl (!decide (as = [])))) := by unfold gNe; rw [show (D.lst []) = .lst (([] : List Int).map .int) from rfl, eqD_intsL]; rfl
theorem y_nePL0 (as : List (Int × Int)) : gNe (.lst (as.map pD)) (.lst []) = some (.fz (.bl (!decide (as = [])))) := by unfold gNe; rw [show (D.lst []) = .lst (([] : List (Int × Int)).map pD) from rfl, eqD_pairsL]; rfl
theorem y_eqIL (as bs : List Int) : gEq (.lst (as.map .int)) (.lst (bs.map .int)) = some (.fz (.bl (decide (as = bs)))) := by unfold gEq; rw [eqD_intsL]; rfl
theorem y_sortIL (ns : List Int) : gSortedA [.lst (ns.map .int)] = some (.fs (.lst ((sortI ns).map .int))) := by
  unfold gSortedA tupI tupOf
  dsimp only [Option.bind]
  unfold gSorted
  dsimp only
  rw [unIs_map]
theorem y_sortIT (ns : List Int) : gSortedA [.tup (ns.map .int)] = some (.fs (.lst ((sortI ns).map .int))) := by
  unfold gSortedA tupI tupOf
  dsimp only [Option.bind]
  rw [unIs_map]
theorem y_sortIF (ns : List Int) : gSortedA [.tpf (ns.map .int)] = some (.fs (.lst ((sortI ns).map .int))) := by
  unfold gSortedA tupI tupOf
  dsimp only [Option.bind]
  rw [unIs_map]
theorem y_sortPL (ps : List (Int × Int)) : gSortedA [.lst (ps.map pD)] = some (.fs (.lst ((sortP ps).map pD))) := by
  unfold gSortedA tupI tupOf
  dsimp only [Option.bind]
  unfold gSorted
  cases ps with
  | nil => rfl
  | cons p ps =>
    dsimp only
    rw [show unIs ((p :: ps).map pD) = none from rfl]
    dsimp only
    rw [unPs_map]
theorem y_truN : truD .non = some false := rfl
theorem y_truB (b : Bool) : truD (.bl b) = some b := rfl
theorem y_truI (i : Int) : truD (.int i) = some (i != 0) := rfl
theorem y_truT (ds : List D) : truD (.tup ds) = some (!ds.isEmpty) := rfl
theorem y_truL (ds : List D) : truD (.lst ds) = some (!ds.isEmpty) := rfl
end DL
-- VD
namespace DL
open PySem PySem.Spec PyProof.Rows L2
section
variable {E E1 E2 E3 : En} {d c c' v : D} {rk r : R} {own : List Nat} {g : D → B} {t : M Bool} {fk fv : M R} {ds : List D} {it : M (List D)} {b : Bool}
@[irreducible] def dc5 (own : List Nat) (g : D → B) (t : M Bool) (fk fv : M R) (ds : List D) (E : En) (r : Option D) : Rs D := match r with
  | some c' => dcGo own g t fk fv c' ds (wipeE E own)
  | none => .no
@[irreducible] def dc4 (own : List Nat) (g : D → B) (t : M Bool) (fk fv : M R) (c : D) (ds : List D) (rk : R) (r : Rs D) : Rs D := match r with
  | .ok v E5 => dc5 own g t fk fv ds E5 ((pk rk E5).bind fun k => dPut c k v)
  | _ => .no
@[irreducible] def dc3 (own : List Nat) (g : D → B) (t : M Bool) (fk fv : M R) (c : D) (ds : List D) (rk : R) (r : Rs R) : Rs D := match r with
  | .ok r E4 => dc4 own g t fk fv c ds rk (take r E4)
  | _ => .no
@[irreducible] def dc2 (own : List Nat) (g : D → B) (t : M Bool) (fk fv : M R) (c : D) (ds : List D) (r : Rs R) : Rs D := match r with
  | .ok rk E3 => dc3 own g t fk fv c ds rk (fv E3)
  | _ => .no
@[irreducible] def dc1 (own : List Nat) (g : D → B) (t : M Bool) (fk fv : M R) (c : D) (ds : List D) (r : Rs Bool) : Rs D := match r with
  | .ok false E2 => dcGo own g t fk fv c ds (wipeE E2 own)
  | .ok true E2 => dc2 own g t fk fv c ds (fk E2)
  | _ => .no
@[irreducible] def dc0 (own : List Nat) (g : D → B) (t : M Bool) (fk fv : M R) (c : D) (ds : List D) (r : Option En) : Rs D := match r with
  | some E1 => dc1 own g t fk fv c ds (t E1)
  | none => .no
theorem q_dc_0 : dcGo own g t fk fv c [] E = .ok c E := rfl
theorem q_dc : dcGo own g t fk fv c (d :: ds) E = dc0 own g t fk fv c ds (g d E) := by
  unfold dc0
  cases z : g d E with
  | none => exact dcGo_none z
  | some E1 =>
    dsimp only
    unfold dc1
    cases zt : t E1 with
    | ok b E2 =>
      cases b with
      | false => exact dcGo_false z zt
      | true =>
        dsimp only
        unfold dc2
        cases zf : fk E2 with
        | ok rk E3 =>
          dsimp only
          unfold dc3
          cases zv : fv E3 with
          | ok r E4 =>
            dsimp only
            unfold dc4
            cases zk : take r E4 with
            | ok v E5 =>
              dsimp only
              unfold dc5
              cases zu : (pk rk E5).bind fun k => dPut c k v with
              | none => exact dcGo_nou z zt zf zv zk zu
              | some c' => exact dcGo_true z zt zf zv zk zu
            | ex x e => exact (take_no zk).elim
            | no => exact dcGo_nok z zt zf zv zk
          | ex x e => exact dcGo_nov z zt zf (by rw [zv]; exact fun _ _ y => nomatch y)
          | no => exact dcGo_nov z zt zf (by rw [zv]; exact fun _ _ y => nomatch y)
        | ex x e => exact dcGo_nof z zt (by rw [zf]; exact fun _ _ y => nomatch y)
        | no => exact dcGo_nof z zt (by rw [zf]; exact fun _ _ y => nomatch y)
    | ex x e => exact dcGo_not z (by rw [zt]; exact fun _ _ y => nomatch y)
    | no => exact dcGo_not z (by rw [zt]; exact fun _ _ y => nomatch y)
theorem q_dc0 : dc0 own g t fk fv c ds (some E) = dc1 own g t fk fv c ds (t E) := by unfold dc0; rfl
theorem q_dc1f : dc1 own g t fk fv c ds (.ok false E) = dcGo own g t fk fv c ds (wipeE E own) := by unfold dc1; rfl
theorem q_dc1t : dc1 own g t fk fv c ds (.ok true E) = dc2 own g t fk fv c ds (fk E) := by unfold dc1; rfl
theorem q_dc2 : dc2 own g t fk fv c ds (.ok rk E) = dc3 own g t fk fv c ds rk (fv E) := by unfold dc2; rfl
theorem q_dc3 : dc3 own g t fk fv c ds rk (.ok r E) = dc4 own g t fk fv c ds rk (take r E) := by unfold dc3; rfl
theorem q_dc4 : dc4 own g t fk fv c ds rk (.ok v E) = dc5 own g t fk fv ds E ((pk rk E).bind fun k => dPut c k v) := by unfold dc4; rfl
theorem q_dc5 : dc5 own g t fk fv ds E (some c') = dcGo own g t fk fv c' ds (wipeE E own) := by unfold dc5; rfl
/-- a comprehension whose turns leave the names as they are: what it has grows -/
theorem dcGo_run {α : Type} {E : En} {st : α → D} {nxt : α → D → α} (ok : α → Nat → Prop) (hok : ∀ a n d, ok a (n + 1) → ok (nxt a d) n) : ∀ (ds : List D) (a : α), ok a ds.length → (∀ d ∈ ds, ∀ a ds', ok a (ds'.length + 1) → dcGo own g t fk fv (st a) (d :: ds') E = dcGo own g t fk fv (st (nxt a d)) ds' E) →
    dcGo own g t fk fv (st a) ds E = .ok (st (ds.foldl nxt a)) E
  | [], a, _, _ => rfl
  | d :: ds, a, ho, hs => by
    rw [hs d List.mem_cons_self a ds ho, dcGo_run ok hok ds (nxt a d) (hok _ _ _ ho) (fun d' h' => hs d' (List.mem_cons_of_mem _ h'))]
    rfl
@[irreducible] def mdc2 (own : List Nat) (E : En) (r : Rs D) : Rs R := match r with | .ok c E' => .ok (.fs c) (rest0 own E E') | _ => .no
@[irreducible] def mdc1 (own : List Nat) (c0 : D) (g : D → B) (t : M Bool) (fk fv : M R) (r : Rs (List D)) : Rs R := match r with
  | .ok ds E => if noOwn own E = true then mdc2 own E (dcGo own g t fk fv c0 ds (wipeE E own)) else .no
  | .ex x E => .ex x E
  | .no => .no
theorem q_mdc : mDc own c it g t fk fv E = mdc1 own c g t fk fv (it E) := by
  unfold mdc1 mDc M.bnd
  cases it E with
  | ok ds E1 =>
    dsimp only
    by_cases e : noOwn own E1 = true
    · rw [if_pos e, if_pos e]; unfold mdc2; rfl
    · rw [if_neg e, if_neg e]
  | ex x E1 => rfl
  | no => rfl
theorem q_mdc1 (h : noOwn own E = true) : mdc1 own c g t fk fv (.ok ds E) = mdc2 own E (dcGo own g t fk fv c ds (wipeE E own)) := by unfold mdc1; simp only [if_pos h]
theorem q_mdc2 : mdc2 own E1 (.ok c E) = .ok (.fs c) (rest0 own E1 E) := by unfold mdc2; rfl
end
def pK (p : Int × Int) : List Key := [.inl p.1, .inl p.2]
theorem pK_inj {p q : Int × Int} : pK p = pK q ↔ p = q := by
  constructor
  · intro h
    unfold pK at h
    injection h with h1 h2
    injection h2 with h2 _
    injection h1 with h1
    injection h2 with h2
    exact Prod.ext h1 h2
  · rintro rfl; rfl
def dtV (kvs : List ((Int × Int) × D)) : D := .dt (kvs.map fun e => (pK e.1, e.2))
theorem dtV_nil : D.dt [] = dtV [] := rfl
theorem valD_pK (p : Int × Int) : ∀ kvs : List ((Int × Int) × D), valD (kvs.map fun e => (pK e.1, e.2)) (pK p) = valD kvs p
  | [] => rfl
  | e :: r => by
    have ih := valD_pK p r
    unfold valD at ih ⊢
    rw [List.map_cons, List.find?_cons, List.find?_cons]
    by_cases h : e.1 = p
    · rw [decide_eq_true h, decide_eq_true (pK_inj.mpr h)]; rfl
    · rw [decide_eq_false h, decide_eq_false (fun z => h (pK_inj.mp z))]; exact ih
theorem any_pK (p : Int × Int) (kvs : List ((Int × Int) × D)) : ((kvs.map fun e => (pK e.1, e.2)).any fun e => decide (e.1 = pK p)) = kvs.any fun e => decide (e.1 = p) := by
  rw [List.any_map]
  apply congrArg (fun f => kvs.any f)
  funext e
  show decide (pK e.1 = pK p) = decide (e.1 = p)
  exact decide_eq_decide.mpr pK_inj
theorem putD_pK (p : Int × Int) (d : D) (kvs : List ((Int × Int) × D)) : putD (kvs.map fun e => (pK e.1, e.2)) (pK p) d = (putD kvs p d).map fun e => (pK e.1, e.2) := by
  unfold putD
  rw [any_pK]
  split
  · rw [List.map_map, List.map_map]
    apply List.map_congr_left
    intro e _
    show (if pK e.1 = pK p then (pK e.1, d) else (pK e.1, e.2)) = (fun e : (Int × Int) × D => (pK e.1, e.2)) (if e.1 = p then (e.1, d) else e)
    by_cases h : e.1 = p
    · rw [if_pos h, if_pos (pK_inj.mpr h)]
    · rw [if_neg h, if_neg (fun z => h (pK_inj.mp z))]
  · rw [List.map_append]; rfl
theorem y_dget (p : Int × Int) (kvs : List ((Int × Int) × D)) : dGet (dtV kvs) (pD p) = some (valD kvs p) := by
  show (keysD [.int p.1, .int p.2]).map (valD _) = _
  rw [← valD_pK]; rfl
theorem y_dput (p : Int × Int) (d : D) (kvs : List ((Int × Int) × D)) (h : kvs.length < 100000) : dPut (dtV kvs) (pD p) d = some (dtV (putD kvs p d)) := by
  show (if (kvs.map fun e => (pK e.1, e.2)).length < 100000 then (keysD [.int p.1, .int p.2]).map (fun k => D.dt (putD _ k d)) else none) = _
  rw [List.length_map, if_pos h]
  unfold dtV
  rw [← putD_pK]; rfl
theorem y_inDt (p : Int × Int) (kvs : List ((Int × Int) × D)) : gInA (pD p) (dtV kvs) = some (.fz (.bl (valD kvs p).isSome)) := by
  show ((dGet (dtV kvs) (pD p)).map (·.isSome)).map (fun c => R.fz (.bl c)) = _
  rw [y_dget]; rfl
theorem y_notinDt (p : Int × Int) (kvs : List ((Int × Int) × D)) : gNotInA (pD p) (dtV kvs) = some (.fz (.bl (!(valD kvs p).isSome))) := by
  show ((dGet (dtV kvs) (pD p)).map (·.isSome)).map (fun c => R.fz (.bl (!c))) = _
  rw [y_dget]; rfl
section
variable {κ : Type} [DecidableEq κ]
theorem valD_cons (e : κ × D) (r : List (κ × D)) (k : κ) : valD (e :: r) k = if e.1 = k then some e.2 else valD r k := by
  unfold valD
  rw [List.find?_cons]
  by_cases h : e.1 = k
  · rw [decide_eq_true h, if_pos h]; rfl
  · rw [decide_eq_false h, if_neg h]
theorem valD_none {k : κ} : ∀ {kvs : List (κ × D)}, (kvs.any fun e => decide (e.1 = k)) = false → valD kvs k = none
  | [], _ => rfl
  | e :: r, h => by
    rw [List.any_cons, Bool.or_eq_false_iff] at h
    rw [valD_cons, if_neg (of_decide_eq_false h.1), valD_none h.2]
theorem valD_app (kvs : List (κ × D)) (e : κ × D) (k : κ) : valD (kvs ++ [e]) k = (valD kvs k).or (if e.1 = k then some e.2 else none) := by
  induction kvs with
  | nil => rw [List.nil_append, valD_cons]; unfold valD; simp
  | cons x r ih =>
    rw [List.cons_append, valD_cons, valD_cons, ih]
    by_cases h : x.1 = k
    · rw [if_pos h, if_pos h]; rfl
    · rw [if_neg h, if_neg h]
theorem valD_put (kvs : List (κ × D)) (k k' : κ) (d : D) : valD (putD kvs k d) k' = if k = k' then some d else valD kvs k' := by
  unfold putD
  split
  · rename_i h
    induction kvs with
    | nil => cases h
    | cons e r ih =>
      rw [List.map_cons, valD_cons, valD_cons]
      by_cases hr : (r.any fun e => decide (e.1 = k)) = true
      · rw [ih hr]
        by_cases he : e.1 = k
        · rw [if_pos he]
          by_cases hk : k = k'
          · rw [if_pos (show (e.1, d).1 = k' from he.trans hk), if_pos hk]
          · rw [if_neg (show ¬ (e.1, d).1 = k' from fun z => hk (he.symm.trans z)), if_neg hk, if_neg hk, if_neg (fun z => hk (he.symm.trans z))]
        · rw [if_neg he]
          by_cases hk : k = k'
          · rw [if_pos hk, if_neg (fun z => he (z.trans hk.symm)), if_pos hk]
          · rw [if_neg hk]; rw [if_neg hk]
      · have he : e.1 = k := by
          rw [List.any_cons] at h
          simp only [Bool.not_eq_true] at hr
          rw [hr, Bool.or_false] at h
          exact of_decide_eq_true h
        have hm : (r.map fun e => if e.1 = k then (e.1, d) else e) = r := by
          simp only [Bool.not_eq_true] at hr
          conv => rhs; rw [← List.map_id r]
          apply List.map_congr_left
          intro x hx
          have := List.any_eq_false.mp hr x hx
          rw [if_neg (fun z => this (decide_eq_true z))]; rfl
        rw [hm, if_pos he]
        by_cases hk : k = k'
        · rw [if_pos (show (e.1, d).1 = k' from he.trans hk), if_pos hk]
        · rw [if_neg (show ¬ (e.1, d).1 = k' from fun z => hk (he.symm.trans z)), if_neg hk, if_neg (fun z => hk (he.symm.trans z))]
  · rename_i h
    rw [valD_app]
    by_cases hk : k = k'
    · subst hk
      rw [if_pos rfl, if_pos rfl, valD_none (eq_false_of_ne_true h)]; rfl
    · rw [if_neg hk, if_neg hk]; cases valD kvs k' <;> rfl
theorem putD_length (kvs : List (κ × D)) (k : κ) (d : D) : (putD kvs k d).length ≤ kvs.length + 1 := by
  unfold putD
  split
  · rw [List.length_map]; omega
  · rw [List.length_append]; exact Nat.le_refl _
end
end DL
-- VE
namespace DL
open PySem PySem.Spec PyProof.Rows L2
section
variable {α σ : Type} {E : En} {own : List Nat} {g : D → B} {t : M Bool} {f fk fv : M R} {body : M Fl}
theorem lcGo_flt {p : α → Bool} {c h : α → D} : ∀ (xs : List α) (acc : List D), (∀ x ∈ xs, ∀ acc ds', acc.length < 100000 → lcGo own g t f acc (c x :: ds') E = if p x = true then lcGo own g t f (acc ++ [h x]) ds' E else lcGo own g t f acc ds' E) → acc.length + xs.length ≤ 100000 →
    lcGo own g t f acc (xs.map c) E = .ok (acc ++ (xs.filter p).map h) E
  | [], acc, _, _ => by rw [List.map_nil, q_lc0]; simp
  | x :: xs, acc, hs, hl => by
    rw [List.length_cons] at hl
    rw [List.map_cons, hs x List.mem_cons_self acc _ (by omega)]
    by_cases e : p x = true
    · rw [if_pos e, lcGo_flt xs _ (fun d' h' => hs d' (List.mem_cons_of_mem _ h')) (by rw [List.length_append, List.length_singleton]; omega), List.filter_cons_of_pos e]
      simp
    · rw [if_neg e, lcGo_flt xs _ (fun d' h' => hs d' (List.mem_cons_of_mem _ h')) (by omega), List.filter_cons_of_neg e]
theorem lcGo_map {c h : α → D} (xs : List α) (acc : List D) (hs : ∀ x ∈ xs, ∀ acc ds', acc.length < 100000 → lcGo own g t f acc (c x :: ds') E = lcGo own g t f (acc ++ [h x]) ds' E) (hl : acc.length + xs.length ≤ 100000) :
    lcGo own g t f acc (xs.map c) E = .ok (acc ++ xs.map h) E := by
  rw [lcGo_flt (p := fun _ => true) (h := h) xs acc (fun x hx acc ds' ha => by rw [if_pos rfl]; exact hs x hx acc ds' ha) hl, List.filter_eq_self.mpr (fun _ _ => rfl)]
theorem dcGo_map {c : α → D} {st : σ → D} {nxt : σ → α → σ} (ok : σ → Nat → Prop) (hok : ∀ a n x, ok a (n + 1) → ok (nxt a x) n) : ∀ (xs : List α) (a : σ), ok a xs.length → (∀ x ∈ xs, ∀ a ds' n, ok a (n + 1) → dcGo own g t fk fv (st a) (c x :: ds') E = dcGo own g t fk fv (st (nxt a x)) ds' E) →
    dcGo own g t fk fv (st a) (xs.map c) E = .ok (st (xs.foldl nxt a)) E
  | [], a, _, _ => rfl
  | x :: xs, a, ho, hs => by
    rw [List.map_cons, hs x List.mem_cons_self a _ _ ho, dcGo_map ok hok xs (nxt a x) (hok _ _ _ ho) (fun d' h' => hs d' (List.mem_cons_of_mem _ h'))]
    rfl
/-- a loop, what is kept named by σ; I holds before each turn -/
theorem loop_map {c : α → D} {st : σ → En} {nxt : σ → α → σ} (I : σ → List α → Prop) (hI : ∀ s x xs, I s (x :: xs) → I (nxt s x) xs) : ∀ (xs : List α) (s : σ), I s xs → (∀ x xs' s ds', I s (x :: xs') → loop g body (c x :: ds') (st s) = loop g body ds' (st (nxt s x))) →
    loop g body (xs.map c) (st s) = .ok .nx (st (xs.foldl nxt s))
  | [], s, _, _ => rfl
  | x :: xs, s, hi, hs => by
    rw [List.map_cons, hs x xs s _ hi, loop_map I hI xs (nxt s x) (hI _ _ _ hi) hs]
    rfl
end
end DL
-- VF
namespace DL
open PySem PySem.Spec PyProof.Rows L2
section
variable {E E1 E2 E3 : En} {d c c' v d0 z : D} {rk r : R} {g : D → D → Option R} {fi fv : M R} {ds : List D} {i : Nat} {k : Int}
@[irreducible] def ag6 (i : Nat) (E : En) (r : Option D) : Rs Fl := match r with | some c' => .ok .nx (E.set i (.ow c')) | none => .no
@[irreducible] def ag5 (i : Nat) (c : D) (k : Int) (E : En) (r : Option R) : Rs Fl := match r with | some (.fz z) => ag6 i E (putL c (.int k) z) | _ => .no
@[irreducible] def ag4 (i : Nat) (g : D → D → Option R) (k : Int) (d0 : D) (E : En) (r : Option D) (s : Option Sl) : Rs Fl := match r, s with
  | some d, some (.ow c) => ag5 i c k E (g d0 d)
  | _, _ => .no
@[irreducible] def ag3 (i : Nat) (g : D → D → Option R) (k : Int) (d0 : D) (r : Rs R) : Rs Fl := match r with
  | .ok r E1 => ag4 i g k d0 E1 (pk r E1) E1[i]?
  | .ex x E => .ex x E
  | .no => .no
@[irreducible] def ag2b (i : Nat) (g : D → D → Option R) (fv : M R) (k : Int) (E : En) (r : Option D) : Rs Fl := match r with
  | some d0 => ag3 i g k d0 (fv E)
  | none => .no
@[irreducible] def ag2 (i : Nat) (g : D → D → Option R) (fv : M R) (E : En) (s : Option Sl) (r : Option D) : Rs Fl := match s, r with
  | some (.ow (.lst ds)), some (.int k) => ag2b i g fv k E (L2.atI ds k)
  | _, _ => .no
@[irreducible] def ag1 (i : Nat) (g : D → D → Option R) (fv : M R) (r : Rs R) : Rs Fl := match r with
  | .ok rk E => ag2 i g fv E E[i]? (pk rk E)
  | .ex x E => .ex x E
  | .no => .no
theorem q_augS (h : isOw i E = true) : sAugS i g fi fv E = ag1 i g fv (fi E) := by
  unfold sAugS M.bnd
  dsimp only
  rw [if_pos h]
  unfold ag1
  cases fi E with
  | ok rk E1 =>
    dsimp only
    generalize E1[i]? = s
    generalize pk rk E1 = q
    unfold ag2
    cases s with
    | none => rfl
    | some sl =>
      cases sl with
      | ow c =>
        cases c with
        | lst ds =>
          cases q with
          | none => rfl
          | some kk =>
            cases kk with
            | int k =>
              dsimp only
              cases L2.atI ds k with
              | none => unfold ag2b; rfl
              | some d0 =>
                unfold ag2b ag3
                dsimp only
                cases fv E1 with
                | ok r E2 =>
                  dsimp only
                  generalize E2[i]? = s2
                  generalize pk r E2 = q2
                  unfold ag4
                  cases q2 with
                  | none => rfl
                  | some d =>
                    cases s2 with
                    | none => rfl
                    | some sl2 =>
                      cases sl2 with
                      | ow c2 =>
                        dsimp only
                        unfold ag5
                        cases g d0 d with
                        | none => rfl
                        | some z => cases z <;> (try unfold ag6) <;> rfl
                      | _ => rfl
                | ex x e => rfl
                | no => rfl
            | _ => rfl
        | _ => cases q <;> rfl
      | _ => cases q <;> rfl
  | ex x e => rfl
  | no => rfl
@[irreducible] def ag0 (i : Nat) (g : D → D → Option R) (fi fv : M R) (s : Option Sl) (E : En) : Rs Fl := match s with
  | some (.ow _) => ag1 i g fv (fi E)
  | _ => .no
theorem q_augS' : sAugS i g fi fv E = ag0 i g fi fv E[i]? E := by
  by_cases hw : isOw i E = true
  · rw [q_augS hw]
    obtain ⟨c, hc⟩ := isOw_some hw
    unfold ag0
    rw [hc]
  · unfold ag0
    split
    · rename_i c hc
      exact absurd (by unfold isOw; rw [hc]) hw
    · unfold sAugS
      rw [if_neg hw]
theorem q_ag0 : ag0 i g fi fv (some (.ow c)) E = ag1 i g fv (fi E) := by unfold ag0; rfl
theorem q_ag1 : ag1 i g fv (.ok rk E) = ag2 i g fv E E[i]? (pk rk E) := by unfold ag1; rfl
theorem q_ag2 : ag2 i g fv E (some (.ow (.lst ds))) (some (.int k)) = ag2b i g fv k E (L2.atI ds k) := by unfold ag2; rfl
theorem q_ag2b : ag2b i g fv k E (some d0) = ag3 i g k d0 (fv E) := by unfold ag2b; rfl
theorem q_ag3 : ag3 i g k d0 (.ok r E) = ag4 i g k d0 E (pk r E) E[i]? := by unfold ag3; rfl
theorem q_ag4 : ag4 i g k d0 E (some d) (some (.ow c)) = ag5 i c k E (g d0 d) := by unfold ag4; rfl
theorem q_ag5 : ag5 i c k E (some (.fz z)) = ag6 i E (putL c (.int k) z) := by unfold ag5; rfl
theorem q_ag6 : ag6 i E (some c') = .ok .nx (E.set i (.ow c')) := by unfold ag6; rfl
end
theorem y_at (ds : List D) (k : Nat) : L2.atI ds (k : Int) = ds[k]? := by
  simp only [L2.atI, ixN]
  by_cases h : (k : Int) < (ds.length : Int)
  · rw [if_pos (by omega), if_pos h]; rfl
  · rw [if_pos (by omega), if_neg h]
    have : ds.length ≤ k := by omega
    rw [List.getElem?_eq_none this]; rfl
theorem y_or (a b : Int) : gOr (.int a) (.int b) = some (.fz (.int (Builtin.bitOr a b))) := rfl
theorem y_and (a b : Int) : gAnd (.int a) (.int b) = some (.fz (.int (Builtin.bitAnd a b))) := rfl
theorem y_shl (a : Int) (k : Nat) (ha : a.natAbs < 2 ^ 64) (h : k ≤ 1000000) : gShl (.int a) (.int (k : Int)) = some (.fz (.int (a * 2 ^ k))) := by
  unfold gShl gI
  dsimp only
  rw [if_pos (decide_eq_true ⟨by omega, by omega, ha⟩)]
  rfl
theorem y_shr (a : Int) (k : Nat) : gShr (.int a) (.int (k : Int)) = some (.fz (.int (a / 2 ^ k))) := by
  unfold gShr gI
  dsimp only
  rw [if_pos (decide_eq_true (by omega))]
  rfl
theorem flat_rep (d : D) : ∀ k : Nat, (List.replicate k [d]).flatten = List.replicate k d
  | 0 => rfl
  | n + 1 => by rw [List.replicate_succ, List.flatten_cons, flat_rep d n]; rfl
/-- row * k -/
theorem y_rep1 (d : D) (k : Nat) (h : k ≤ 100000) : gMulA (.lst [d]) (.int (k : Int)) = some (.fs (.lst (List.replicate k d))) := by
  have h3 : [d].length * (k : Int).toNat ≤ 100000 := by rw [Int.toNat_natCast]; show 1 * k ≤ _; omega
  have h1 : (k : Int) < 2 ^ 62 := by omega
  have h2 : -(2 ^ 62) ≤ (k : Int) := by omega
  unfold gMulA
  dsimp only
  unfold gMul
  simp only [if_pos (And.intro h1 (And.intro h2 h3))]
  rw [Int.toNat_natCast, flat_rep]
end DL
-- VG
namespace DL
open PySem PySem.Spec PyProof.Rows L2
section
variable {E E1 : En} {t : M Bool} {body : M Fl} {n : Nat} {r : R} {x : Xn}
@[irreducible] def wl2 (t : M Bool) (body : M Fl) (n : Nat) (r : Rs Fl) : Rs Fl := match r with
  | .ok .nx E2 => wloop t body n E2
  | .ok .ct E2 => wloop t body n E2
  | .ok .bk E2 => .ok .nx E2
  | .ok (.rt r) E2 => .ok (.rt r) E2
  | .ex x E2 => .ex x E2
  | .no => .no
@[irreducible] def wl1 (t : M Bool) (body : M Fl) (n : Nat) (r : Rs Bool) : Rs Fl := match r with
  | .ok false E1 => .ok .nx E1
  | .ok true E1 => wl2 t body n (body E1)
  | .ex x E1 => .ex x E1
  | .no => .no
theorem q_wl : wloop t body (n + 1) E = wl1 t body n (t E) := by
  unfold wl1
  rw [wloop]
  dsimp only
  generalize t E = r
  cases r with
  | ok b E1 =>
    cases b with
    | false => rfl
    | true =>
      dsimp only
      unfold wl2
      generalize body E1 = r2
      cases r2 with
      | ok fl E2 => cases fl <;> rfl
      | ex x e => rfl
      | no => rfl
  | ex x e => rfl
  | no => rfl
theorem q_wl1f : wl1 t body n (.ok false E) = .ok .nx E := by unfold wl1; rfl
theorem q_wl1t : wl1 t body n (.ok true E) = wl2 t body n (body E) := by unfold wl1; rfl
theorem q_wl2n : wl2 t body n (.ok .nx E) = wloop t body n E := by unfold wl2; rfl
theorem q_wl2c : wl2 t body n (.ok .ct E) = wloop t body n E := by unfold wl2; rfl
theorem q_wl2b : wl2 t body n (.ok .bk E) = .ok .nx E := by unfold wl2; rfl
theorem q_wl2r : wl2 t body n (.ok (.rt r) E) = .ok (.rt r) E := by unfold wl2; rfl
theorem q_wl2x : wl2 t body n (.ex x E) = .ex x E := by unfold wl2; rfl
end
/-- list(range(n)) -/
def gLR1 : D → Option R
  | .int n => if n ≤ 100000 ∧ 0 ≤ n then some (.fs (.lst (rngD 0 n.toNat))) else none
  | _ => none
theorem q_lr1 {f : M R} : mLR1 f = mUn gLR1 f := rfl
theorem y_lr1 (n : Nat) (h : n ≤ 100000) : gLR1 (.int (n : Int)) = some (.fs (.lst (rngD 0 n))) := by
  unfold gLR1
  dsimp only
  rw [if_pos ⟨by omega, by omega⟩, Int.toNat_natCast]
theorem y_min (n : Int) (ns : List Int) : gMin [.lst ((n :: ns).map .int)] = some (.fz (.int (ns.foldl min n))) := by
  unfold gMin
  dsimp only
  rw [unIs_map]
theorem y_min2 (i j : Int) : gMin [.int i, .int j] = some (.fz (.int (if j < i then j else i))) := rfl
theorem y_max2 (i j : Int) : gMax [.int i, .int j] = some (.fz (.int (if j > i then j else i))) := rfl
theorem y_tupL (ds : List D) : gTuple [.lst ds] = some (.fz (.tup ds)) := rfl
theorem y_tupT (ds : List D) : gTuple [.tup ds] = some (.fz (.tup ds)) := rfl
end DL
-- VH
namespace DL
open PySem PySem.Spec PyProof.Rows L2
section
variable {E E1 : En} {f : M R} {r : R} {x : Xn} {ds : List D}
def en0 (d : D) (E : En) : Rs (List D) := match d with
  | .tup ds => .ok (enumD 0 ds) E
  | .tpf ds => .ok (enumD 0 ds) E
  | _ => .no
@[irreducible] def en2 (r : Rs D) : Rs (List D) := match r with
  | .ok d E => en0 d E
  | .ex x E => .ex x E
  | .no => .no
@[irreducible] def en1 (r : Rs R) : Rs (List D) := match r with
  | .ok r E => en2 (take r E)
  | .ex x E => .ex x E
  | .no => .no
theorem q_enum : mEnum f E = en1 (f E) := by
  unfold en1 mEnum M.bnd
  generalize f E = z
  cases z with
  | ok r E1 =>
    dsimp only
    unfold en2
    generalize take r E1 = z2
    cases z2 with
    | ok d E2 => cases d <;> rfl
    | _ => rfl
  | _ => rfl
theorem q_en1 : en1 (.ok r E) = en2 (take r E) := by unfold en1; rfl
theorem q_en2 : en2 (.ok (.tup ds) E) = .ok (enumD 0 ds) E := by unfold en2; rfl
theorem q_en2f : en2 (.ok (.tpf ds) E) = .ok (enumD 0 ds) E := by unfold en2; rfl
end
def dkI (kvs : List (Int × D)) : D := .dk (kvs.map fun e => (.inl e.1, e.2))
theorem dkI_nil : D.dk [] = dkI [] := rfl
theorem inl_inj {a b : Int} : (Sum.inl a : Key) = Sum.inl b ↔ a = b := ⟨fun h => by injection h, fun h => by rw [h]⟩
theorem valD_inl (p : Int) : ∀ kvs : List (Int × D), valD (kvs.map fun e => ((.inl e.1 : Key), e.2)) (.inl p) = valD kvs p
  | [] => rfl
  | e :: r => by
    rw [List.map_cons, valD_cons, valD_cons, valD_inl p r]
    by_cases h : e.1 = p
    · rw [if_pos h, if_pos (inl_inj.mpr h)]
    · rw [if_neg h, if_neg (fun z => h (inl_inj.mp z))]
theorem any_inl (p : Int) (kvs : List (Int × D)) : ((kvs.map fun e => ((.inl e.1 : Key), e.2)).any fun e => decide (e.1 = .inl p)) = kvs.any fun e => decide (e.1 = p) := by
  rw [List.any_map]
  apply congrArg (fun f => kvs.any f)
  funext e
  show decide ((Sum.inl e.1 : Key) = Sum.inl p) = decide (e.1 = p)
  exact decide_eq_decide.mpr inl_inj
theorem putD_inl (p : Int) (d : D) (kvs : List (Int × D)) : putD (kvs.map fun e => ((.inl e.1 : Key), e.2)) (.inl p) d = (putD kvs p d).map fun e => (.inl e.1, e.2) := by
  unfold putD
  rw [any_inl]
  split
  · rw [List.map_map, List.map_map]
    apply List.map_congr_left
    intro e _
    show (if (Sum.inl e.1 : Key) = Sum.inl p then ((Sum.inl e.1 : Key), d) else (Sum.inl e.1, e.2)) = (fun e : Int × D => ((Sum.inl e.1 : Key), e.2)) (if e.1 = p then (e.1, d) else e)
    by_cases h : e.1 = p
    · rw [if_pos h, if_pos (inl_inj.mpr h)]
    · rw [if_neg h, if_neg (fun z => h (inl_inj.mp z))]
  · rw [List.map_append]; rfl
theorem y_dgetI (p : Int) (kvs : List (Int × D)) : dGet (dkI kvs) (.int p) = some (valD kvs p) := by
  show (keyD (.int p)).map (valD _) = _
  rw [← valD_inl]; rfl
theorem y_dputI (p : Int) (d : D) (kvs : List (Int × D)) (h : kvs.length < 100000) : dPut (dkI kvs) (.int p) d = some (dkI (putD kvs p d)) := by
  show (if (kvs.map fun e => ((.inl e.1 : Key), e.2)).length < 100000 then (keyD (.int p)).map (fun k => D.dk (putD _ k d)) else none) = _
  rw [List.length_map, if_pos h]
  unfold dkI
  rw [← putD_inl]; rfl
theorem y_ixDk {p : Int} {d : D} {kvs : List (Int × D)} (h : valD kvs p = some d) : gIxA (dkI kvs) (.int p) = some (.fz d) := by
  have e := y_dgetI p kvs
  rw [h] at e
  unfold dkI at *
  unfold gIxA
  rw [e]
/-- where each one stands -/
def placesD : Nat → List Int → List (Int × D) → List (Int × D)
  | _, [], kvs => kvs
  | k, x :: xs, kvs => placesD (k + 1) xs (putD kvs x (.int k))
theorem placesD_out (x : Int) : ∀ (xs : List Int) (k : Nat) (kvs : List (Int × D)), x ∉ xs → valD (placesD k xs kvs) x = valD kvs x
  | [], _, _, _ => rfl
  | y :: xs, k, kvs, h => by
    rw [placesD, placesD_out x xs _ _ (fun z => h (List.mem_cons_of_mem _ z)), valD_put, if_neg (fun z => h (by rw [z]; exact List.mem_cons_self))]
theorem placesD_in (x : Int) : ∀ (xs : List Int) (k : Nat) (kvs : List (Int × D)), xs.Nodup → x ∈ xs → valD (placesD k xs kvs) x = some (.int ((k + xs.idxOf x : Nat) : Int))
  | [], _, _, _, h => nomatch h
  | y :: xs, k, kvs, hn, h => by
    rw [placesD]
    obtain ⟨h1, h2⟩ := List.nodup_cons.mp hn
    by_cases e : y = x
    · subst e
      rw [placesD_out y xs _ _ h1, valD_put, if_pos rfl, List.idxOf_cons_self, Nat.add_zero]
    · have hm : x ∈ xs := by
        rcases List.mem_cons.mp h with z | z
        · exact absurd z.symm e
        · exact z
      have hi : (y :: xs).idxOf x = xs.idxOf x + 1 := by rw [List.idxOf_cons, beq_eq_false_iff_ne.mpr e]; rfl
      rw [placesD_in x xs (k + 1) _ h2 hm, hi, show k + 1 + xs.idxOf x = k + (xs.idxOf x + 1) by omega]
end DL
-- VI
namespace DL
open PySem PySem.Spec PyProof.Rows L2
section
variable {E E1 : En} {own : List Nat} {g : D → B} {t : M Bool} {f : M R} {acc : List (List Int)} {ds : List D} {d v : D} {r : R} {it : M (List D)} {z : List (List Int) → Option R} {k : List Int}
@[irreducible] def sc4 (own : List Nat) (g : D → B) (t : M Bool) (f : M R) (acc : List (List Int)) (ds : List D) (E : En) (r : Option (List Int)) : Rs (List (List Int)) := match r with
  | some k => if acc.length < 63 then scGo own g t f (putK k acc) ds (wipeE E own) else .no
  | none => .no
@[irreducible] def sc3 (own : List Nat) (g : D → B) (t : M Bool) (f : M R) (acc : List (List Int)) (ds : List D) (r : Rs D) : Rs (List (List Int)) := match r with
  | .ok v E4 => sc4 own g t f acc ds E4 (unT v)
  | _ => .no
@[irreducible] def sc2 (own : List Nat) (g : D → B) (t : M Bool) (f : M R) (acc : List (List Int)) (ds : List D) (r : Rs R) : Rs (List (List Int)) := match r with
  | .ok r E3 => sc3 own g t f acc ds (take r E3)
  | _ => .no
@[irreducible] def sc1 (own : List Nat) (g : D → B) (t : M Bool) (f : M R) (acc : List (List Int)) (ds : List D) (r : Rs Bool) : Rs (List (List Int)) := match r with
  | .ok false E2 => scGo own g t f acc ds (wipeE E2 own)
  | .ok true E2 => sc2 own g t f acc ds (f E2)
  | _ => .no
@[irreducible] def sc0 (own : List Nat) (g : D → B) (t : M Bool) (f : M R) (acc : List (List Int)) (ds : List D) (r : Option En) : Rs (List (List Int)) := match r with
  | some E1 => sc1 own g t f acc ds (t E1)
  | none => .no
theorem q_sc_0 : scGo own g t f acc [] E = .ok acc E := rfl
theorem q_sc : scGo own g t f acc (d :: ds) E = sc0 own g t f acc ds (g d E) := by
  unfold sc0
  cases z : g d E with
  | none => exact scGo_none z
  | some E1 =>
    dsimp only
    unfold sc1
    cases zt : t E1 with
    | ok b E2 =>
      cases b with
      | false => exact scGo_false z zt
      | true =>
        dsimp only
        unfold sc2
        cases zf : f E2 with
        | ok r E3 =>
          dsimp only
          unfold sc3
          cases zk : take r E3 with
          | ok v E4 =>
            dsimp only
            unfold sc4
            cases zu : unT v with
            | none => exact scGo_nou z zt zf zk zu
            | some k => exact scGo_true z zt zf zk zu
          | ex x e => exact (take_no zk).elim
          | no => exact scGo_nok z zt zf zk
        | ex x e => exact scGo_nof z zt (by rw [zf]; exact fun _ _ y => nomatch y)
        | no => exact scGo_nof z zt (by rw [zf]; exact fun _ _ y => nomatch y)
    | ex x e => exact scGo_not z (by rw [zt]; exact fun _ _ y => nomatch y)
    | no => exact scGo_not z (by rw [zt]; exact fun _ _ y => nomatch y)
theorem q_sc0 : sc0 own g t f acc ds (some E) = sc1 own g t f acc ds (t E) := by unfold sc0; rfl
theorem q_sc1f : sc1 own g t f acc ds (.ok false E) = scGo own g t f acc ds (wipeE E own) := by unfold sc1; rfl
theorem q_sc1t : sc1 own g t f acc ds (.ok true E) = sc2 own g t f acc ds (f E) := by unfold sc1; rfl
theorem q_sc2 : sc2 own g t f acc ds (.ok r E) = sc3 own g t f acc ds (take r E) := by unfold sc2; rfl
theorem q_sc3 : sc3 own g t f acc ds (.ok v E) = sc4 own g t f acc ds E (unT v) := by unfold sc3; rfl
theorem q_sc4 (h : acc.length < 63) : sc4 own g t f acc ds E (some k) = scGo own g t f (putK k acc) ds (wipeE E own) := by unfold sc4; simp only [if_pos h]
@[irreducible] def msc2 (own : List Nat) (z : List (List Int) → Option R) (E : En) (r : Rs (List (List Int))) : Rs R := match r with
  | .ok acc E' => (match z acc with
    | some r => .ok r (rest0 own E E')
    | none => .no)
  | _ => .no
@[irreducible] def msc1 (own : List Nat) (g : D → B) (t : M Bool) (f : M R) (z : List (List Int) → Option R) (r : Rs (List D)) : Rs R := match r with
  | .ok ds E => if noOwn own E = true then msc2 own z E (scGo own g t f [] ds (wipeE E own)) else .no
  | .ex x E => .ex x E
  | .no => .no
theorem q_msc : mSc own it g t f z E = msc1 own g t f z (it E) := by
  unfold msc1 mSc M.bnd
  cases it E with
  | ok ds E1 =>
    dsimp only
    by_cases e : noOwn own E1 = true
    · rw [if_pos e, if_pos e]; unfold msc2; rfl
    · rw [if_neg e, if_neg e]
  | ex x E1 => rfl
  | no => rfl
theorem q_msc1 (h : noOwn own E = true) : msc1 own g t f z (.ok ds E) = msc2 own z E (scGo own g t f [] ds (wipeE E own)) := by unfold msc1; simp only [if_pos h]
theorem q_msc2L : msc2 own zLen E1 (.ok acc E) = .ok (.fz (.int acc.length)) (rest0 own E1 E) := by unfold msc2 zLen; rfl
theorem putK_length (k : List Int) (acc : List (List Int)) : (putK k acc).length ≤ acc.length + 1 := by
  unfold putK
  split
  · omega
  · simp
theorem putK_new {k : List Int} {acc : List (List Int)} (h : k ∉ acc) : putK k acc = acc ++ [k] := by
  unfold putK
  rw [if_neg (by simpa using h)]
theorem scGo_map {α : Type} {c : α → D} {h : α → List Int} : ∀ (xs : List α) (acc : List (List Int)), acc.length + xs.length ≤ 63 → (∀ x ∈ xs, ∀ acc ds', acc.length < 63 → scGo own g t f acc (c x :: ds') E = scGo own g t f (putK (h x) acc) ds' E) →
    scGo own g t f acc (xs.map c) E = .ok (xs.foldl (fun acc x => putK (h x) acc) acc) E
  | [], acc, _, _ => rfl
  | x :: xs, acc, hl, hs => by
    rw [List.length_cons] at hl
    rw [List.map_cons, hs x List.mem_cons_self acc _ (by omega), scGo_map xs (putK (h x) acc) (by have := putK_length (h x) acc; omega) (fun d' h' => hs d' (List.mem_cons_of_mem _ h'))]
    rfl
end
end DL
-- VJ
namespace DL
open PySem PySem.Spec PyProof.Rows L2
theorem y_sortBL (ds : List D) : gSortedB [.lst ds] = gSortedA [.lst ds] := rfl
theorem y_sortBF (ds : List D) : gSortedB [.tpf ds] = gSortedA [.tpf ds] := rfl
theorem y_sortBI (ns : List Int) : gSortedB [.tup (ns.map .int)] = some (.fs (.lst ((sortI ns).map .int))) := by
  unfold gSortedB
  dsimp only
  rw [unIs_map]
theorem y_sortBP (ps : List (Int × Int)) : gSortedB [.tup (ps.map pD)] = some (.fs (.lst ((sortP ps).map pD))) := by
  unfold gSortedB
  cases ps with
  | nil => rfl
  | cons p ps =>
    dsimp only
    rw [show unIs ((p :: ps).map pD) = none from rfl]
    dsimp only
    rw [unPs_map]
end DL
-- VK
namespace DL
open PySem PySem.Spec PyProof.Rows L2
section
variable {E E1 : En} {d c c' k : D} {r rk : R} {fi fv : M R} {i : Nat}
@[irreducible] def pa5 (i : Nat) (E : En) (r : Option D) : Rs Fl := match r with | some c' => .ok .nx (E.set i (.ow c')) | none => .no
@[irreducible] def pa4 (i : Nat) (d : D) (E : En) (s : Option Sl) (k : Option D) : Rs Fl := match s, k with
  | some (.ow c), some k => pa5 i E (putA c k d)
  | _, _ => .no
@[irreducible] def pa3 (i : Nat) (d : D) (r : Rs R) : Rs Fl := match r with
  | .ok rk E1 => pa4 i d E1 E1[i]? (pk rk E1)
  | .ex x E => .ex x E
  | .no => .no
@[irreducible] def pa2 (i : Nat) (fi : M R) (d : D) (E : En) (s : Option Sl) : Rs Fl := match s with
  | some (.ow _) => pa3 i d (fi E)
  | _ => .no
@[irreducible] def pa1 (i : Nat) (fi : M R) (r : Rs D) : Rs Fl := match r with
  | .ok d E => pa2 i fi d E E[i]?
  | .ex x E => .ex x E
  | .no => .no
@[irreducible] def pa0 (i : Nat) (fi : M R) (r : Rs R) : Rs Fl := match r with
  | .ok r E => pa1 i fi (take r E)
  | .ex x E => .ex x E
  | .no => .no
theorem q_putA : sPutA i fv fi E = pa0 i fi (fv E) := by
  unfold sPutA pa0 M.bnd
  generalize fv E = z
  cases z with
  | ok r E1 =>
    dsimp only
    unfold pa1
    generalize take r E1 = z2
    cases z2 with
    | ok d E2 =>
      dsimp only
      unfold pa2
      by_cases hw : isOw i E2 = true
      · obtain ⟨c, hc⟩ := isOw_some hw
        rw [if_pos hw, hc]
        dsimp only
        unfold pa3
        generalize fi E2 = z3
        cases z3 with
        | ok rk E3 =>
          dsimp only
          unfold pa4
          split
          · unfold pa5
            first | rfl | (split <;> simp_all)
          · first | rfl | (split <;> simp_all)
        | _ => rfl
      · rw [if_neg hw]
        split
        · rename_i c hc
          exact absurd (by unfold isOw; rw [hc]) hw
        · rfl
    | _ => rfl
  | _ => rfl
theorem q_pa0 : pa0 i fi (.ok r E) = pa1 i fi (take r E) := by unfold pa0; rfl
theorem q_pa1 : pa1 i fi (.ok d E) = pa2 i fi d E E[i]? := by unfold pa1; rfl
theorem q_pa2 : pa2 i fi d E (some (.ow c)) = pa3 i d (fi E) := by unfold pa2; rfl
theorem q_pa3 : pa3 i d (.ok rk E) = pa4 i d E E[i]? (pk rk E) := by unfold pa3; rfl
theorem q_pa4 : pa4 i d E (some (.ow c)) (some k) = pa5 i E (putA c k d) := by unfold pa4; rfl
theorem q_pa5 : pa5 i E (some c) = .ok .nx (E.set i (.ow c)) := by unfold pa5; rfl
end
end DL
-- VL
namespace DL
open PySem PySem.Spec PyProof.Rows L2
theorem a_mulI (i j : Int) : gMulA (.int i) (.int j) = gMul (.int i) (.int j) := rfl
theorem a_putL (ds : List D) (k d : D) : putA (.lst ds) k d = putL (.lst ds) k d := rfl
end DL
-- SR
namespace DL
open PySem PySem.Spec PyProof.Rows L2
section
variable {X : Cx} {W : WX} {F F1 F' : Hp} {E E1 E' : En} {σ σ1 σ' : L2.St} {H H1 H' : Hp} {own : List Nat}
/-- the list in slot i -/
def lookL (i : Nat) (E : En) : Option (List D) := match E[i]? with
  | some (.ow (.lst ds)) => some ds
  | some (.fr (.lst ds)) => some ds
  | _ => none
theorem lookL_ok {i : Nat} {ds : List D} (r : Rel X F E σ H) (h : lookL i E = some ds) : ∃ p vs, σ[i]? = some (some (.ref p)) ∧ H p = some (.lst vs) ∧ IsAll X.K X.mg F vs ds := by
  unfold lookL at h
  cases z : E[i]? with
  | none => rw [z] at h; cases h
  | some sl =>
    rw [z] at h
    cases sl with
    | un => cases h
    | fr d =>
      cases d with
      | lst xs =>
        cases h
        obtain ⟨v, h1, h2⟩ := r.fr i _ z
        cases h2 with
        | lst q q2 => exact ⟨_, _, h1, r.le _ _ q, q2⟩
      | _ => cases h
    | ow d =>
      cases d with
      | lst xs =>
        cases h
        obtain ⟨p, h1, h2, vs, h3, h4⟩ := r.ow i _ z
        exact ⟨p, vs, h1, h3, h4⟩
      | _ => cases h
/-- n: turns that may still come; k: turns made -/
def lcGoS (own : List Nat) (i : Nat) (g : D → B) (t : M Bool) (f : M R) : Nat → Nat → List D → M (List D)
  | 0, _, _ => fun _ => .no
  | n + 1, k, acc => fun E => match lookL i E with
    | none => .no
    | some ds => match ds[k]? with
      | none => .ok acc E
      | some d => match g d E with
        | none => .no
        | some E1 => match t E1 with
          | .ok false E2 => lcGoS own i g t f n (k + 1) acc (wipeE E2 own)
          | .ok true E2 => (match f E2 with
            | .ok r E3 => (match take r E3 with
              | .ok v E4 => if acc.length < 100000 then lcGoS own i g t f n (k + 1) (acc ++ [v]) (wipeE E4 own) else .no
              | _ => .no)
            | _ => .no)
          | _ => .no
def mLcS (own : List Nat) (i : Nat) (g : D → B) (t : M Bool) (f : M R) : M R := fun E => if noOwn own E = true ∧ i ∉ own then (match lcGoS own i g t f 100000 0 [] (wipeE E own) with
  | .ok acc E' => .ok (.fs (.lst acc)) (rest0 own E E')
  | _ => .no) else .no
def wiS (X : Cx) (i : Nat) : TI := fun σ H R => ∃ p, σ[i]? = some (some (.ref p)) ∧ (∃ xs, SqL X.K H p xs) ∧ R (Itl X.K p) H
theorem pi_nameS (i : Nat) {x : Str} {pos : Pos} {tg : Expr} (hN : X.N[i]? = some x) (hv : Vis X.env.scope x) (hd : (x == ("__debug__" : Str)) = false) (hcd : (x == ("__classdict__" : Str)) = false) :
    PI X tg (.Name x pos) (wiS X i) :=
  pi_mono (pi_seq (pe_var hN hv hd hcd)) fun σ H R ⟨p, h1, h2, h3⟩ => ⟨.ref p, h1, p, rfl, .inl ⟨h2, h3⟩⟩
/-- the core -/
theorem lcS_ok {i0 : Nat} {g : D → B} {t : M Bool} {f : M R} {Q : VK} (rel : Rel X F E σ H) (h : Good X W F E σ H (mLcS own i0 g t f) Q) :
    tLc (wiS X i0) (rdG X own g) (rdT X W0 t) (rdE X W0 f) own σ H Q := by
  unfold Good mLcS at h
  by_cases hn : noOwn own E = true ∧ i0 ∉ own
  · rw [if_pos hn] at h
    obtain ⟨hn, hi0⟩ := hn
    obtain ⟨a0, b0, hZ⟩ : ∃ a b, lcGoS own i0 g t f 100000 0 [] (wipeE E own) = .ok a b := by
      cases z : lcGoS own i0 g t f 100000 0 [] (wipeE E own) with
      | ok a b => exact ⟨a, b, rfl⟩
      | ex x e => simp only [z] at h
      | no => simp only [z] at h
    have hL : ∃ ds, lookL i0 (wipeE E own) = some ds := by
      cases z : lookL i0 (wipeE E own) with
      | some ds => exact ⟨ds, rfl⟩
      | none => rw [lcGoS] at hZ; simp only [z] at hZ; cases hZ
    have sb : Stp X F E σ H F (wipeE E own) (wipe σ own) H := stp_wipe own (Stp.refl rel)
    have rb := sb.rel
    obtain ⟨ds0, hL⟩ := hL
    obtain ⟨p, vs0, hp, hpH, _⟩ := lookL_ok rb hL
    have hpσ : σ[i0]? = some (some (.ref p)) := by rw [wipe_out hi0] at hp; exact hp
    refine ⟨p, hpσ, ⟨vs0, .inl (.inl hpH)⟩, ?_⟩
    intro D0 hD
    refine ⟨fun i m H' => ∃ F' E' acc ws, Stp X F (wipeE E own) (wipe σ own) H F' E' (wipe σ own) H' ∧ F' D0 = none ∧ ¬ Own E' (wipe σ own) D0 ∧ H' D0 = some (.lst ws) ∧ IsAll X.K X.mg F' ws acc ∧
        lcGoS own i0 g t f m i acc E' = .ok a0 b0, ⟨100000, F, wipeE E own, [], [], ?_⟩, fun i m H' hW => ?_⟩
    · have n1 : F D0 = none := rb.le.free hD
      have n2 : ¬ Own (wipeE E own) (wipe σ own) D0 := not_own_new rb hD
      exact ⟨stp_updN (Stp.refl rb) n1 n2 hD, n1, n2, upd_same, .nil, hZ⟩
    · obtain ⟨F', E', acc, ws, s1, n1, n2, hH, hA, heq⟩ := hW
      cases m with
      | zero => cases heq
      | succ m =>
      cases hLk : lookL i0 E' with
      | none => rw [lcGoS] at heq; simp only [hLk] at heq; cases heq
      | some ds =>
        obtain ⟨p', vs, hp', hpH', hAll⟩ := lookL_ok s1.rel hLk
        have epp : p' = p := by rw [hp] at hp'; cases hp'; rfl
        subst epp
        cases hk : ds[i]? with
        | none =>
          rw [lcGoS] at heq
          simp only [hLk, hk] at heq
          refine .inl ⟨⟨vs, .inl (.inl hpH'), by rw [hAll.length]; exact List.getElem?_eq_none_iff.mp hk⟩, ?_⟩
          injection heq with e1 e2
          subst e1
          subst e2
          simp only [hZ] at h
          have s4 := stp_rest hn rel s1
          have hl : E.length = E'.length := by
            have h1 := s1.rel.len
            rw [wipe_length] at h1
            rw [rel.len, h1]
          exact h F' H' _ s4 ⟨D0, rfl, n1, fun wn => n2 (own_rest hn hl wn), ⟨ws, hH, hA⟩⟩ fun p e => by cases e; exact .inl hD
        | some d =>
          obtain ⟨v0, hv0, hv0I⟩ := hAll.get hk
          refine .inr ⟨⟨vs, v0, .inl (.inl hpH'), hv0⟩, fun H2 => ∃ F' E' acc ws, Stp X F (wipeE E own) (wipe σ own) H F' E' (wipe σ own) H2 ∧ F' D0 = none ∧ ¬ Own E' (wipe σ own) D0 ∧ H2 D0 = some (.lst ws) ∧ IsAll X.K X.mg F' ws acc ∧
            lcGoS own i0 g t f m (i + 1) acc E' = .ok a0 b0, fun H2 hN => ⟨m, by omega, hN⟩, fun x H2 hy => ?_⟩
          obtain ⟨rfl, hy2⟩ := hy
          have ex : x = v0 := by
            have := hy2 vs (.inl (.inl hpH'))
            rw [hv0] at this
            cases this; rfl
          subst ex
          refine ⟨F', E', d, s1.rel, hv0I, ?_⟩
          unfold GoodW
          rw [lcGoS] at heq
          simp only [hLk, hk] at heq
          cases z : g d E' with
          | none => simp only [z] at heq; cases heq
          | some E3 =>
            simp only [z] at heq
            intro F3 σ3 H3 s3 ag
            have ew : wipe σ3 own = wipe σ own := (wipe_eq ag).trans (wipe_wipe σ own)
            refine ⟨ew, F3, E3, s3.rel, ?_⟩
            unfold GoodB
            cases zt : t E3 with
            | ok b E4 =>
              simp only [zt] at heq
              simp only
              intro F4 H4 s4
              have s24 := s3.trans s4
              cases b with
              | false =>
                simp only [Bool.false_eq_true, if_false]
                simp only at heq
                obtain ⟨m1, m2, m3⟩ := free_kept s24 n1 n2 hH
                have s5 := stp_wipe own (s1.trans s24)
                rw [ew] at s5
                exact ⟨F4, wipeE E4 own, acc, ws, s5, m1, fun wn => m2 (own_wipe (vs := own) (by rw [ew]; exact wn)), m3, hA.mono s24.mono, heq⟩
              | true =>
                simp only [if_true]
                simp only at heq
                refine ⟨F4, E4, s4.rel, ?_⟩
                unfold Good
                cases zf : f E4 with
                | ok r E5 =>
                  simp only [zf] at heq
                  simp only
                  intro F5 H5 y s5 re nw
                  cases zk : take r E5 with
                  | ok v E6 =>
                    simp only [zk] at heq
                    obtain ⟨F6, s6, hI6⟩ := take_ok s5 re nw zk
                    have s26 := s24.trans s6
                    obtain ⟨m1, m2, m3⟩ := free_kept s26 n1 n2 hH
                    by_cases hl : acc.length < 100000
                    · rw [if_pos hl] at heq
                      refine ⟨ws, m3, line_lt (by rw [hA.length]; exact hl), F6, wipeE E6 own, acc ++ [v], ws ++ [y], ?_, m1, fun wn => m2 (own_wipe (vs := own) (by rw [ew]; exact wn)), upd_same, (hA.mono s26.mono).append (.cons hI6 .nil), heq⟩
                      have s7 := stp_wipe own (s1.trans s26)
                      rw [ew] at s7
                      exact stp_updN s7 m1 (fun wn => m2 (own_wipe (vs := own) (by rw [ew]; exact wn))) hD
                    · rw [if_neg hl] at heq; cases heq
                  | ex x e => exact (take_no zk).elim
                  | no => simp only [zk] at heq; cases heq
                | ex x e => simp only [zf] at heq; cases heq
                | no => simp only [zf] at heq; cases heq
            | ex x e => simp only [zt] at heq; cases heq
            | no => simp only [zt] at heq; cases heq
  · rw [if_neg hn] at h
    exact h.elim
variable {elt tg iter : Expr} {ifs : List Expr} {scope : Scope} {pos ppos : Pos} {g : D → B} {t : M Bool} {f : M R}
theorem d_lcS (i0 : Nat) {x : Str} (ow : List (Str × Nat)) (hx : X.N[i0]? = some x) (hv : Vis X.env.scope x) (hd : (x == ("__debug__" : Str)) = false) (hcd : (x == ("__classdict__" : Str)) = false) (hc : X.calm = true) (hN : X.N.Nodup) (ok : BlkOk X.N X.env.scope scope ow)
    (hg : ∀ (s : Shared) (H : Hp) (C : Addr) (cl : List (Str × Addr)) (fp : List Addr), DGw (X.blk s H scope (compEnvC scope cl C X.env) fp) (ow.map (·.2)) tg g) (ht : ∀ (s : Shared) (H : Hp) (C : Addr) (cl : List (Str × Addr)) (fp : List Addr), DTs (X.blk s H scope (compEnvC scope cl C X.env) fp) W0 ifs t)
    (he : ∀ (s : Shared) (H : Hp) (C : Addr) (cl : List (Str × Addr)) (fp : List Addr), DE (X.blk s H scope (compEnvC scope cl C X.env) fp) W0 elt f) (hs : ∀ y, foldedSetIterable (.Name x ppos) X.env y = pure y := by intro _; rfl) :
    DE X W (.ListComp elt [⟨tg, .Name x ppos, ifs, 0⟩] scope pos) (mLcS (ow.map (·.2)) i0 g t f) :=
  ⟨pe_mono (pe_lc (wi := wiS X i0) (g := rdG X (owS ow) g) (tt := rdT X W0 t) (te := rdE X W0 f) hc hN (pi_nameS i0 hx hv hd hcd) ok (fun s H C cl fp => (hg s H C cl fp).pg) (fun s H C cl fp => (ht s H C cl fp).pts) (fun s H C cl fp => (he s H C cl fp).pe) hs) fun σ H Q ⟨F, E, rel, h⟩ => lcS_ok rel h⟩
theorem s_setLcS {i : Nat} {y : Str} {py spos : Pos} (i0 : Nat) {x : Str} (ow : List (Str × Nat)) (hx : X.N[i0]? = some x) (hv : Vis X.env.scope x) (hd : (x == ("__debug__" : Str)) = false) (hcd : (x == ("__classdict__" : Str)) = false) (hc : X.calm = true) (hN : X.N.Nodup) (hy : X.N[i]? = some y) (hyl : X.env.scope.names.lookup y = some .local)
    (hsw : swapsWith (.ListComp elt [⟨tg, .Name x ppos, ifs, 0⟩] scope pos) (some (.Name y py)) spos.line X.env = pure true) (ok : BlkOk X.N X.env.scope scope ow)
    (hg : ∀ (s : Shared) (H : Hp) (C : Addr) (cl : List (Str × Addr)) (fp : List Addr), DGw (X.blk s H scope (compEnvC scope cl C X.env) fp) (ow.map (·.2)) tg g) (ht : ∀ (s : Shared) (H : Hp) (C : Addr) (cl : List (Str × Addr)) (fp : List Addr), DTs (X.blk s H scope (compEnvC scope cl C X.env) fp) W0 ifs t)
    (he : ∀ (s : Shared) (H : Hp) (C : Addr) (cl : List (Str × Addr)) (fp : List Addr), DE (X.blk s H scope (compEnvC scope cl C X.env) fp) W0 elt f) (hs : ∀ z, foldedSetIterable (.Name x ppos) X.env z = pure z := by intro _; rfl) :
    DS X W (.Assign [.Name y py] (.ListComp elt [⟨tg, .Name x ppos, ifs, 0⟩] scope pos) spos) (sSet i (mLcS (ow.map (·.2)) i0 g t f)) :=
  ⟨ps_mono (ps_setLc (wi := wiS X i0) (g := rdG X (owS ow) g) (tt := rdT X W0 t) (te := rdE X W0 f) hc hN hy hyl hsw (pi_nameS i0 hx hv hd hcd) ok (fun s H C cl fp => (hg s H C cl fp).pg) (fun s H C cl fp => (ht s H C cl fp).pts) (fun s H C cl fp => (he s H C cl fp).pe) hs) fun D σ H ⟨F, E, rel, h⟩ => lcS_ok rel (set_ok h)⟩
end
end DL
-- VM
namespace DL
open PySem PySem.Spec PyProof.Rows L2
section
variable {α : Type} {E E1 : En} {own : List Nat} {g : D → B} {t : M Bool} {f : M R} {i : Nat} {d v : D} {r : R}
@[irreducible] def ls4 (own : List Nat) (r : Rs D) : Rs (Option D) := match r with | .ok v E => .ok (some v) (wipeE E own) | _ => .no
@[irreducible] def ls3 (own : List Nat) (r : Rs R) : Rs (Option D) := match r with | .ok r E => ls4 own (take r E) | _ => .no
@[irreducible] def ls2 (own : List Nat) (f : M R) (r : Rs Bool) : Rs (Option D) := match r with | .ok false E => .ok none (wipeE E own) | .ok true E => ls3 own (f E) | _ => .no
@[irreducible] def ls1 (own : List Nat) (t : M Bool) (f : M R) (r : Option En) : Rs (Option D) := match r with | none => .no | some E => ls2 own f (t E)
@[irreducible] def ls0 (own : List Nat) (g : D → B) (t : M Bool) (f : M R) (d : D) (E : En) : Rs (Option D) := ls1 own t f (g d E)
theorem q_ls0 : ls0 own g t f d E = ls1 own t f (g d E) := by unfold ls0; rfl
theorem q_ls1 : ls1 own t f (some E) = ls2 own f (t E) := by unfold ls1; rfl
theorem q_ls2f : ls2 own f (.ok false E) = .ok none (wipeE E own) := by unfold ls2; rfl
theorem q_ls2t : ls2 own f (.ok true E) = ls3 own (f E) := by unfold ls2; rfl
theorem q_ls3 : ls3 own (.ok r E) = ls4 own (take r E) := by unfold ls3; rfl
theorem q_ls4 : ls4 own (.ok v E) = .ok (some v) (wipeE E own) := by unfold ls4; rfl
theorem lcGoS_turn {n k : Nat} {acc ds : List D} {o : Option D} (hL : lookL i E = some ds) (hd : ds[k]? = some d) (hs : ls0 own g t f d E = .ok o E1) (ha : acc.length < 100000) :
    lcGoS own i g t f (n + 1) k acc E = lcGoS own i g t f n (k + 1) (match o with | some v => acc ++ [v] | none => acc) E1 := by
  rw [lcGoS]
  simp only [hL, hd]
  rw [q_ls0] at hs
  cases z : g d E with
  | none => rw [z] at hs; unfold ls1 at hs; cases hs
  | some E2 =>
    rw [z, q_ls1] at hs
    simp only
    cases z2 : t E2 with
    | ok b E3 =>
      rw [z2] at hs
      cases b with
      | false => rw [q_ls2f] at hs; cases hs; rfl
      | true =>
        rw [q_ls2t] at hs
        simp only
        cases z3 : f E3 with
        | ok r E4 =>
          rw [z3, q_ls3] at hs
          simp only
          cases z4 : take r E4 with
          | ok v E5 => rw [z4, q_ls4] at hs; cases hs; simp only [if_pos ha]
          | ex x e => rw [z4] at hs; unfold ls4 at hs; cases hs
          | no => rw [z4] at hs; unfold ls4 at hs; cases hs
        | ex x e => rw [z3] at hs; unfold ls3 at hs; cases hs
        | no => rw [z3] at hs; unfold ls3 at hs; cases hs
    | ex x e => rw [z2] at hs; unfold ls2 at hs; cases hs
    | no => rw [z2] at hs; unfold ls2 at hs; cases hs
theorem lcGoS_flt {p : α → Bool} {c h : α → D} (xs : List α) (hL : lookL i E = some (xs.map c)) (hs : ∀ x ∈ xs, ls0 own g t f (c x) E = .ok (if p x = true then some (h x) else none) E) : ∀ (m n k : Nat) (acc : List D), m = xs.length - k → k ≤ xs.length → m < n → acc.length + m ≤ 100000 →
    lcGoS own i g t f n k acc E = .ok (acc ++ ((xs.drop k).filter p).map h) E
  | 0, n, k, acc, h1, h2, h3, h4 => by
    obtain ⟨n, rfl⟩ : ∃ q, n = q + 1 := ⟨n - 1, by omega⟩
    have hk : (xs.map c)[k]? = none := by rw [List.getElem?_eq_none_iff, List.length_map]; omega
    rw [lcGoS]
    simp only [hL, hk]
    rw [List.drop_of_length_le (by omega)]
    simp
  | m + 1, n, k, acc, h1, h2, h3, h4 => by
    obtain ⟨n, rfl⟩ : ∃ q, n = q + 1 := ⟨n - 1, by omega⟩
    have hlt : k < xs.length := by omega
    have hk : (xs.map c)[k]? = some (c xs[k]) := by rw [List.getElem?_map, List.getElem?_eq_getElem hlt]; rfl
    have ht := hs xs[k] (List.getElem_mem hlt)
    rw [List.drop_eq_getElem_cons hlt]
    by_cases e : p xs[k] = true
    · rw [if_pos e] at ht
      rw [lcGoS_turn hL hk ht (by omega)]
      dsimp only
      rw [lcGoS_flt xs hL hs m n (k + 1) _ (by omega) (by omega) (by omega) (by rw [List.length_append, List.length_singleton]; omega), List.filter_cons_of_pos e]
      simp
    · rw [if_neg e] at ht
      rw [lcGoS_turn hL hk ht (by omega)]
      dsimp only
      rw [lcGoS_flt xs hL hs m n (k + 1) _ (by omega) (by omega) (by omega) (by omega), List.filter_cons_of_neg e]
theorem lcGoS_all {p : α → Bool} {c h : α → D} (xs : List α) (hL : lookL i E = some (xs.map c)) (hl : xs.length ≤ 9000) (hs : ∀ x ∈ xs, ls0 own g t f (c x) E = .ok (if p x = true then some (h x) else none) E) :
    lcGoS own i g t f 100000 0 [] E = .ok ((xs.filter p).map h) E := by
  rw [lcGoS_flt xs hL hs xs.length 100000 0 [] (by omega) (by omega) (by omega) (by rw [List.length_nil]; omega)]
  rfl
theorem q_mlcS (hn : noOwn own E = true) (hi : i ∉ own) : mLcS own i g t f E = mlc2 own E (lcGoS own i g t f 100000 0 [] (wipeE E own)) := by
  unfold mLcS mlc2
  rw [if_pos ⟨hn, hi⟩] <;> (generalize lcGoS own i g t f 100000 0 [] (wipeE E own) = z; cases z <;> rfl)
end
end DL
-- Z1
set_option maxHeartbeats 4000000
namespace K00
open PySem PySem.Spec PyProof.Rows L2 DL
structure Hd where
  cells : List Int
  at_ : Nat
  rest : Int
  mix : Int
  cnt : Int
def hD (h : Hd) : D := .lst [.lst (h.cells.map .int), .int h.at_, .int h.rest, .int h.mix, .int h.cnt]
def step1 (h : Hd) : Hd := if h.rest = 0 ∧ h.at_ < h.cells.length then
    { h with at_ := h.at_ + 1, mix := (h.mix * 69621 + h.cells.getD h.at_ 0 + 11) % 2147483629, rest := if 10 ^ 18 ≤ h.cells.getD h.at_ 0 then h.cells.getD h.at_ 0 else h.rest } else h
def num1 (m c : Int) : Int := ((m + 7919 * c) * 48271) % 2147483647
def num2 (a : Int) : Int := (a * (a / 1009 + 69621)) % 2147483647
def num3 (a : Int) : Int := (a * (a / 2003 + 40692)) % 2147483399
def drawF (h : Hd) (n : Int) : Int × Hd :=
  let h1 := step1 h
  if 0 < h1.rest then (h1.rest % n, { h1 with rest := h1.rest / n })
  else (num3 (num2 (num1 h1.mix (h1.cnt + 1))) / 16 % n, { h1 with cnt := h1.cnt + 1 })

theorem run_draw (h : Hd) (n : Int) (h1 : 1 ≤ n) (h2 : n < 1073741824) : G__law_draw [hD h, .int n] = .ret false (.int (drawF h n).1) (hD (drawF h n).2) := by
  obtain ⟨cells, at_, rest, mix, cnt⟩ := h
  have hn : 0 < n := by omega
  unfold G__law_draw den__law_draw hD
  by_cases hp : 0 < rest
  · have hr : ¬ rest = 0 := by omega
    have hb : (rest == 0) = false := by simpa using hr
    simp (config := { decide := true }) only [q_run, q_enterT, q_enterF, List.map_cons, List.map_nil, List.length_cons, List.length_nil, List.replicate, List.cons_append, List.nil_append, q_seq, q_seq1, q_seq2, q_seq3, q_seq4, q_seq5, q_nx, q_drop, q_drop1, q_drop2, q_sret, q_ret1, q_ret2, q_sif, q_set, q_set1, q_set2, q_set3, q_set4, q_set5, q_put, q_put1, q_put2, q_put2b, q_put3, q_put4, q_put5, q_lf, q_lf1, q_asg, q_asg1, q_asg2, q_bname, q_btup, q_bcons, q_bc1, q_bnil, q_aug, q_aug1, q_aug2, q_mut, q_mut1, q_mut2, q_mut3, q_mut4, q_isL, q_app, q_ext, q_pop0, q_call, q_call1, q_call2, q_call3, q_call4, q_na, q_na1, q_cl, q_cl1, q_cl2, q_cl3, q_cl4, q_cl5, q_cl6, q_runF1, q_runF2, q_runF3, q_runF4, q_runF5, q_run3a, q_run3b, q_runT1, q_runT2, q_runT3, q_runT4, q_runT5, q_rtN, q_rtZ, q_rtX, q_rtL, q_ret, q_mK, q_name, q_nm1, q_nm2, q_pk1, q_pk2, q_pk3, q_pkS1, q_pkS2, q_take1, q_take2, q_take3, q_tkS1, q_tkS2, q_out, q_un, q_un1, q_un2, q_bin, q_bin1, q_bin2, q_bin3, q_bl, q_bl1, q_tru, q_tr1, q_tr2, q_tr3, q_and, q_and1, q_and2, q_or, q_or1, q_or2, q_not, q_not1, q_if, q_ite1, q_ite2, q_andV, q_orV, q_notV, q_notV1, q_chain, q_chain1, q_chain2, q_chain3, q_chain4, q_chain5, q_nil, q_cons, q_cons1, q_cons2, q_cons3, q_tup, q_tup1, q_lst, q_lst1, q_pnil, q_pcons, q_pc1, q_pc2, q_rd, q_rd1, q_rd2, q_pks0, q_pks1, q_pk2', q_part, q_part1, q_part2, q_sl, q_sl1, q_sl2, q_sl3, q_sl4, w_ix, w_ixT, w_ixL, w_ixTL, w_put, w_put_0, w_put_1, w_put_2, w_put_3, w_put_4, w_put_5, w_put_6, w_put_7, w_put_8, w_eq, w_ne, w_lt, w_le, w_gt, w_ge, w_add, w_sub, w_mulR, w_mulL, w_mulM, w_mod, w_div, w_len, w_lenT, w_int, w_intb, w_pow, w_neg, List.getElem?_cons_zero, List.getElem?_cons_succ, List.set_cons_zero, List.set_cons_succ, Option.map_some, beq_self_eq_true, Bool.not_true, Bool.not_false, Nat.reduceAdd, Nat.reduceSub, Nat.reduceLT, Nat.reduceLeDiff, Int.reduceLT, Int.reduceLE, Int.reduceToNat, Int.reducePow, Int.reduceNeg, decide_true, decide_false, Int.lt_irrefl, q_wipe0, q_wipe1, q_rest0, q_rest1, q_rs1, q_noOwn0, q_noOwn1, q_owS1, q_owS2, q_owS3, q_lc0, q_lc, q_lc1, q_lc2f, q_lc2t, q_lc3, q_lc4, q_mlc, q_mlc1, q_mlc2, q_iter, q_iter1, q_iter2, q_seqL, q_seqT, q_seqF, q_rng1, q_rng1', q_rng2, q_rng2', q_for, q_for1, q_lp0, q_lp, q_lp1, q_lp2n, q_lp2c, q_lp2b, q_lp2r, q_lp2x, y_ixL, y_ixT, y_ixLn, y_ixTn, y_lt, y_gt, y_add, y_isi_non, y_isi_bl, y_isi_int, y_isi_str, y_isi_tup, y_isi_tpf, y_isi_lst, y_isi_dk, y_isi_dt, b_NoneType_bool, b_NoneType_int, b_NoneType_str, b_NoneType_tuple, b_NoneType_list, b_NoneType_dict, b_bool_bool, b_bool_int, b_bool_str, b_bool_tuple, b_bool_list, b_bool_dict, b_int_bool, b_int_int, b_int_str, b_int_tuple, b_int_list, b_int_dict, b_str_bool, b_str_int, b_str_str, b_str_tuple, b_str_list, b_str_dict, b_tuple_bool, b_tuple_int, b_tuple_str, b_tuple_tuple, b_tuple_list, b_tuple_dict, b_list_bool, b_list_int, b_list_str, b_list_tuple, b_list_list, b_list_dict, b_dict_bool, b_dict_int, b_dict_str, b_dict_tuple, b_dict_list, b_dict_dict, y_fld, y_inPT, y_inPL, y_notinPT, y_inIL, y_notinIL, y_eqP, y_neP, y_nePT, y_eqPT, y_neIT, y_neIL0, y_nePL0, y_eqIL, y_sortIL, y_sortIT, y_sortIF, y_sortPL, y_truN, y_truB, y_truI, y_truT, y_truL, q_dc_0, q_dc0, q_dc1f, q_dc1t, q_dc2, q_dc3, q_dc4, q_dc5, q_mdc, q_mdc1, q_mdc2, y_inDt, y_notinDt, Option.bind_some, q_augS', q_ag0, q_ag1, q_ag2, q_ag2b, q_ag3, q_ag4, q_ag5, q_ag6, y_at, y_or, y_and, q_wl, q_wl1f, q_wl1t, q_wl2n, q_wl2c, q_wl2b, q_wl2r, q_wl2x, q_lr1, y_tupL, y_tupT, q_enum, q_en1, q_en2, q_en2f, q_sc_0, q_sc0, q_sc1f, q_sc1t, q_sc2, q_sc3, q_msc, q_msc1, q_msc2L, y_min2, y_max2, q_putA, q_pa0, q_pa1, q_pa2, q_pa3, q_pa4, q_pa5, a_mulI, a_putL, q_ls0, q_ls1, q_ls2f, q_ls2t, q_ls3, q_ls4, q_mlcS, hb, decide_eq_true hp, hn, h2]
    simp only [drawF, step1, hr, false_and, if_false, hp, if_true]
  · by_cases hc : rest = 0 ∧ at_ < cells.length
    · obtain ⟨rfl, hl⟩ := hc
      obtain ⟨c, hcc⟩ : ∃ c, cells[at_]? = some c := ⟨_, List.getElem?_eq_getElem hl⟩
      have hgd : cells.getD at_ 0 = c := by rw [List.getD_eq_getElem?_getD, hcc]; rfl
      have hli : (at_ : Int) < (cells.length : Int) := by omega
      by_cases hb : 1000000000000000000 ≤ c
      · have hb0 : 0 < c := by omega
        simp (config := { decide := true }) only [q_run, q_enterT, q_enterF, List.map_cons, List.map_nil, List.length_cons, List.length_nil, List.replicate, List.cons_append, List.nil_append, q_seq, q_seq1, q_seq2, q_seq3, q_seq4, q_seq5, q_nx, q_drop, q_drop1, q_drop2, q_sret, q_ret1, q_ret2, q_sif, q_set, q_set1, q_set2, q_set3, q_set4, q_set5, q_put, q_put1, q_put2, q_put2b, q_put3, q_put4, q_put5, q_lf, q_lf1, q_asg, q_asg1, q_asg2, q_bname, q_btup, q_bcons, q_bc1, q_bnil, q_aug, q_aug1, q_aug2, q_mut, q_mut1, q_mut2, q_mut3, q_mut4, q_isL, q_app, q_ext, q_pop0, q_call, q_call1, q_call2, q_call3, q_call4, q_na, q_na1, q_cl, q_cl1, q_cl2, q_cl3, q_cl4, q_cl5, q_cl6, q_runF1, q_runF2, q_runF3, q_runF4, q_runF5, q_run3a, q_run3b, q_runT1, q_runT2, q_runT3, q_runT4, q_runT5, q_rtN, q_rtZ, q_rtX, q_rtL, q_ret, q_mK, q_name, q_nm1, q_nm2, q_pk1, q_pk2, q_pk3, q_pkS1, q_pkS2, q_take1, q_take2, q_take3, q_tkS1, q_tkS2, q_out, q_un, q_un1, q_un2, q_bin, q_bin1, q_bin2, q_bin3, q_bl, q_bl1, q_tru, q_tr1, q_tr2, q_tr3, q_and, q_and1, q_and2, q_or, q_or1, q_or2, q_not, q_not1, q_if, q_ite1, q_ite2, q_andV, q_orV, q_notV, q_notV1, q_chain, q_chain1, q_chain2, q_chain3, q_chain4, q_chain5, q_nil, q_cons, q_cons1, q_cons2, q_cons3, q_tup, q_tup1, q_lst, q_lst1, q_pnil, q_pcons, q_pc1, q_pc2, q_rd, q_rd1, q_rd2, q_pks0, q_pks1, q_pk2', q_part, q_part1, q_part2, q_sl, q_sl1, q_sl2, q_sl3, q_sl4, w_ix, w_ixT, w_ixL, w_ixTL, w_put, w_put_0, w_put_1, w_put_2, w_put_3, w_put_4, w_put_5, w_put_6, w_put_7, w_put_8, w_eq, w_ne, w_lt, w_le, w_gt, w_ge, w_add, w_sub, w_mulR, w_mulL, w_mulM, w_mod, w_div, w_len, w_lenT, w_int, w_intb, w_pow, w_neg, List.getElem?_cons_zero, List.getElem?_cons_succ, List.set_cons_zero, List.set_cons_succ, Option.map_some, beq_self_eq_true, Bool.not_true, Bool.not_false, Nat.reduceAdd, Nat.reduceSub, Nat.reduceLT, Nat.reduceLeDiff, Int.reduceLT, Int.reduceLE, Int.reduceToNat, Int.reducePow, Int.reduceNeg, decide_true, decide_false, Int.lt_irrefl, q_wipe0, q_wipe1, q_rest0, q_rest1, q_rs1, q_noOwn0, q_noOwn1, q_owS1, q_owS2, q_owS3, q_lc0, q_lc, q_lc1, q_lc2f, q_lc2t, q_lc3, q_lc4, q_mlc, q_mlc1, q_mlc2, q_iter, q_iter1, q_iter2, q_seqL, q_seqT, q_seqF, q_rng1, q_rng1', q_rng2, q_rng2', q_for, q_for1, q_lp0, q_lp, q_lp1, q_lp2n, q_lp2c, q_lp2b, q_lp2r, q_lp2x, y_ixL, y_ixT, y_ixLn, y_ixTn, y_lt, y_gt, y_add, y_isi_non, y_isi_bl, y_isi_int, y_isi_str, y_isi_tup, y_isi_tpf, y_isi_lst, y_isi_dk, y_isi_dt, b_NoneType_bool, b_NoneType_int, b_NoneType_str, b_NoneType_tuple, b_NoneType_list, b_NoneType_dict, b_bool_bool, b_bool_int, b_bool_str, b_bool_tuple, b_bool_list, b_bool_dict, b_int_bool, b_int_int, b_int_str, b_int_tuple, b_int_list, b_int_dict, b_str_bool, b_str_int, b_str_str, b_str_tuple, b_str_list, b_str_dict, b_tuple_bool, b_tuple_int, b_tuple_str, b_tuple_tuple, b_tuple_list, b_tuple_dict, b_list_bool, b_list_int, b_list_str, b_list_tuple, b_list_list, b_list_dict, b_dict_bool, b_dict_int, b_dict_str, b_dict_tuple, b_dict_list, b_dict_dict, y_fld, y_inPT, y_inPL, y_notinPT, y_inIL, y_notinIL, y_eqP, y_neP, y_nePT, y_eqPT, y_neIT, y_neIL0, y_nePL0, y_eqIL, y_sortIL, y_sortIT, y_sortIF, y_sortPL, y_truN, y_truB, y_truI, y_truT, y_truL, q_dc_0, q_dc0, q_dc1f, q_dc1t, q_dc2, q_dc3, q_dc4, q_dc5, q_mdc, q_mdc1, q_mdc2, y_inDt, y_notinDt, Option.bind_some, q_augS', q_ag0, q_ag1, q_ag2, q_ag2b, q_ag3, q_ag4, q_ag5, q_ag6, y_at, y_or, y_and, q_wl, q_wl1f, q_wl1t, q_wl2n, q_wl2c, q_wl2b, q_wl2r, q_wl2x, q_lr1, y_tupL, y_tupT, q_enum, q_en1, q_en2, q_en2f, q_sc_0, q_sc0, q_sc1f, q_sc1t, q_sc2, q_sc3, q_msc, q_msc1, q_msc2L, y_min2, y_max2, q_putA, q_pa0, q_pa1, q_pa2, q_pa3, q_pa4, q_pa5, a_mulI, a_putL, q_ls0, q_ls1, q_ls2f, q_ls2t, q_ls3, q_ls4, q_mlcS, decide_eq_true hli, List.length_map, List.getElem?_map, hcc, decide_eq_true hb, decide_eq_true hb0, hn, h2]
        simp only [drawF, step1, hl, and_self, if_true, hgd, hb, hb0, show (10 : Int) ^ 18 = 1000000000000000000 from rfl]
        rfl
      · simp (config := { decide := true }) only [q_run, q_enterT, q_enterF, List.map_cons, List.map_nil, List.length_cons, List.length_nil, List.replicate, List.cons_append, List.nil_append, q_seq, q_seq1, q_seq2, q_seq3, q_seq4, q_seq5, q_nx, q_drop, q_drop1, q_drop2, q_sret, q_ret1, q_ret2, q_sif, q_set, q_set1, q_set2, q_set3, q_set4, q_set5, q_put, q_put1, q_put2, q_put2b, q_put3, q_put4, q_put5, q_lf, q_lf1, q_asg, q_asg1, q_asg2, q_bname, q_btup, q_bcons, q_bc1, q_bnil, q_aug, q_aug1, q_aug2, q_mut, q_mut1, q_mut2, q_mut3, q_mut4, q_isL, q_app, q_ext, q_pop0, q_call, q_call1, q_call2, q_call3, q_call4, q_na, q_na1, q_cl, q_cl1, q_cl2, q_cl3, q_cl4, q_cl5, q_cl6, q_runF1, q_runF2, q_runF3, q_runF4, q_runF5, q_run3a, q_run3b, q_runT1, q_runT2, q_runT3, q_runT4, q_runT5, q_rtN, q_rtZ, q_rtX, q_rtL, q_ret, q_mK, q_name, q_nm1, q_nm2, q_pk1, q_pk2, q_pk3, q_pkS1, q_pkS2, q_take1, q_take2, q_take3, q_tkS1, q_tkS2, q_out, q_un, q_un1, q_un2, q_bin, q_bin1, q_bin2, q_bin3, q_bl, q_bl1, q_tru, q_tr1, q_tr2, q_tr3, q_and, q_and1, q_and2, q_or, q_or1, q_or2, q_not, q_not1, q_if, q_ite1, q_ite2, q_andV, q_orV, q_notV, q_notV1, q_chain, q_chain1, q_chain2, q_chain3, q_chain4, q_chain5, q_nil, q_cons, q_cons1, q_cons2, q_cons3, q_tup, q_tup1, q_lst, q_lst1, q_pnil, q_pcons, q_pc1, q_pc2, q_rd, q_rd1, q_rd2, q_pks0, q_pks1, q_pk2', q_part, q_part1, q_part2, q_sl, q_sl1, q_sl2, q_sl3, q_sl4, w_ix, w_ixT, w_ixL, w_ixTL, w_put, w_put_0, w_put_1, w_put_2, w_put_3, w_put_4, w_put_5, w_put_6, w_put_7, w_put_8, w_eq, w_ne, w_lt, w_le, w_gt, w_ge, w_add, w_sub, w_mulR, w_mulL, w_mulM, w_mod, w_div, w_len, w_lenT, w_int, w_intb, w_pow, w_neg, List.getElem?_cons_zero, List.getElem?_cons_succ, List.set_cons_zero, List.set_cons_succ, Option.map_some, beq_self_eq_true, Bool.not_true, Bool.not_false, Nat.reduceAdd, Nat.reduceSub, Nat.reduceLT, Nat.reduceLeDiff, Int.reduceLT, Int.reduceLE, Int.reduceToNat, Int.reducePow, Int.reduceNeg, decide_true, decide_false, Int.lt_irrefl, q_wipe0, q_wipe1, q_rest0, q_rest1, q_rs1, q_noOwn0, q_noOwn1, q_owS1, q_owS2, q_owS3, q_lc0, q_lc, q_lc1, q_lc2f, q_lc2t, q_lc3, q_lc4, q_mlc, q_mlc1, q_mlc2, q_iter, q_iter1, q_iter2, q_seqL, q_seqT, q_seqF, q_rng1, q_rng1', q_rng2, q_rng2', q_for, q_for1, q_lp0, q_lp, q_lp1, q_lp2n, q_lp2c, q_lp2b, q_lp2r, q_lp2x, y_ixL, y_ixT, y_ixLn, y_ixTn, y_lt, y_gt, y_add, y_isi_non, y_isi_bl, y_isi_int, y_isi_str, y_isi_tup, y_isi_tpf, y_isi_lst, y_isi_dk, y_isi_dt, b_NoneType_bool, b_NoneType_int, b_NoneType_str, b_NoneType_tuple, b_NoneType_list, b_NoneType_dict, b_bool_bool, b_bool_int, b_bool_str, b_bool_tuple, b_bool_list, b_bool_dict, b_int_bool, b_int_int, b_int_str, b_int_tuple, b_int_list, b_int_dict, b_str_bool, b_str_int, b_str_str, b_str_tuple, b_str_list, b_str_dict, b_tuple_bool, b_tuple_int, b_tuple_str, b_tuple_tuple, b_tuple_list, b_tuple_dict, b_list_bool, b_list_int, b_list_str, b_list_tuple, b_list_list, b_list_dict, b_dict_bool, b_dict_int, b_dict_str, b_dict_tuple, b_dict_list, b_dict_dict, y_fld, y_inPT, y_inPL, y_notinPT, y_inIL, y_notinIL, y_eqP, y_neP, y_nePT, y_eqPT, y_neIT, y_neIL0, y_nePL0, y_eqIL, y_sortIL, y_sortIT, y_sortIF, y_sortPL, y_truN, y_truB, y_truI, y_truT, y_truL, q_dc_0, q_dc0, q_dc1f, q_dc1t, q_dc2, q_dc3, q_dc4, q_dc5, q_mdc, q_mdc1, q_mdc2, y_inDt, y_notinDt, Option.bind_some, q_augS', q_ag0, q_ag1, q_ag2, q_ag2b, q_ag3, q_ag4, q_ag5, q_ag6, y_at, y_or, y_and, q_wl, q_wl1f, q_wl1t, q_wl2n, q_wl2c, q_wl2b, q_wl2r, q_wl2x, q_lr1, y_tupL, y_tupT, q_enum, q_en1, q_en2, q_en2f, q_sc_0, q_sc0, q_sc1f, q_sc1t, q_sc2, q_sc3, q_msc, q_msc1, q_msc2L, y_min2, y_max2, q_putA, q_pa0, q_pa1, q_pa2, q_pa3, q_pa4, q_pa5, a_mulI, a_putL, q_ls0, q_ls1, q_ls2f, q_ls2t, q_ls3, q_ls4, q_mlcS, decide_eq_true hli, List.length_map, List.getElem?_map, hcc, decide_eq_false hb, hn, h2]
        simp only [drawF, step1, hl, and_self, if_true, hgd, hb, if_false, show (10 : Int) ^ 18 = 1000000000000000000 from rfl, Int.lt_irrefl, num1, num2, num3]
        rfl
    · have hbb : (rest == 0 && decide ((at_ : Int) < (cells.length : Int))) = false := by
        by_cases h0 : rest = 0
        · have : ¬ at_ < cells.length := fun z => hc ⟨h0, z⟩
          simp [h0]; omega
        · simp [h0]
      by_cases h0 : rest = 0
      · subst h0
        have hl : ¬ ((at_ : Int) < (cells.length : Int)) := fun z => hc ⟨rfl, by omega⟩
        simp (config := { decide := true }) only [q_run, q_enterT, q_enterF, List.map_cons, List.map_nil, List.length_cons, List.length_nil, List.replicate, List.cons_append, List.nil_append, q_seq, q_seq1, q_seq2, q_seq3, q_seq4, q_seq5, q_nx, q_drop, q_drop1, q_drop2, q_sret, q_ret1, q_ret2, q_sif, q_set, q_set1, q_set2, q_set3, q_set4, q_set5, q_put, q_put1, q_put2, q_put2b, q_put3, q_put4, q_put5, q_lf, q_lf1, q_asg, q_asg1, q_asg2, q_bname, q_btup, q_bcons, q_bc1, q_bnil, q_aug, q_aug1, q_aug2, q_mut, q_mut1, q_mut2, q_mut3, q_mut4, q_isL, q_app, q_ext, q_pop0, q_call, q_call1, q_call2, q_call3, q_call4, q_na, q_na1, q_cl, q_cl1, q_cl2, q_cl3, q_cl4, q_cl5, q_cl6, q_runF1, q_runF2, q_runF3, q_runF4, q_runF5, q_run3a, q_run3b, q_runT1, q_runT2, q_runT3, q_runT4, q_runT5, q_rtN, q_rtZ, q_rtX, q_rtL, q_ret, q_mK, q_name, q_nm1, q_nm2, q_pk1, q_pk2, q_pk3, q_pkS1, q_pkS2, q_take1, q_take2, q_take3, q_tkS1, q_tkS2, q_out, q_un, q_un1, q_un2, q_bin, q_bin1, q_bin2, q_bin3, q_bl, q_bl1, q_tru, q_tr1, q_tr2, q_tr3, q_and, q_and1, q_and2, q_or, q_or1, q_or2, q_not, q_not1, q_if, q_ite1, q_ite2, q_andV, q_orV, q_notV, q_notV1, q_chain, q_chain1, q_chain2, q_chain3, q_chain4, q_chain5, q_nil, q_cons, q_cons1, q_cons2, q_cons3, q_tup, q_tup1, q_lst, q_lst1, q_pnil, q_pcons, q_pc1, q_pc2, q_rd, q_rd1, q_rd2, q_pks0, q_pks1, q_pk2', q_part, q_part1, q_part2, q_sl, q_sl1, q_sl2, q_sl3, q_sl4, w_ix, w_ixT, w_ixL, w_ixTL, w_put, w_put_0, w_put_1, w_put_2, w_put_3, w_put_4, w_put_5, w_put_6, w_put_7, w_put_8, w_eq, w_ne, w_lt, w_le, w_gt, w_ge, w_add, w_sub, w_mulR, w_mulL, w_mulM, w_mod, w_div, w_len, w_lenT, w_int, w_intb, w_pow, w_neg, List.getElem?_cons_zero, List.getElem?_cons_succ, List.set_cons_zero, List.set_cons_succ, Option.map_some, beq_self_eq_true, Bool.not_true, Bool.not_false, Nat.reduceAdd, Nat.reduceSub, Nat.reduceLT, Nat.reduceLeDiff, Int.reduceLT, Int.reduceLE, Int.reduceToNat, Int.reducePow, Int.reduceNeg, decide_true, decide_false, Int.lt_irrefl, q_wipe0, q_wipe1, q_rest0, q_rest1, q_rs1, q_noOwn0, q_noOwn1, q_owS1, q_owS2, q_owS3, q_lc0, q_lc, q_lc1, q_lc2f, q_lc2t, q_lc3, q_lc4, q_mlc, q_mlc1, q_mlc2, q_iter, q_iter1, q_iter2, q_seqL, q_seqT, q_seqF, q_rng1, q_rng1', q_rng2, q_rng2', q_for, q_for1, q_lp0, q_lp, q_lp1, q_lp2n, q_lp2c, q_lp2b, q_lp2r, q_lp2x, y_ixL, y_ixT, y_ixLn, y_ixTn, y_lt, y_gt, y_add, y_isi_non, y_isi_bl, y_isi_int, y_isi_str, y_isi_tup, y_isi_tpf, y_isi_lst, y_isi_dk, y_isi_dt, b_NoneType_bool, b_NoneType_int, b_NoneType_str, b_NoneType_tuple, b_NoneType_list, b_NoneType_dict, b_bool_bool, b_bool_int, b_bool_str, b_bool_tuple, b_bool_list, b_bool_dict, b_int_bool, b_int_int, b_int_str, b_int_tuple, b_int_list, b_int_dict, b_str_bool, b_str_int, b_str_str, b_str_tuple, b_str_list, b_str_dict, b_tuple_bool, b_tuple_int, b_tuple_str, b_tuple_tuple, b_tuple_list, b_tuple_dict, b_list_bool, b_list_int, b_list_str, b_list_tuple, b_list_list, b_list_dict, b_dict_bool, b_dict_int, b_dict_str, b_dict_tuple, b_dict_list, b_dict_dict, y_fld, y_inPT, y_inPL, y_notinPT, y_inIL, y_notinIL, y_eqP, y_neP, y_nePT, y_eqPT, y_neIT, y_neIL0, y_nePL0, y_eqIL, y_sortIL, y_sortIT, y_sortIF, y_sortPL, y_truN, y_truB, y_truI, y_truT, y_truL, q_dc_0, q_dc0, q_dc1f, q_dc1t, q_dc2, q_dc3, q_dc4, q_dc5, q_mdc, q_mdc1, q_mdc2, y_inDt, y_notinDt, Option.bind_some, q_augS', q_ag0, q_ag1, q_ag2, q_ag2b, q_ag3, q_ag4, q_ag5, q_ag6, y_at, y_or, y_and, q_wl, q_wl1f, q_wl1t, q_wl2n, q_wl2c, q_wl2b, q_wl2r, q_wl2x, q_lr1, y_tupL, y_tupT, q_enum, q_en1, q_en2, q_en2f, q_sc_0, q_sc0, q_sc1f, q_sc1t, q_sc2, q_sc3, q_msc, q_msc1, q_msc2L, y_min2, y_max2, q_putA, q_pa0, q_pa1, q_pa2, q_pa3, q_pa4, q_pa5, a_mulI, a_putL, q_ls0, q_ls1, q_ls2f, q_ls2t, q_ls3, q_ls4, q_mlcS, decide_eq_false hl, List.length_map, hn, h2]
        have hl2 : ¬ at_ < cells.length := by omega
        simp only [drawF, step1, hl2, and_false, if_false, Int.lt_irrefl, num1, num2, num3]
      · have hb : (rest == 0) = false := by simpa using h0
        simp (config := { decide := true }) only [q_run, q_enterT, q_enterF, List.map_cons, List.map_nil, List.length_cons, List.length_nil, List.replicate, List.cons_append, List.nil_append, q_seq, q_seq1, q_seq2, q_seq3, q_seq4, q_seq5, q_nx, q_drop, q_drop1, q_drop2, q_sret, q_ret1, q_ret2, q_sif, q_set, q_set1, q_set2, q_set3, q_set4, q_set5, q_put, q_put1, q_put2, q_put2b, q_put3, q_put4, q_put5, q_lf, q_lf1, q_asg, q_asg1, q_asg2, q_bname, q_btup, q_bcons, q_bc1, q_bnil, q_aug, q_aug1, q_aug2, q_mut, q_mut1, q_mut2, q_mut3, q_mut4, q_isL, q_app, q_ext, q_pop0, q_call, q_call1, q_call2, q_call3, q_call4, q_na, q_na1, q_cl, q_cl1, q_cl2, q_cl3, q_cl4, q_cl5, q_cl6, q_runF1, q_runF2, q_runF3, q_runF4, q_runF5, q_run3a, q_run3b, q_runT1, q_runT2, q_runT3, q_runT4, q_runT5, q_rtN, q_rtZ, q_rtX, q_rtL, q_ret, q_mK, q_name, q_nm1, q_nm2, q_pk1, q_pk2, q_pk3, q_pkS1, q_pkS2, q_take1, q_take2, q_take3, q_tkS1, q_tkS2, q_out, q_un, q_un1, q_un2, q_bin, q_bin1, q_bin2, q_bin3, q_bl, q_bl1, q_tru, q_tr1, q_tr2, q_tr3, q_and, q_and1, q_and2, q_or, q_or1, q_or2, q_not, q_not1, q_if, q_ite1, q_ite2, q_andV, q_orV, q_notV, q_notV1, q_chain, q_chain1, q_chain2, q_chain3, q_chain4, q_chain5, q_nil, q_cons, q_cons1, q_cons2, q_cons3, q_tup, q_tup1, q_lst, q_lst1, q_pnil, q_pcons, q_pc1, q_pc2, q_rd, q_rd1, q_rd2, q_pks0, q_pks1, q_pk2', q_part, q_part1, q_part2, q_sl, q_sl1, q_sl2, q_sl3, q_sl4, w_ix, w_ixT, w_ixL, w_ixTL, w_put, w_put_0, w_put_1, w_put_2, w_put_3, w_put_4, w_put_5, w_put_6, w_put_7, w_put_8, w_eq, w_ne, w_lt, w_le, w_gt, w_ge, w_add, w_sub, w_mulR, w_mulL, w_mulM, w_mod, w_div, w_len, w_lenT, w_int, w_intb, w_pow, w_neg, List.getElem?_cons_zero, List.getElem?_cons_succ, List.set_cons_zero, List.set_cons_succ, Option.map_some, beq_self_eq_true, Bool.not_true, Bool.not_false, Nat.reduceAdd, Nat.reduceSub, Nat.reduceLT, Nat.reduceLeDiff, Int.reduceLT, Int.reduceLE, Int.reduceToNat, Int.reducePow, Int.reduceNeg, decide_true, decide_false, Int.lt_irrefl, q_wipe0, q_wipe1, q_rest0, q_rest1, q_rs1, q_noOwn0, q_noOwn1, q_owS1, q_owS2, q_owS3, q_lc0, q_lc, q_lc1, q_lc2f, q_lc2t, q_lc3, q_lc4, q_mlc, q_mlc1, q_mlc2, q_iter, q_iter1, q_iter2, q_seqL, q_seqT, q_seqF, q_rng1, q_rng1', q_rng2, q_rng2', q_for, q_for1, q_lp0, q_lp, q_lp1, q_lp2n, q_lp2c, q_lp2b, q_lp2r, q_lp2x, y_ixL, y_ixT, y_ixLn, y_ixTn, y_lt, y_gt, y_add, y_isi_non, y_isi_bl, y_isi_int, y_isi_str, y_isi_tup, y_isi_tpf, y_isi_lst, y_isi_dk, y_isi_dt, b_NoneType_bool, b_NoneType_int, b_NoneType_str, b_NoneType_tuple, b_NoneType_list, b_NoneType_dict, b_bool_bool, b_bool_int, b_bool_str, b_bool_tuple, b_bool_list, b_bool_dict, b_int_bool, b_int_int, b_int_str, b_int_tuple, b_int_list, b_int_dict, b_str_bool, b_str_int, b_str_str, b_str_tuple, b_str_list, b_str_dict, b_tuple_bool, b_tuple_int, b_tuple_str, b_tuple_tuple, b_tuple_list, b_tuple_dict, b_list_bool, b_list_int, b_list_str, b_list_tuple, b_list_list, b_list_dict, b_dict_bool, b_dict_int, b_dict_str, b_dict_tuple, b_dict_list, b_dict_dict, y_fld, y_inPT, y_inPL, y_notinPT, y_inIL, y_notinIL, y_eqP, y_neP, y_nePT, y_eqPT, y_neIT, y_neIL0, y_nePL0, y_eqIL, y_sortIL, y_sortIT, y_sortIF, y_sortPL, y_truN, y_truB, y_truI, y_truT, y_truL, q_dc_0, q_dc0, q_dc1f, q_dc1t, q_dc2, q_dc3, q_dc4, q_dc5, q_mdc, q_mdc1, q_mdc2, y_inDt, y_notinDt, Option.bind_some, q_augS', q_ag0, q_ag1, q_ag2, q_ag2b, q_ag3, q_ag4, q_ag5, q_ag6, y_at, y_or, y_and, q_wl, q_wl1f, q_wl1t, q_wl2n, q_wl2c, q_wl2b, q_wl2r, q_wl2x, q_lr1, y_tupL, y_tupT, q_enum, q_en1, q_en2, q_en2f, q_sc_0, q_sc0, q_sc1f, q_sc1t, q_sc2, q_sc3, q_msc, q_msc1, q_msc2L, y_min2, y_max2, q_putA, q_pa0, q_pa1, q_pa2, q_pa3, q_pa4, q_pa5, a_mulI, a_putL, q_ls0, q_ls1, q_ls2f, q_ls2t, q_ls3, q_ls4, q_mlcS, hb, decide_eq_false hp, hn, h2]
        simp only [drawF, step1, hc, if_false, hp, num1, num2, num3]
theorem drawF_in (h : Hd) (n : Int) (h1 : 1 ≤ n) : 0 ≤ (drawF h n).1 ∧ (drawF h n).1 < n := by
  unfold drawF
  dsimp only
  split
  · exact ⟨Int.emod_nonneg _ (by omega), Int.emod_lt_of_pos _ (by omega)⟩
  · exact ⟨Int.emod_nonneg _ (by omega), Int.emod_lt_of_pos _ (by omega)⟩
@[irreducible] def di2 (k : Key) (r : Rs D) : Rs R := match r with | .ok v E => .ok (.fs (.dk [(k, v)])) E | .ex x E => .ex x E | .no => .no
@[irreducible] def di1 (k : Key) (r : Rs R) : Rs R := match r with | .ok r E => di2 k (take r E) | .ex x E => .ex x E | .no => .no
theorem q_dict1 {i : Int} {fv : M R} {E : En} : mDict1 (mK (.int i)) fv E = di1 (.inl i) (fv E) := by
  unfold mDict1 di1 M.bnd mK M.ret
  dsimp only
  generalize fv E = z
  cases z with
  | ok r E1 =>
    dsimp only
    unfold di2
    generalize take r E1 = z2
    cases z2 <;> rfl
  | _ => rfl
theorem q_di1 {k : Key} {r : R} {E : En} : di1 k (.ok r E) = di2 k (take r E) := by unfold di1; rfl
theorem q_di2 {k : Key} {v : D} {E : En} : di2 k (.ok v E) = .ok (.fs (.dk [(k, v)])) E := by unfold di2; rfl
theorem draw3 {d : Int} (h0 : 0 ≤ d) (h1 : d < 3) : d = 0 ∨ d = 1 ∨ d = 2 := by omega
theorem run_deep_go : ∀ (ds : List D) (h : Hd) (d : D) (s2 : Sl) (k : Nat), plD k d = true → ∃ h' d' t2,
    loop (bName 2) (sSet 1 (mBin gIxA (mLst (mCons (mLst (mCons (mName 1) mNil)) (mCons (mTup (mCons (mName 1) mNil)) (mCons (mDict1 (mK (.int 0)) (mName 1)) mNil)))) (mCallL 0 2 G__law_draw (mCons (mK (.int 3)) mNil)))) ds [.ow (hD h), .fr d, s2] = .ok .nx [.ow (hD h'), .fr d', t2] ∧ plD (k + ds.length) d' = true
  | [], h, d, s2, k, hk => ⟨h, d, s2, rfl, hk⟩
  | e :: ds, h, d, s2, k, hk => by
    obtain ⟨d0, d1⟩ := drawF_in h 3 (by omega)
    have hdr := run_draw h 3 (by omega) (by omega)
    have key : ∃ d1, plD (k + 1) d1 = true ∧ loop (bName 2) (sSet 1 (mBin gIxA (mLst (mCons (mLst (mCons (mName 1) mNil)) (mCons (mTup (mCons (mName 1) mNil)) (mCons (mDict1 (mK (.int 0)) (mName 1)) mNil)))) (mCallL 0 2 G__law_draw (mCons (mK (.int 3)) mNil)))) (e :: ds) [.ow (hD h), .fr d, s2]
      = loop (bName 2) (sSet 1 (mBin gIxA (mLst (mCons (mLst (mCons (mName 1) mNil)) (mCons (mTup (mCons (mName 1) mNil)) (mCons (mDict1 (mK (.int 0)) (mName 1)) mNil)))) (mCallL 0 2 G__law_draw (mCons (mK (.int 3)) mNil)))) ds [.ow (hD (drawF h 3).2), .fr d1, .fr e] := by
      rcases draw3 d0 d1 with z | z | z
      · rw [z] at hdr
        refine ⟨.lst [d], by simp [plD, hk], ?_⟩
        simp (config := { decide := true }) only [q_run, q_enterT, q_enterF, List.map_cons, List.map_nil, List.length_cons, List.length_nil, List.replicate, List.cons_append, List.nil_append, q_seq, q_seq1, q_seq2, q_seq3, q_seq4, q_seq5, q_nx, q_drop, q_drop1, q_drop2, q_sret, q_ret1, q_ret2, q_sif, q_set, q_set1, q_set2, q_set3, q_set4, q_set5, q_put, q_put1, q_put2, q_put2b, q_put3, q_put4, q_put5, q_lf, q_lf1, q_asg, q_asg1, q_asg2, q_bname, q_btup, q_bcons, q_bc1, q_bnil, q_aug, q_aug1, q_aug2, q_mut, q_mut1, q_mut2, q_mut3, q_mut4, q_isL, q_app, q_ext, q_pop0, q_call, q_call1, q_call2, q_call3, q_call4, q_na, q_na1, q_cl, q_cl1, q_cl2, q_cl3, q_cl4, q_cl5, q_cl6, q_runF1, q_runF2, q_runF3, q_runF4, q_runF5, q_run3a, q_run3b, q_runT1, q_runT2, q_runT3, q_runT4, q_runT5, q_rtN, q_rtZ, q_rtX, q_rtL, q_ret, q_mK, q_name, q_nm1, q_nm2, q_pk1, q_pk2, q_pk3, q_pkS1, q_pkS2, q_take1, q_take2, q_take3, q_tkS1, q_tkS2, q_out, q_un, q_un1, q_un2, q_bin, q_bin1, q_bin2, q_bin3, q_bl, q_bl1, q_tru, q_tr1, q_tr2, q_tr3, q_and, q_and1, q_and2, q_or, q_or1, q_or2, q_not, q_not1, q_if, q_ite1, q_ite2, q_andV, q_orV, q_notV, q_notV1, q_chain, q_chain1, q_chain2, q_chain3, q_chain4, q_chain5, q_nil, q_cons, q_cons1, q_cons2, q_cons3, q_tup, q_tup1, q_lst, q_lst1, q_pnil, q_pcons, q_pc1, q_pc2, q_rd, q_rd1, q_rd2, q_pks0, q_pks1, q_pk2', q_part, q_part1, q_part2, q_sl, q_sl1, q_sl2, q_sl3, q_sl4, w_ix, w_ixT, w_ixL, w_ixTL, w_put, w_put_0, w_put_1, w_put_2, w_put_3, w_put_4, w_put_5, w_put_6, w_put_7, w_put_8, w_eq, w_ne, w_lt, w_le, w_gt, w_ge, w_add, w_sub, w_mulR, w_mulL, w_mulM, w_mod, w_div, w_len, w_lenT, w_int, w_intb, w_pow, w_neg, List.getElem?_cons_zero, List.getElem?_cons_succ, List.set_cons_zero, List.set_cons_succ, Option.map_some, beq_self_eq_true, Bool.not_true, Bool.not_false, Nat.reduceAdd, Nat.reduceSub, Nat.reduceLT, Nat.reduceLeDiff, Int.reduceLT, Int.reduceLE, Int.reduceToNat, Int.reducePow, Int.reduceNeg, decide_true, decide_false, Int.lt_irrefl, q_wipe0, q_wipe1, q_rest0, q_rest1, q_rs1, q_noOwn0, q_noOwn1, q_owS1, q_owS2, q_owS3, q_lc0, q_lc, q_lc1, q_lc2f, q_lc2t, q_lc3, q_lc4, q_mlc, q_mlc1, q_mlc2, q_iter, q_iter1, q_iter2, q_seqL, q_seqT, q_seqF, q_rng1, q_rng1', q_rng2, q_rng2', q_for, q_for1, q_lp0, q_lp1, q_lp2n, q_lp2c, q_lp2b, q_lp2r, q_lp2x, y_ixL, y_ixT, y_ixLn, y_ixTn, y_lt, y_gt, y_add, y_isi_non, y_isi_bl, y_isi_int, y_isi_str, y_isi_tup, y_isi_tpf, y_isi_lst, y_isi_dk, y_isi_dt, b_NoneType_bool, b_NoneType_int, b_NoneType_str, b_NoneType_tuple, b_NoneType_list, b_NoneType_dict, b_bool_bool, b_bool_int, b_bool_str, b_bool_tuple, b_bool_list, b_bool_dict, b_int_bool, b_int_int, b_int_str, b_int_tuple, b_int_list, b_int_dict, b_str_bool, b_str_int, b_str_str, b_str_tuple, b_str_list, b_str_dict, b_tuple_bool, b_tuple_int, b_tuple_str, b_tuple_tuple, b_tuple_list, b_tuple_dict, b_list_bool, b_list_int, b_list_str, b_list_tuple, b_list_list, b_list_dict, b_dict_bool, b_dict_int, b_dict_str, b_dict_tuple, b_dict_list, b_dict_dict, y_fld, y_inPT, y_inPL, y_notinPT, y_inIL, y_notinIL, y_eqP, y_neP, y_nePT, y_eqPT, y_neIT, y_neIL0, y_nePL0, y_eqIL, y_sortIL, y_sortIT, y_sortIF, y_sortPL, y_truN, y_truB, y_truI, y_truT, y_truL, q_dc_0, q_dc0, q_dc1f, q_dc1t, q_dc2, q_dc3, q_dc4, q_dc5, q_mdc, q_mdc1, q_mdc2, y_inDt, y_notinDt, Option.bind_some, q_augS', q_ag0, q_ag1, q_ag2, q_ag2b, q_ag3, q_ag4, q_ag5, q_ag6, y_at, y_or, y_and, q_wl, q_wl1f, q_wl1t, q_wl2n, q_wl2c, q_wl2b, q_wl2r, q_wl2x, q_lr1, y_tupL, y_tupT, q_enum, q_en1, q_en2, q_en2f, q_sc_0, q_sc0, q_sc1f, q_sc1t, q_sc2, q_sc3, q_msc, q_msc1, q_msc2L, y_min2, y_max2, q_putA, q_pa0, q_pa1, q_pa2, q_pa3, q_pa4, q_pa5, a_mulI, a_putL, q_ls0, q_ls1, q_ls2f, q_ls2t, q_ls3, q_ls4, q_mlcS, q_lp (d := e), hdr, q_dict1, q_di1, q_di2]
      · rw [z] at hdr
        refine ⟨.tup [d], by simp [plD, hk], ?_⟩
        simp (config := { decide := true }) only [q_run, q_enterT, q_enterF, List.map_cons, List.map_nil, List.length_cons, List.length_nil, List.replicate, List.cons_append, List.nil_append, q_seq, q_seq1, q_seq2, q_seq3, q_seq4, q_seq5, q_nx, q_drop, q_drop1, q_drop2, q_sret, q_ret1, q_ret2, q_sif, q_set, q_set1, q_set2, q_set3, q_set4, q_set5, q_put, q_put1, q_put2, q_put2b, q_put3, q_put4, q_put5, q_lf, q_lf1, q_asg, q_asg1, q_asg2, q_bname, q_btup, q_bcons, q_bc1, q_bnil, q_aug, q_aug1, q_aug2, q_mut, q_mut1, q_mut2, q_mut3, q_mut4, q_isL, q_app, q_ext, q_pop0, q_call, q_call1, q_call2, q_call3, q_call4, q_na, q_na1, q_cl, q_cl1, q_cl2, q_cl3, q_cl4, q_cl5, q_cl6, q_runF1, q_runF2, q_runF3, q_runF4, q_runF5, q_run3a, q_run3b, q_runT1, q_runT2, q_runT3, q_runT4, q_runT5, q_rtN, q_rtZ, q_rtX, q_rtL, q_ret, q_mK, q_name, q_nm1, q_nm2, q_pk1, q_pk2, q_pk3, q_pkS1, q_pkS2, q_take1, q_take2, q_take3, q_tkS1, q_tkS2, q_out, q_un, q_un1, q_un2, q_bin, q_bin1, q_bin2, q_bin3, q_bl, q_bl1, q_tru, q_tr1, q_tr2, q_tr3, q_and, q_and1, q_and2, q_or, q_or1, q_or2, q_not, q_not1, q_if, q_ite1, q_ite2, q_andV, q_orV, q_notV, q_notV1, q_chain, q_chain1, q_chain2, q_chain3, q_chain4, q_chain5, q_nil, q_cons, q_cons1, q_cons2, q_cons3, q_tup, q_tup1, q_lst, q_lst1, q_pnil, q_pcons, q_pc1, q_pc2, q_rd, q_rd1, q_rd2, q_pks0, q_pks1, q_pk2', q_part, q_part1, q_part2, q_sl, q_sl1, q_sl2, q_sl3, q_sl4, w_ix, w_ixT, w_ixL, w_ixTL, w_put, w_put_0, w_put_1, w_put_2, w_put_3, w_put_4, w_put_5, w_put_6, w_put_7, w_put_8, w_eq, w_ne, w_lt, w_le, w_gt, w_ge, w_add, w_sub, w_mulR, w_mulL, w_mulM, w_mod, w_div, w_len, w_lenT, w_int, w_intb, w_pow, w_neg, List.getElem?_cons_zero, List.getElem?_cons_succ, List.set_cons_zero, List.set_cons_succ, Option.map_some, beq_self_eq_true, Bool.not_true, Bool.not_false, Nat.reduceAdd, Nat.reduceSub, Nat.reduceLT, Nat.reduceLeDiff, Int.reduceLT, Int.reduceLE, Int.reduceToNat, Int.reducePow, Int.reduceNeg, decide_true, decide_false, Int.lt_irrefl, q_wipe0, q_wipe1, q_rest0, q_rest1, q_rs1, q_noOwn0, q_noOwn1, q_owS1, q_owS2, q_owS3, q_lc0, q_lc, q_lc1, q_lc2f, q_lc2t, q_lc3, q_lc4, q_mlc, q_mlc1, q_mlc2, q_iter, q_iter1, q_iter2, q_seqL, q_seqT, q_seqF, q_rng1, q_rng1', q_rng2, q_rng2', q_for, q_for1, q_lp0, q_lp1, q_lp2n, q_lp2c, q_lp2b, q_lp2r, q_lp2x, y_ixL, y_ixT, y_ixLn, y_ixTn, y_lt, y_gt, y_add, y_isi_non, y_isi_bl, y_isi_int, y_isi_str, y_isi_tup, y_isi_tpf, y_isi_lst, y_isi_dk, y_isi_dt, b_NoneType_bool, b_NoneType_int, b_NoneType_str, b_NoneType_tuple, b_NoneType_list, b_NoneType_dict, b_bool_bool, b_bool_int, b_bool_str, b_bool_tuple, b_bool_list, b_bool_dict, b_int_bool, b_int_int, b_int_str, b_int_tuple, b_int_list, b_int_dict, b_str_bool, b_str_int, b_str_str, b_str_tuple, b_str_list, b_str_dict, b_tuple_bool, b_tuple_int, b_tuple_str, b_tuple_tuple, b_tuple_list, b_tuple_dict, b_list_bool, b_list_int, b_list_str, b_list_tuple, b_list_list, b_list_dict, b_dict_bool, b_dict_int, b_dict_str, b_dict_tuple, b_dict_list, b_dict_dict, y_fld, y_inPT, y_inPL, y_notinPT, y_inIL, y_notinIL, y_eqP, y_neP, y_nePT, y_eqPT, y_neIT, y_neIL0, y_nePL0, y_eqIL, y_sortIL, y_sortIT, y_sortIF, y_sortPL, y_truN, y_truB, y_truI, y_truT, y_truL, q_dc_0, q_dc0, q_dc1f, q_dc1t, q_dc2, q_dc3, q_dc4, q_dc5, q_mdc, q_mdc1, q_mdc2, y_inDt, y_notinDt, Option.bind_some, q_augS', q_ag0, q_ag1, q_ag2, q_ag2b, q_ag3, q_ag4, q_ag5, q_ag6, y_at, y_or, y_and, q_wl, q_wl1f, q_wl1t, q_wl2n, q_wl2c, q_wl2b, q_wl2r, q_wl2x, q_lr1, y_tupL, y_tupT, q_enum, q_en1, q_en2, q_en2f, q_sc_0, q_sc0, q_sc1f, q_sc1t, q_sc2, q_sc3, q_msc, q_msc1, q_msc2L, y_min2, y_max2, q_putA, q_pa0, q_pa1, q_pa2, q_pa3, q_pa4, q_pa5, a_mulI, a_putL, q_ls0, q_ls1, q_ls2f, q_ls2t, q_ls3, q_ls4, q_mlcS, q_lp (d := e), hdr, q_dict1, q_di1, q_di2]
      · rw [z] at hdr
        refine ⟨.dk [(.inl 0, d)], by simp [plD, hk], ?_⟩
        simp (config := { decide := true }) only [q_run, q_enterT, q_enterF, List.map_cons, List.map_nil, List.length_cons, List.length_nil, List.replicate, List.cons_append, List.nil_append, q_seq, q_seq1, q_seq2, q_seq3, q_seq4, q_seq5, q_nx, q_drop, q_drop1, q_drop2, q_sret, q_ret1, q_ret2, q_sif, q_set, q_set1, q_set2, q_set3, q_set4, q_set5, q_put, q_put1, q_put2, q_put2b, q_put3, q_put4, q_put5, q_lf, q_lf1, q_asg, q_asg1, q_asg2, q_bname, q_btup, q_bcons, q_bc1, q_bnil, q_aug, q_aug1, q_aug2, q_mut, q_mut1, q_mut2, q_mut3, q_mut4, q_isL, q_app, q_ext, q_pop0, q_call, q_call1, q_call2, q_call3, q_call4, q_na, q_na1, q_cl, q_cl1, q_cl2, q_cl3, q_cl4, q_cl5, q_cl6, q_runF1, q_runF2, q_runF3, q_runF4, q_runF5, q_run3a, q_run3b, q_runT1, q_runT2, q_runT3, q_runT4, q_runT5, q_rtN, q_rtZ, q_rtX, q_rtL, q_ret, q_mK, q_name, q_nm1, q_nm2, q_pk1, q_pk2, q_pk3, q_pkS1, q_pkS2, q_take1, q_take2, q_take3, q_tkS1, q_tkS2, q_out, q_un, q_un1, q_un2, q_bin, q_bin1, q_bin2, q_bin3, q_bl, q_bl1, q_tru, q_tr1, q_tr2, q_tr3, q_and, q_and1, q_and2, q_or, q_or1, q_or2, q_not, q_not1, q_if, q_ite1, q_ite2, q_andV, q_orV, q_notV, q_notV1, q_chain, q_chain1, q_chain2, q_chain3, q_chain4, q_chain5, q_nil, q_cons, q_cons1, q_cons2, q_cons3, q_tup, q_tup1, q_lst, q_lst1, q_pnil, q_pcons, q_pc1, q_pc2, q_rd, q_rd1, q_rd2, q_pks0, q_pks1, q_pk2', q_part, q_part1, q_part2, q_sl, q_sl1, q_sl2, q_sl3, q_sl4, w_ix, w_ixT, w_ixL, w_ixTL, w_put, w_put_0, w_put_1, w_put_2, w_put_3, w_put_4, w_put_5, w_put_6, w_put_7, w_put_8, w_eq, w_ne, w_lt, w_le, w_gt, w_ge, w_add, w_sub, w_mulR, w_mulL, w_mulM, w_mod, w_div, w_len, w_lenT, w_int, w_intb, w_pow, w_neg, List.getElem?_cons_zero, List.getElem?_cons_succ, List.set_cons_zero, List.set_cons_succ, Option.map_some, beq_self_eq_true, Bool.not_true, Bool.not_false, Nat.reduceAdd, Nat.reduceSub, Nat.reduceLT, Nat.reduceLeDiff, Int.reduceLT, Int.reduceLE, Int.reduceToNat, Int.reducePow, Int.reduceNeg, decide_true, decide_false, Int.lt_irrefl, q_wipe0, q_wipe1, q_rest0, q_rest1, q_rs1, q_noOwn0, q_noOwn1, q_owS1, q_owS2, q_owS3, q_lc0, q_lc, q_lc1, q_lc2f, q_lc2t, q_lc3, q_lc4, q_mlc, q_mlc1, q_mlc2, q_iter, q_iter1, q_iter2, q_seqL, q_seqT, q_seqF, q_rng1, q_rng1', q_rng2, q_rng2', q_for, q_for1, q_lp0, q_lp1, q_lp2n, q_lp2c, q_lp2b, q_lp2r, q_lp2x, y_ixL, y_ixT, y_ixLn, y_ixTn, y_lt, y_gt, y_add, y_isi_non, y_isi_bl, y_isi_int, y_isi_str, y_isi_tup, y_isi_tpf, y_isi_lst, y_isi_dk, y_isi_dt, b_NoneType_bool, b_NoneType_int, b_NoneType_str, b_NoneType_tuple, b_NoneType_list, b_NoneType_dict, b_bool_bool, b_bool_int, b_bool_str, b_bool_tuple, b_bool_list, b_bool_dict, b_int_bool, b_int_int, b_int_str, b_int_tuple, b_int_list, b_int_dict, b_str_bool, b_str_int, b_str_str, b_str_tuple, b_str_list, b_str_dict, b_tuple_bool, b_tuple_int, b_tuple_str, b_tuple_tuple, b_tuple_list, b_tuple_dict, b_list_bool, b_list_int, b_list_str, b_list_tuple, b_list_list, b_list_dict, b_dict_bool, b_dict_int, b_dict_str, b_dict_tuple, b_dict_list, b_dict_dict, y_fld, y_inPT, y_inPL, y_notinPT, y_inIL, y_notinIL, y_eqP, y_neP, y_nePT, y_eqPT, y_neIT, y_neIL0, y_nePL0, y_eqIL, y_sortIL, y_sortIT, y_sortIF, y_sortPL, y_truN, y_truB, y_truI, y_truT, y_truL, q_dc_0, q_dc0, q_dc1f, q_dc1t, q_dc2, q_dc3, q_dc4, q_dc5, q_mdc, q_mdc1, q_mdc2, y_inDt, y_notinDt, Option.bind_some, q_augS', q_ag0, q_ag1, q_ag2, q_ag2b, q_ag3, q_ag4, q_ag5, q_ag6, y_at, y_or, y_and, q_wl, q_wl1f, q_wl1t, q_wl2n, q_wl2c, q_wl2b, q_wl2r, q_wl2x, q_lr1, y_tupL, y_tupT, q_enum, q_en1, q_en2, q_en2f, q_sc_0, q_sc0, q_sc1f, q_sc1t, q_sc2, q_sc3, q_msc, q_msc1, q_msc2L, y_min2, y_max2, q_putA, q_pa0, q_pa1, q_pa2, q_pa3, q_pa4, q_pa5, a_mulI, a_putL, q_ls0, q_ls1, q_ls2f, q_ls2t, q_ls3, q_ls4, q_mlcS, q_lp (d := e), hdr, q_dict1, q_di1, q_di2]
    obtain ⟨e1, hw, he⟩ := key
    obtain ⟨h', d', t2, ih, il⟩ := run_deep_go ds (drawF h 3).2 e1 (.fr e) (k + 1) hw
    refine ⟨h', d', t2, he.trans ih, ?_⟩
    rw [List.length_cons, show k + (ds.length + 1) = k + 1 + ds.length by omega]
    exact il
theorem run_deep (h : Hd) : ∃ h' d, G__law_deep [hD h] = .ret false d (hD h') ∧ plD 60 d = true := by
  obtain ⟨d0, d1⟩ := drawF_in h 3 (by omega)
  have hdr := run_draw h 3 (by omega) (by omega)
  obtain ⟨e0, e1⟩ := drawF_in (drawF h 3).2 8 (by omega)
  have hdr2 := run_draw (drawF h 3).2 8 (by omega) (by omega)
  have r1 : -4611686018427387904 ≤ (14 : Int) + (drawF (drawF h 3).2 8).1 := by omega
  have r2 : (14 : Int) + (drawF (drawF h 3).2 8).1 < 4611686018427387904 := by omega
  have key : ∀ d : D, (∀ k, plD (k + 1) d = true) → ∃ h' d' t2, loop (bName 2) (sSet 1 (mBin gIxA (mLst (mCons (mLst (mCons (mName 1) mNil)) (mCons (mTup (mCons (mName 1) mNil)) (mCons (mDict1 (mK (.int 0)) (mName 1)) mNil)))) (mCallL 0 2 G__law_draw (mCons (mK (.int 3)) mNil)))) (rngD 0 ((14 : Int) + (drawF (drawF h 3).2 8).1).toNat) [.ow (hD (drawF (drawF h 3).2 8).2), .fr d, .un]
      = .ok .nx [.ow (hD h'), .fr d', t2] ∧ plD 60 d' = true := by
    intro d hd
    obtain ⟨h', d', t2, h1, h2⟩ := run_deep_go (rngD 0 ((14 : Int) + (drawF (drawF h 3).2 8).1).toNat) (drawF (drawF h 3).2 8).2 d .un (59 - ((14 : Int) + (drawF (drawF h 3).2 8).1).toNat + 1) (hd _)
    refine ⟨h', d', t2, h1, ?_⟩
    rw [rngD_length] at h2
    rw [show 60 = 59 - ((14 : Int) + (drawF (drawF h 3).2 8).1).toNat + 1 + ((14 : Int) + (drawF (drawF h 3).2 8).1).toNat by omega]
    exact h2
  unfold G__law_deep den__law_deep
  rcases draw3 d0 d1 with z | z | z
  · rw [z] at hdr
    obtain ⟨h', d', t2, hl, hv⟩ := key .non fun _ => rfl
    refine ⟨h', d', ?_, hv⟩
    simp (config := { decide := true }) only [q_run, q_enterT, q_enterF, List.map_cons, List.map_nil, List.length_cons, List.length_nil, List.replicate, List.cons_append, List.nil_append, q_seq, q_seq1, q_seq2, q_seq3, q_seq4, q_seq5, q_nx, q_drop, q_drop1, q_drop2, q_sret, q_ret1, q_ret2, q_sif, q_set, q_set1, q_set2, q_set3, q_set4, q_set5, q_put, q_put1, q_put2, q_put2b, q_put3, q_put4, q_put5, q_lf, q_lf1, q_asg, q_asg1, q_asg2, q_bname, q_btup, q_bcons, q_bc1, q_bnil, q_aug, q_aug1, q_aug2, q_mut, q_mut1, q_mut2, q_mut3, q_mut4, q_isL, q_app, q_ext, q_pop0, q_call, q_call1, q_call2, q_call3, q_call4, q_na, q_na1, q_cl, q_cl1, q_cl2, q_cl3, q_cl4, q_cl5, q_cl6, q_runF1, q_runF2, q_runF3, q_runF4, q_runF5, q_run3a, q_run3b, q_runT1, q_runT2, q_runT3, q_runT4, q_runT5, q_rtN, q_rtZ, q_rtX, q_rtL, q_ret, q_mK, q_name, q_nm1, q_nm2, q_pk1, q_pk2, q_pk3, q_pkS1, q_pkS2, q_take1, q_take2, q_take3, q_tkS1, q_tkS2, q_out, q_un, q_un1, q_un2, q_bin, q_bin1, q_bin2, q_bin3, q_bl, q_bl1, q_tru, q_tr1, q_tr2, q_tr3, q_and, q_and1, q_and2, q_or, q_or1, q_or2, q_not, q_not1, q_if, q_ite1, q_ite2, q_andV, q_orV, q_notV, q_notV1, q_chain, q_chain1, q_chain2, q_chain3, q_chain4, q_chain5, q_nil, q_cons, q_cons1, q_cons2, q_cons3, q_tup, q_tup1, q_lst, q_lst1, q_pnil, q_pcons, q_pc1, q_pc2, q_rd, q_rd1, q_rd2, q_pks0, q_pks1, q_pk2', q_part, q_part1, q_part2, q_sl, q_sl1, q_sl2, q_sl3, q_sl4, w_ix, w_ixT, w_ixL, w_ixTL, w_put, w_put_0, w_put_1, w_put_2, w_put_3, w_put_4, w_put_5, w_put_6, w_put_7, w_put_8, w_eq, w_ne, w_lt, w_le, w_gt, w_ge, w_add, w_sub, w_mulR, w_mulL, w_mulM, w_mod, w_div, w_len, w_lenT, w_int, w_intb, w_pow, w_neg, List.getElem?_cons_zero, List.getElem?_cons_succ, List.set_cons_zero, List.set_cons_succ, Option.map_some, beq_self_eq_true, Bool.not_true, Bool.not_false, Nat.reduceAdd, Nat.reduceSub, Nat.reduceLT, Nat.reduceLeDiff, Int.reduceLT, Int.reduceLE, Int.reduceToNat, Int.reducePow, Int.reduceNeg, decide_true, decide_false, Int.lt_irrefl, q_wipe0, q_wipe1, q_rest0, q_rest1, q_rs1, q_noOwn0, q_noOwn1, q_owS1, q_owS2, q_owS3, q_lc0, q_lc, q_lc1, q_lc2f, q_lc2t, q_lc3, q_lc4, q_mlc, q_mlc1, q_mlc2, q_iter, q_iter1, q_iter2, q_seqL, q_seqT, q_seqF, q_rng1, q_rng1', q_rng2, q_rng2', q_for, q_for1, q_lp0, q_lp1, q_lp2n, q_lp2c, q_lp2b, q_lp2r, q_lp2x, y_ixL, y_ixT, y_ixLn, y_ixTn, y_lt, y_gt, y_add, y_isi_non, y_isi_bl, y_isi_int, y_isi_str, y_isi_tup, y_isi_tpf, y_isi_lst, y_isi_dk, y_isi_dt, b_NoneType_bool, b_NoneType_int, b_NoneType_str, b_NoneType_tuple, b_NoneType_list, b_NoneType_dict, b_bool_bool, b_bool_int, b_bool_str, b_bool_tuple, b_bool_list, b_bool_dict, b_int_bool, b_int_int, b_int_str, b_int_tuple, b_int_list, b_int_dict, b_str_bool, b_str_int, b_str_str, b_str_tuple, b_str_list, b_str_dict, b_tuple_bool, b_tuple_int, b_tuple_str, b_tuple_tuple, b_tuple_list, b_tuple_dict, b_list_bool, b_list_int, b_list_str, b_list_tuple, b_list_list, b_list_dict, b_dict_bool, b_dict_int, b_dict_str, b_dict_tuple, b_dict_list, b_dict_dict, y_fld, y_inPT, y_inPL, y_notinPT, y_inIL, y_notinIL, y_eqP, y_neP, y_nePT, y_eqPT, y_neIT, y_neIL0, y_nePL0, y_eqIL, y_sortIL, y_sortIT, y_sortIF, y_sortPL, y_truN, y_truB, y_truI, y_truT, y_truL, q_dc_0, q_dc0, q_dc1f, q_dc1t, q_dc2, q_dc3, q_dc4, q_dc5, q_mdc, q_mdc1, q_mdc2, y_inDt, y_notinDt, Option.bind_some, q_augS', q_ag0, q_ag1, q_ag2, q_ag2b, q_ag3, q_ag4, q_ag5, q_ag6, y_at, y_or, y_and, q_wl, q_wl1f, q_wl1t, q_wl2n, q_wl2c, q_wl2b, q_wl2r, q_wl2x, q_lr1, y_tupL, y_tupT, q_enum, q_en1, q_en2, q_en2f, q_sc_0, q_sc0, q_sc1f, q_sc1t, q_sc2, q_sc3, q_msc, q_msc1, q_msc2L, y_min2, y_max2, q_putA, q_pa0, q_pa1, q_pa2, q_pa3, q_pa4, q_pa5, a_mulI, a_putL, q_ls0, q_ls1, q_ls2f, q_ls2t, q_ls3, q_ls4, q_mlcS, hdr, hdr2, q_rng1' r1 r2, hl]
  · rw [z] at hdr
    obtain ⟨h', d', t2, hl, hv⟩ := key (.tup []) fun _ => rfl
    refine ⟨h', d', ?_, hv⟩
    simp (config := { decide := true }) only [q_run, q_enterT, q_enterF, List.map_cons, List.map_nil, List.length_cons, List.length_nil, List.replicate, List.cons_append, List.nil_append, q_seq, q_seq1, q_seq2, q_seq3, q_seq4, q_seq5, q_nx, q_drop, q_drop1, q_drop2, q_sret, q_ret1, q_ret2, q_sif, q_set, q_set1, q_set2, q_set3, q_set4, q_set5, q_put, q_put1, q_put2, q_put2b, q_put3, q_put4, q_put5, q_lf, q_lf1, q_asg, q_asg1, q_asg2, q_bname, q_btup, q_bcons, q_bc1, q_bnil, q_aug, q_aug1, q_aug2, q_mut, q_mut1, q_mut2, q_mut3, q_mut4, q_isL, q_app, q_ext, q_pop0, q_call, q_call1, q_call2, q_call3, q_call4, q_na, q_na1, q_cl, q_cl1, q_cl2, q_cl3, q_cl4, q_cl5, q_cl6, q_runF1, q_runF2, q_runF3, q_runF4, q_runF5, q_run3a, q_run3b, q_runT1, q_runT2, q_runT3, q_runT4, q_runT5, q_rtN, q_rtZ, q_rtX, q_rtL, q_ret, q_mK, q_name, q_nm1, q_nm2, q_pk1, q_pk2, q_pk3, q_pkS1, q_pkS2, q_take1, q_take2, q_take3, q_tkS1, q_tkS2, q_out, q_un, q_un1, q_un2, q_bin, q_bin1, q_bin2, q_bin3, q_bl, q_bl1, q_tru, q_tr1, q_tr2, q_tr3, q_and, q_and1, q_and2, q_or, q_or1, q_or2, q_not, q_not1, q_if, q_ite1, q_ite2, q_andV, q_orV, q_notV, q_notV1, q_chain, q_chain1, q_chain2, q_chain3, q_chain4, q_chain5, q_nil, q_cons, q_cons1, q_cons2, q_cons3, q_tup, q_tup1, q_lst, q_lst1, q_pnil, q_pcons, q_pc1, q_pc2, q_rd, q_rd1, q_rd2, q_pks0, q_pks1, q_pk2', q_part, q_part1, q_part2, q_sl, q_sl1, q_sl2, q_sl3, q_sl4, w_ix, w_ixT, w_ixL, w_ixTL, w_put, w_put_0, w_put_1, w_put_2, w_put_3, w_put_4, w_put_5, w_put_6, w_put_7, w_put_8, w_eq, w_ne, w_lt, w_le, w_gt, w_ge, w_add, w_sub, w_mulR, w_mulL, w_mulM, w_mod, w_div, w_len, w_lenT, w_int, w_intb, w_pow, w_neg, List.getElem?_cons_zero, List.getElem?_cons_succ, List.set_cons_zero, List.set_cons_succ, Option.map_some, beq_self_eq_true, Bool.not_true, Bool.not_false, Nat.reduceAdd, Nat.reduceSub, Nat.reduceLT, Nat.reduceLeDiff, Int.reduceLT, Int.reduceLE, Int.reduceToNat, Int.reducePow, Int.reduceNeg, decide_true, decide_false, Int.lt_irrefl, q_wipe0, q_wipe1, q_rest0, q_rest1, q_rs1, q_noOwn0, q_noOwn1, q_owS1, q_owS2, q_owS3, q_lc0, q_lc, q_lc1, q_lc2f, q_lc2t, q_lc3, q_lc4, q_mlc, q_mlc1, q_mlc2, q_iter, q_iter1, q_iter2, q_seqL, q_seqT, q_seqF, q_rng1, q_rng1', q_rng2, q_rng2', q_for, q_for1, q_lp0, q_lp1, q_lp2n, q_lp2c, q_lp2b, q_lp2r, q_lp2x, y_ixL, y_ixT, y_ixLn, y_ixTn, y_lt, y_gt, y_add, y_isi_non, y_isi_bl, y_isi_int, y_isi_str, y_isi_tup, y_isi_tpf, y_isi_lst, y_isi_dk, y_isi_dt, b_NoneType_bool, b_NoneType_int, b_NoneType_str, b_NoneType_tuple, b_NoneType_list, b_NoneType_dict, b_bool_bool, b_bool_int, b_bool_str, b_bool_tuple, b_bool_list, b_bool_dict, b_int_bool, b_int_int, b_int_str, b_int_tuple, b_int_list, b_int_dict, b_str_bool, b_str_int, b_str_str, b_str_tuple, b_str_list, b_str_dict, b_tuple_bool, b_tuple_int, b_tuple_str, b_tuple_tuple, b_tuple_list, b_tuple_dict, b_list_bool, b_list_int, b_list_str, b_list_tuple, b_list_list, b_list_dict, b_dict_bool, b_dict_int, b_dict_str, b_dict_tuple, b_dict_list, b_dict_dict, y_fld, y_inPT, y_inPL, y_notinPT, y_inIL, y_notinIL, y_eqP, y_neP, y_nePT, y_eqPT, y_neIT, y_neIL0, y_nePL0, y_eqIL, y_sortIL, y_sortIT, y_sortIF, y_sortPL, y_truN, y_truB, y_truI, y_truT, y_truL, q_dc_0, q_dc0, q_dc1f, q_dc1t, q_dc2, q_dc3, q_dc4, q_dc5, q_mdc, q_mdc1, q_mdc2, y_inDt, y_notinDt, Option.bind_some, q_augS', q_ag0, q_ag1, q_ag2, q_ag2b, q_ag3, q_ag4, q_ag5, q_ag6, y_at, y_or, y_and, q_wl, q_wl1f, q_wl1t, q_wl2n, q_wl2c, q_wl2b, q_wl2r, q_wl2x, q_lr1, y_tupL, y_tupT, q_enum, q_en1, q_en2, q_en2f, q_sc_0, q_sc0, q_sc1f, q_sc1t, q_sc2, q_sc3, q_msc, q_msc1, q_msc2L, y_min2, y_max2, q_putA, q_pa0, q_pa1, q_pa2, q_pa3, q_pa4, q_pa5, a_mulI, a_putL, q_ls0, q_ls1, q_ls2f, q_ls2t, q_ls3, q_ls4, q_mlcS, hdr, hdr2, q_rng1' r1 r2, hl]
  · rw [z] at hdr
    obtain ⟨h', d', t2, hl, hv⟩ := key (.int 0) fun _ => rfl
    refine ⟨h', d', ?_, hv⟩
    simp (config := { decide := true }) only [q_run, q_enterT, q_enterF, List.map_cons, List.map_nil, List.length_cons, List.length_nil, List.replicate, List.cons_append, List.nil_append, q_seq, q_seq1, q_seq2, q_seq3, q_seq4, q_seq5, q_nx, q_drop, q_drop1, q_drop2, q_sret, q_ret1, q_ret2, q_sif, q_set, q_set1, q_set2, q_set3, q_set4, q_set5, q_put, q_put1, q_put2, q_put2b, q_put3, q_put4, q_put5, q_lf, q_lf1, q_asg, q_asg1, q_asg2, q_bname, q_btup, q_bcons, q_bc1, q_bnil, q_aug, q_aug1, q_aug2, q_mut, q_mut1, q_mut2, q_mut3, q_mut4, q_isL, q_app, q_ext, q_pop0, q_call, q_call1, q_call2, q_call3, q_call4, q_na, q_na1, q_cl, q_cl1, q_cl2, q_cl3, q_cl4, q_cl5, q_cl6, q_runF1, q_runF2, q_runF3, q_runF4, q_runF5, q_run3a, q_run3b, q_runT1, q_runT2, q_runT3, q_runT4, q_runT5, q_rtN, q_rtZ, q_rtX, q_rtL, q_ret, q_mK, q_name, q_nm1, q_nm2, q_pk1, q_pk2, q_pk3, q_pkS1, q_pkS2, q_take1, q_take2, q_take3, q_tkS1, q_tkS2, q_out, q_un, q_un1, q_un2, q_bin, q_bin1, q_bin2, q_bin3, q_bl, q_bl1, q_tru, q_tr1, q_tr2, q_tr3, q_and, q_and1, q_and2, q_or, q_or1, q_or2, q_not, q_not1, q_if, q_ite1, q_ite2, q_andV, q_orV, q_notV, q_notV1, q_chain, q_chain1, q_chain2, q_chain3, q_chain4, q_chain5, q_nil, q_cons, q_cons1, q_cons2, q_cons3, q_tup, q_tup1, q_lst, q_lst1, q_pnil, q_pcons, q_pc1, q_pc2, q_rd, q_rd1, q_rd2, q_pks0, q_pks1, q_pk2', q_part, q_part1, q_part2, q_sl, q_sl1, q_sl2, q_sl3, q_sl4, w_ix, w_ixT, w_ixL, w_ixTL, w_put, w_put_0, w_put_1, w_put_2, w_put_3, w_put_4, w_put_5, w_put_6, w_put_7, w_put_8, w_eq, w_ne, w_lt, w_le, w_gt, w_ge, w_add, w_sub, w_mulR, w_mulL, w_mulM, w_mod, w_div, w_len, w_lenT, w_int, w_intb, w_pow, w_neg, List.getElem?_cons_zero, List.getElem?_cons_succ, List.set_cons_zero, List.set_cons_succ, Option.map_some, beq_self_eq_true, Bool.not_true, Bool.not_false, Nat.reduceAdd, Nat.reduceSub, Nat.reduceLT, Nat.reduceLeDiff, Int.reduceLT, Int.reduceLE, Int.reduceToNat, Int.reducePow, Int.reduceNeg, decide_true, decide_false, Int.lt_irrefl, q_wipe0, q_wipe1, q_rest0, q_rest1, q_rs1, q_noOwn0, q_noOwn1, q_owS1, q_owS2, q_owS3, q_lc0, q_lc, q_lc1, q_lc2f, q_lc2t, q_lc3, q_lc4, q_mlc, q_mlc1, q_mlc2, q_iter, q_iter1, q_iter2, q_seqL, q_seqT, q_seqF, q_rng1, q_rng1', q_rng2, q_rng2', q_for, q_for1, q_lp0, q_lp1, q_lp2n, q_lp2c, q_lp2b, q_lp2r, q_lp2x, y_ixL, y_ixT, y_ixLn, y_ixTn, y_lt, y_gt, y_add, y_isi_non, y_isi_bl, y_isi_int, y_isi_str, y_isi_tup, y_isi_tpf, y_isi_lst, y_isi_dk, y_isi_dt, b_NoneType_bool, b_NoneType_int, b_NoneType_str, b_NoneType_tuple, b_NoneType_list, b_NoneType_dict, b_bool_bool, b_bool_int, b_bool_str, b_bool_tuple, b_bool_list, b_bool_dict, b_int_bool, b_int_int, b_int_str, b_int_tuple, b_int_list, b_int_dict, b_str_bool, b_str_int, b_str_str, b_str_tuple, b_str_list, b_str_dict, b_tuple_bool, b_tuple_int, b_tuple_str, b_tuple_tuple, b_tuple_list, b_tuple_dict, b_list_bool, b_list_int, b_list_str, b_list_tuple, b_list_list, b_list_dict, b_dict_bool, b_dict_int, b_dict_str, b_dict_tuple, b_dict_list, b_dict_dict, y_fld, y_inPT, y_inPL, y_notinPT, y_inIL, y_notinIL, y_eqP, y_neP, y_nePT, y_eqPT, y_neIT, y_neIL0, y_nePL0, y_eqIL, y_sortIL, y_sortIT, y_sortIF, y_sortPL, y_truN, y_truB, y_truI, y_truT, y_truL, q_dc_0, q_dc0, q_dc1f, q_dc1t, q_dc2, q_dc3, q_dc4, q_dc5, q_mdc, q_mdc1, q_mdc2, y_inDt, y_notinDt, Option.bind_some, q_augS', q_ag0, q_ag1, q_ag2, q_ag2b, q_ag3, q_ag4, q_ag5, q_ag6, y_at, y_or, y_and, q_wl, q_wl1f, q_wl1t, q_wl2n, q_wl2c, q_wl2b, q_wl2r, q_wl2x, q_lr1, y_tupL, y_tupT, q_enum, q_en1, q_en2, q_en2f, q_sc_0, q_sc0, q_sc1f, q_sc1t, q_sc2, q_sc3, q_msc, q_msc1, q_msc2L, y_min2, y_max2, q_putA, q_pa0, q_pa1, q_pa2, q_pa3, q_pa4, q_pa5, a_mulI, a_putL, q_ls0, q_ls1, q_ls2f, q_ls2t, q_ls3, q_ls4, q_mlcS, hdr, hdr2, q_rng1' r1 r2, hl]
theorem run_hand_go : ∀ (ns : List Int) (acc : List Int) (s0 : Sl), acc.length + ns.length ≤ 1000 →
    lcGo [2] (bName 2) (M.ret true) (mRd gAbs (pCons (mRd gInt (pCons (mName 2) pNil)) pNil)) (acc.map .int) (ns.map .int) [s0, .un, .un] = .ok ((acc ++ ns.map fun i => (i.natAbs : Int)).map .int) [s0, .un, .un]
  | [], acc, s0, _ => by rw [List.map_nil, List.map_nil, List.append_nil]; rfl
  | n :: ns, acc, s0, hl => by
    rw [List.length_cons] at hl
    have ih := run_hand_go ns (acc ++ [(n.natAbs : Int)]) s0 (by rw [List.length_append, List.length_singleton]; omega)
    have hacc : (acc.map D.int).length < 100000 := by rw [List.length_map]; omega
    have eacc : acc.map D.int ++ [D.int (n.natAbs : Int)] = (acc ++ [(n.natAbs : Int)]).map D.int := by rw [List.map_append]; rfl
    have hab : gAbs [.int n] = some (.fz (.int (n.natAbs : Int))) := by
      unfold gAbs
      first
        | rfl
        | (simp; omega)
    rw [List.append_assoc] at ih
    rw [List.map_cons, List.map_cons]
    simp (config := { decide := true }) only [q_run, q_enterT, q_enterF, List.map_cons, List.map_nil, List.length_cons, List.length_nil, List.replicate, List.cons_append, List.nil_append, q_seq, q_seq1, q_seq2, q_seq3, q_seq4, q_seq5, q_nx, q_drop, q_drop1, q_drop2, q_sret, q_ret1, q_ret2, q_sif, q_set, q_set1, q_set2, q_set3, q_set4, q_set5, q_put, q_put1, q_put2, q_put2b, q_put3, q_put4, q_put5, q_lf, q_lf1, q_asg, q_asg1, q_asg2, q_bname, q_btup, q_bcons, q_bc1, q_bnil, q_aug, q_aug1, q_aug2, q_mut, q_mut1, q_mut2, q_mut3, q_mut4, q_isL, q_app, q_ext, q_pop0, q_call, q_call1, q_call2, q_call3, q_call4, q_na, q_na1, q_cl, q_cl1, q_cl2, q_cl3, q_cl4, q_cl5, q_cl6, q_runF1, q_runF2, q_runF3, q_runF4, q_runF5, q_run3a, q_run3b, q_runT1, q_runT2, q_runT3, q_runT4, q_runT5, q_rtN, q_rtZ, q_rtX, q_rtL, q_ret, q_mK, q_name, q_nm1, q_nm2, q_pk1, q_pk2, q_pk3, q_pkS1, q_pkS2, q_take1, q_take2, q_take3, q_tkS1, q_tkS2, q_out, q_un, q_un1, q_un2, q_bin, q_bin1, q_bin2, q_bin3, q_bl, q_bl1, q_tru, q_tr1, q_tr2, q_tr3, q_and, q_and1, q_and2, q_or, q_or1, q_or2, q_not, q_not1, q_if, q_ite1, q_ite2, q_andV, q_orV, q_notV, q_notV1, q_chain, q_chain1, q_chain2, q_chain3, q_chain4, q_chain5, q_nil, q_cons, q_cons1, q_cons2, q_cons3, q_tup, q_tup1, q_lst, q_lst1, q_pnil, q_pcons, q_pc1, q_pc2, q_rd, q_rd1, q_rd2, q_pks0, q_pks1, q_pk2', q_part, q_part1, q_part2, q_sl, q_sl1, q_sl2, q_sl3, q_sl4, w_ix, w_ixT, w_ixL, w_ixTL, w_put, w_put_0, w_put_1, w_put_2, w_put_3, w_put_4, w_put_5, w_put_6, w_put_7, w_put_8, w_eq, w_ne, w_lt, w_le, w_gt, w_ge, w_add, w_sub, w_mulR, w_mulL, w_mulM, w_mod, w_div, w_len, w_lenT, w_int, w_intb, w_pow, w_neg, List.getElem?_cons_zero, List.getElem?_cons_succ, List.set_cons_zero, List.set_cons_succ, Option.map_some, beq_self_eq_true, Bool.not_true, Bool.not_false, Nat.reduceAdd, Nat.reduceSub, Nat.reduceLT, Nat.reduceLeDiff, Int.reduceLT, Int.reduceLE, Int.reduceToNat, Int.reducePow, Int.reduceNeg, decide_true, decide_false, Int.lt_irrefl, q_wipe0, q_wipe1, q_rest0, q_rest1, q_rs1, q_noOwn0, q_noOwn1, q_owS1, q_owS2, q_owS3, q_lc0, q_lc1, q_lc2f, q_lc2t, q_lc3, q_lc4, q_mlc, q_mlc1, q_mlc2, q_iter, q_iter1, q_iter2, q_seqL, q_seqT, q_seqF, q_rng1, q_rng1', q_rng2, q_rng2', q_for, q_for1, q_lp0, q_lp, q_lp1, q_lp2n, q_lp2c, q_lp2b, q_lp2r, q_lp2x, y_ixL, y_ixT, y_ixLn, y_ixTn, y_lt, y_gt, y_add, y_isi_non, y_isi_bl, y_isi_int, y_isi_str, y_isi_tup, y_isi_tpf, y_isi_lst, y_isi_dk, y_isi_dt, b_NoneType_bool, b_NoneType_int, b_NoneType_str, b_NoneType_tuple, b_NoneType_list, b_NoneType_dict, b_bool_bool, b_bool_int, b_bool_str, b_bool_tuple, b_bool_list, b_bool_dict, b_int_bool, b_int_int, b_int_str, b_int_tuple, b_int_list, b_int_dict, b_str_bool, b_str_int, b_str_str, b_str_tuple, b_str_list, b_str_dict, b_tuple_bool, b_tuple_int, b_tuple_str, b_tuple_tuple, b_tuple_list, b_tuple_dict, b_list_bool, b_list_int, b_list_str, b_list_tuple, b_list_list, b_list_dict, b_dict_bool, b_dict_int, b_dict_str, b_dict_tuple, b_dict_list, b_dict_dict, y_fld, y_inPT, y_inPL, y_notinPT, y_inIL, y_notinIL, y_eqP, y_neP, y_nePT, y_eqPT, y_neIT, y_neIL0, y_nePL0, y_eqIL, y_sortIL, y_sortIT, y_sortIF, y_sortPL, y_truN, y_truB, y_truI, y_truT, y_truL, q_dc_0, q_dc0, q_dc1f, q_dc1t, q_dc2, q_dc3, q_dc4, q_dc5, q_mdc, q_mdc1, q_mdc2, y_inDt, y_notinDt, Option.bind_some, q_augS', q_ag0, q_ag1, q_ag2, q_ag2b, q_ag3, q_ag4, q_ag5, q_ag6, y_at, y_or, y_and, q_wl, q_wl1f, q_wl1t, q_wl2n, q_wl2c, q_wl2b, q_wl2r, q_wl2x, q_lr1, y_tupL, y_tupT, q_enum, q_en1, q_en2, q_en2f, q_sc_0, q_sc0, q_sc1f, q_sc1t, q_sc2, q_sc3, q_msc, q_msc1, q_msc2L, y_min2, y_max2, q_putA, q_pa0, q_pa1, q_pa2, q_pa3, q_pa4, q_pa5, a_mulI, a_putL, q_ls0, q_ls1, q_ls2f, q_ls2t, q_ls3, q_ls4, q_mlcS, q_lc (d := D.int n), q_lc4 hacc, eacc, hab]
    exact ih
theorem cutD_le {α : Type} (xs : List α) (lo hi : Option Int) : (DL.cutD xs lo hi).length ≤ xs.length := by
  unfold DL.cutD
  rw [List.length_take, List.length_drop]
  omega
theorem run_hand (ns : List Int) (hl : ns.length ≤ 63) : ∃ h : Hd, G__law_hand [.scr ns] = .ret true (hD h) .non := by
  refine ⟨⟨(DL.cutD ns none (some 63)).map (fun i => (i.natAbs : Int)), 0, 0, 1 + (DL.cutD ns none (some 63)).length, 0⟩, ?_⟩
  have hg := run_hand_go (DL.cutD ns none (some 63)) [] (.fr (.scr ns)) (by have := cutD_le ns none (some 63); rw [List.length_nil]; omega)
  rw [List.map_nil, List.nil_append] at hg
  have hs : gSl (.scr ns) none (some 63) = some (.fs (.lst ((DL.cutD ns none (some 63)).map .int))) := rfl
  have hlen : (((DL.cutD ns none (some 63)).map fun i => (i.natAbs : Int)).map D.int).length = (DL.cutD ns none (some 63)).length := by rw [List.length_map, List.length_map]
  unfold G__law_hand den__law_hand hD
  simp (config := { decide := true }) only [q_run, q_enterT, q_enterF, List.map_cons, List.map_nil, List.length_cons, List.length_nil, List.replicate, List.cons_append, List.nil_append, q_seq, q_seq1, q_seq2, q_seq3, q_seq4, q_seq5, q_nx, q_drop, q_drop1, q_drop2, q_sret, q_ret1, q_ret2, q_sif, q_set, q_set1, q_set2, q_set3, q_set4, q_set5, q_put, q_put1, q_put2, q_put2b, q_put3, q_put4, q_put5, q_lf, q_lf1, q_asg, q_asg1, q_asg2, q_bname, q_btup, q_bcons, q_bc1, q_bnil, q_aug, q_aug1, q_aug2, q_mut, q_mut1, q_mut2, q_mut3, q_mut4, q_isL, q_app, q_ext, q_pop0, q_call, q_call1, q_call2, q_call3, q_call4, q_na, q_na1, q_cl, q_cl1, q_cl2, q_cl3, q_cl4, q_cl5, q_cl6, q_runF1, q_runF2, q_runF3, q_runF4, q_runF5, q_run3a, q_run3b, q_runT1, q_runT2, q_runT3, q_runT4, q_runT5, q_rtN, q_rtZ, q_rtX, q_rtL, q_ret, q_mK, q_name, q_nm1, q_nm2, q_pk1, q_pk2, q_pk3, q_pkS1, q_pkS2, q_take1, q_take2, q_take3, q_tkS1, q_tkS2, q_out, q_un, q_un1, q_un2, q_bin, q_bin1, q_bin2, q_bin3, q_bl, q_bl1, q_tru, q_tr1, q_tr2, q_tr3, q_and, q_and1, q_and2, q_or, q_or1, q_or2, q_not, q_not1, q_if, q_ite1, q_ite2, q_andV, q_orV, q_notV, q_notV1, q_chain, q_chain1, q_chain2, q_chain3, q_chain4, q_chain5, q_nil, q_cons, q_cons1, q_cons2, q_cons3, q_tup, q_tup1, q_lst, q_lst1, q_pnil, q_pcons, q_pc1, q_pc2, q_rd, q_rd1, q_rd2, q_pks0, q_pks1, q_pk2', q_part, q_part1, q_part2, q_sl, q_sl1, q_sl2, q_sl3, q_sl4, w_ix, w_ixT, w_ixL, w_ixTL, w_put, w_put_0, w_put_1, w_put_2, w_put_3, w_put_4, w_put_5, w_put_6, w_put_7, w_put_8, w_eq, w_ne, w_lt, w_le, w_gt, w_ge, w_add, w_sub, w_mulR, w_mulL, w_mulM, w_mod, w_div, w_len, w_lenT, w_int, w_intb, w_pow, w_neg, List.getElem?_cons_zero, List.getElem?_cons_succ, List.set_cons_zero, List.set_cons_succ, Option.map_some, beq_self_eq_true, Bool.not_true, Bool.not_false, Nat.reduceAdd, Nat.reduceSub, Nat.reduceLT, Nat.reduceLeDiff, Int.reduceLT, Int.reduceLE, Int.reduceToNat, Int.reducePow, Int.reduceNeg, decide_true, decide_false, Int.lt_irrefl, q_wipe0, q_wipe1, q_rest0, q_rest1, q_rs1, q_noOwn0, q_noOwn1, q_owS1, q_owS2, q_owS3, q_lc0, q_lc1, q_lc2f, q_lc2t, q_lc3, q_lc4, q_mlc, q_mlc1, q_mlc2, q_iter, q_iter1, q_iter2, q_seqL, q_seqT, q_seqF, q_rng1, q_rng1', q_rng2, q_rng2', q_for, q_for1, q_lp0, q_lp, q_lp1, q_lp2n, q_lp2c, q_lp2b, q_lp2r, q_lp2x, y_ixL, y_ixT, y_ixLn, y_ixTn, y_lt, y_gt, y_add, y_isi_non, y_isi_bl, y_isi_int, y_isi_str, y_isi_tup, y_isi_tpf, y_isi_lst, y_isi_dk, y_isi_dt, b_NoneType_bool, b_NoneType_int, b_NoneType_str, b_NoneType_tuple, b_NoneType_list, b_NoneType_dict, b_bool_bool, b_bool_int, b_bool_str, b_bool_tuple, b_bool_list, b_bool_dict, b_int_bool, b_int_int, b_int_str, b_int_tuple, b_int_list, b_int_dict, b_str_bool, b_str_int, b_str_str, b_str_tuple, b_str_list, b_str_dict, b_tuple_bool, b_tuple_int, b_tuple_str, b_tuple_tuple, b_tuple_list, b_tuple_dict, b_list_bool, b_list_int, b_list_str, b_list_tuple, b_list_list, b_list_dict, b_dict_bool, b_dict_int, b_dict_str, b_dict_tuple, b_dict_list, b_dict_dict, y_fld, y_inPT, y_inPL, y_notinPT, y_inIL, y_notinIL, y_eqP, y_neP, y_nePT, y_eqPT, y_neIT, y_neIL0, y_nePL0, y_eqIL, y_sortIL, y_sortIT, y_sortIF, y_sortPL, y_truN, y_truB, y_truI, y_truT, y_truL, q_dc_0, q_dc0, q_dc1f, q_dc1t, q_dc2, q_dc3, q_dc4, q_dc5, q_mdc, q_mdc1, q_mdc2, y_inDt, y_notinDt, Option.bind_some, q_augS', q_ag0, q_ag1, q_ag2, q_ag2b, q_ag3, q_ag4, q_ag5, q_ag6, y_at, y_or, y_and, q_wl, q_wl1f, q_wl1t, q_wl2n, q_wl2c, q_wl2b, q_wl2r, q_wl2x, q_lr1, y_tupL, y_tupT, q_enum, q_en1, q_en2, q_en2f, q_sc_0, q_sc0, q_sc1f, q_sc1t, q_sc2, q_sc3, q_msc, q_msc1, q_msc2L, y_min2, y_max2, q_putA, q_pa0, q_pa1, q_pa2, q_pa3, q_pa4, q_pa5, a_mulI, a_putL, q_ls0, q_ls1, q_ls2f, q_ls2t, q_ls3, q_ls4, q_mlcS, hs, hg, hlen]
  rfl
end K00
-- Z2
set_option maxHeartbeats 4000000
namespace K00
open PySem PySem.Spec PyProof.Rows L2 DL
noncomputable section
@[irreducible] def xc1 (c f : Str) (r : Rs (List D)) : Rs R := match r with | .ok [d] E => .ok (.fz (.ex1 c f d)) E | .ok _ _ => .no | .ex x E => .ex x E | .no => .no
theorem q_exc1 {c f : Str} {fs : M (List D)} {E : En} : mExc1 c f fs E = xc1 c f (fs E) := by
  unfold mExc1 xc1 M.bnd
  cases fs E with
  | ok ds E1 =>
    match ds with
    | [] => rfl
    | [d] => rfl
    | _ :: _ :: _ => rfl
  | _ => rfl
theorem q_xc1 {c f : Str} {d : D} {E : En} : xc1 c f (.ok [d] E) = .ok (.fz (.ex1 c f d)) E := by unfold xc1; rfl
theorem q_exc0 {c : Str} {E : En} : mExc0 c E = .ok (.fz (.ex0 c)) E := rfl
theorem y_xf (c f : Str) (d : D) : gXf c f (.ex1 c f d) = some (.fz d) := by simp [gXf]
theorem y_addL {a b : List D} (h : a.length + b.length ≤ 100000) : gAddA (.lst a) (.lst b) = some (.fs (.lst (a ++ b))) := by
  show (if a.length + b.length ≤ 100000 then some (R.fs (D.lst (a ++ b))) else none) = _
  rw [if_pos h]
theorem y_neB (b : Bool) : gNe (.bl b) (.bl b) = some (.fz (.bl false)) := by cases b <;> rfl
theorem pl_isi : ∀ {n : Nat} {t : D}, plD n t = true → ∃ b, gIsi "bool" t = some (.fz (.bl b))
  | 0, _, h => nomatch h
  | n + 1, t, h => by
    cases t <;> first
      | exact ⟨_, rfl⟩
      | cases h
theorem lc_go (t : D) (b : Bool) (hb : gIsi "bool" t = some (.fz (.bl b))) (ht : plD 60 t = true) (s0 s1 s2 s4 s5 s6 s8 : Sl) : ∀ (n : Nat) (acc : List D), acc.length + n ≤ 1000 →
    lcGo [7] (bName 7) (M.ret true) (mOrV (mBin gNe (mUn (gIsi "bool") (mName 7)) (mUn (gIsi "bool") (mName 3))) (mBin gNeW (mName 7) (mName 3))) acc (List.replicate n t) [s0, s1, s2, .fr t, s4, s5, s6, .un, s8] = .ok (acc ++ List.replicate n (.bl false)) [s0, s1, s2, .fr t, s4, s5, s6, .un, s8]
  | 0, acc, _ => by simp [lcGo, M.ret]
  | n + 1, acc, hl => by
    have ih := lc_go t b hb ht s0 s1 s2 s4 s5 s6 s8 n (acc ++ [.bl false]) (by rw [List.length_append, List.length_singleton]; omega)
    rw [List.append_assoc] at ih
    have hacc : acc.length < 100000 := by omega
    rw [List.replicate_succ, List.replicate_succ]
    simp (config := { decide := true }) only [q_run, q_enterT, q_enterF, List.map_cons, List.map_nil, List.length_cons, List.length_nil, List.replicate, List.cons_append, List.nil_append, q_seq, q_seq1, q_seq2, q_seq3, q_seq4, q_seq5, q_nx, q_drop, q_drop1, q_drop2, q_sret, q_ret1, q_ret2, q_sif, q_set, q_set1, q_set2, q_set3, q_set4, q_set5, q_put, q_put1, q_put2, q_put2b, q_put3, q_put4, q_put5, q_lf, q_lf1, q_asg, q_asg1, q_asg2, q_bname, q_btup, q_bcons, q_bc1, q_bnil, q_aug, q_aug1, q_aug2, q_mut, q_mut1, q_mut2, q_mut3, q_mut4, q_isL, q_app, q_ext, q_pop0, q_call, q_call1, q_call2, q_call3, q_call4, q_na, q_na1, q_cl, q_cl1, q_cl2, q_cl3, q_cl4, q_cl5, q_cl6, q_runF1, q_runF2, q_runF3, q_runF4, q_runF5, q_run3a, q_run3b, q_runT1, q_runT2, q_runT3, q_runT4, q_runT5, q_rtN, q_rtZ, q_rtX, q_rtL, q_ret, q_mK, q_name, q_nm1, q_nm2, q_pk1, q_pk2, q_pk3, q_pkS1, q_pkS2, q_take1, q_take2, q_take3, q_tkS1, q_tkS2, q_out, q_un, q_un1, q_un2, q_bin, q_bin1, q_bin2, q_bin3, q_bl, q_bl1, q_tru, q_tr1, q_tr2, q_tr3, q_and, q_and1, q_and2, q_or, q_or1, q_or2, q_not, q_not1, q_if, q_ite1, q_ite2, q_andV, q_orV, q_notV, q_notV1, q_chain, q_chain1, q_chain2, q_chain3, q_chain4, q_chain5, q_nil, q_cons, q_cons1, q_cons2, q_cons3, q_tup, q_tup1, q_lst, q_lst1, q_pnil, q_pcons, q_pc1, q_pc2, q_rd, q_rd1, q_rd2, q_pks0, q_pks1, q_pk2', q_part, q_part1, q_part2, q_sl, q_sl1, q_sl2, q_sl3, q_sl4, w_ix, w_ixT, w_ixL, w_ixTL, w_put, w_put_0, w_put_1, w_put_2, w_put_3, w_put_4, w_put_5, w_put_6, w_put_7, w_put_8, w_eq, w_ne, w_lt, w_le, w_gt, w_ge, w_add, w_sub, w_mulR, w_mulL, w_mulM, w_mod, w_div, w_len, w_lenT, w_int, w_intb, w_pow, w_neg, List.getElem?_cons_zero, List.getElem?_cons_succ, List.set_cons_zero, List.set_cons_succ, Option.map_some, beq_self_eq_true, Bool.not_true, Bool.not_false, Nat.reduceAdd, Nat.reduceSub, Nat.reduceLT, Nat.reduceLeDiff, Int.reduceLT, Int.reduceLE, Int.reduceToNat, Int.reducePow, Int.reduceNeg, decide_true, decide_false, Int.lt_irrefl, q_wipe0, q_wipe1, q_rest0, q_rest1, q_rs1, q_noOwn0, q_noOwn1, q_owS1, q_owS2, q_owS3, q_lc0, q_lc1, q_lc2f, q_lc2t, q_lc3, q_lc4, q_mlc, q_mlc1, q_mlc2, q_iter, q_iter1, q_iter2, q_seqL, q_seqT, q_seqF, q_rng1, q_rng1', q_rng2, q_rng2', q_for, q_for1, q_lp0, q_lp, q_lp1, q_lp2n, q_lp2c, q_lp2b, q_lp2r, q_lp2x, y_ixL, y_ixT, y_ixLn, y_ixTn, y_lt, y_gt, y_add, y_isi_non, y_isi_bl, y_isi_int, y_isi_str, y_isi_tup, y_isi_tpf, y_isi_lst, y_isi_dk, y_isi_dt, b_NoneType_bool, b_NoneType_int, b_NoneType_str, b_NoneType_tuple, b_NoneType_list, b_NoneType_dict, b_bool_bool, b_bool_int, b_bool_str, b_bool_tuple, b_bool_list, b_bool_dict, b_int_bool, b_int_int, b_int_str, b_int_tuple, b_int_list, b_int_dict, b_str_bool, b_str_int, b_str_str, b_str_tuple, b_str_list, b_str_dict, b_tuple_bool, b_tuple_int, b_tuple_str, b_tuple_tuple, b_tuple_list, b_tuple_dict, b_list_bool, b_list_int, b_list_str, b_list_tuple, b_list_list, b_list_dict, b_dict_bool, b_dict_int, b_dict_str, b_dict_tuple, b_dict_list, b_dict_dict, y_fld, y_inPT, y_inPL, y_notinPT, y_inIL, y_notinIL, y_eqP, y_neP, y_nePT, y_eqPT, y_neIT, y_neIL0, y_nePL0, y_eqIL, y_sortIL, y_sortIT, y_sortIF, y_sortPL, y_truN, y_truB, y_truI, y_truT, y_truL, q_dc_0, q_dc0, q_dc1f, q_dc1t, q_dc2, q_dc3, q_dc4, q_dc5, q_mdc, q_mdc1, q_mdc2, y_inDt, y_notinDt, Option.bind_some, q_augS', q_ag0, q_ag1, q_ag2, q_ag2b, q_ag3, q_ag4, q_ag5, q_ag6, y_at, y_or, y_and, q_wl, q_wl1f, q_wl1t, q_wl2n, q_wl2c, q_wl2b, q_wl2r, q_wl2x, q_lr1, y_tupL, y_tupT, q_enum, q_en1, q_en2, q_en2f, q_sc_0, q_sc0, q_sc1f, q_sc1t, q_sc2, q_sc3, q_msc, q_msc1, q_msc2L, y_min2, y_max2, q_putA, q_pa0, q_pa1, q_pa2, q_pa3, q_pa4, q_pa5, a_mulI, a_putL, q_ls0, q_ls1, q_ls2f, q_ls2t, q_ls3, q_ls4, q_mlcS, q_lc (d := t), q_lc4 hacc, hb, y_neB, gNeW_self ht]
    exact ih
def lawBody : M Fl := (sSeq (sSet 7 (mBin gIxA (mName 4) (mName 6)))
        (sSeq (sSet 8 (mLst (mCons (mUn (gIsX LX (tbX "BadHome")) (mName 7)) (mCons (mUn (gIsX LX (tbX "NotBare")) (mName 7)) (mCons (mUn (gIsX LX (tbX "BadCrews")) (mName 7)) (mCons (mUn (gIsX LX (tbX "Busy")) (mName 7)) mNil))))))
        (sSeq (sSet 8 (mBin gAddA (mName 8) (mLst (mCons (mUn (gIsX LX (tbX "Closes")) (mName 7)) (mCons (mUn (gIsX LX (tbX "TooMany")) (mName 7)) (mCons (mUn (gIsX LX (tbX "NoLot")) (mName 7)) mNil))))))
        (sSeq (sSet 8 (mBin gAddA (mName 8) (mLst (mCons (mUn (gIsX LX (tbX "NoStanding")) (mName 7)) (mCons (mUn (gIsX LX (tbX "NoThing")) (mName 7)) (mCons (mUn (gIsX LX (tbX "NoThings")) (mName 7)) mNil))))))
        (sSeq (sSet 8 (mBin gAddA (mName 8) (mLst (mCons (mUn (gIsX LX (tbX "NoOrder")) (mName 7)) (mCons (mUn (gIsX LX (tbX "NoArrow")) (mName 7)) (mCons (mUn (gIsX LX (tbX "NoHands")) (mName 7)) mNil))))))
        (sSeq (sSet 8 (mBin gAddA (mName 8) (mLst (mCons (mUn (gIsX LX (tbX "NoNumber")) (mName 7)) (mCons (mUn (gIsX LX (tbX "NoTies")) (mName 7)) (mCons (mUn (gIsX LX (tbX "NotSpined")) (mName 7)) mNil))))))
        (sSeq (sSet 8 (mBin gAddA (mName 8) (mLst (mCons (mUn (gIsX LX (tbX "NoSeen")) (mName 7)) (mCons (mUn (gIsX LX (tbX "NoFit")) (mName 7)) (mCons (mUn (gIsX LX (tbX "NothingDone")) (mName 7)) mNil))))))
        (sSeq (sSet 8 (mBin gAddA (mName 8) (mLst (mCons (mUn (gIsX LX (tbX "NoCrew")) (mName 7)) (mCons (mUn (gIsX LX (tbX "NotNow")) (mName 7)) (mCons (mUn (gIsX LX (tbX "NoHand")) (mName 7)) mNil))))))
        (sSeq (sSet 8 (mBin gAddA (mName 8) (mLst (mCons (mUn (gIsX LX (tbX "Full")) (mName 7)) (mCons (mUn (gIsX LX (tbX "Clash")) (mName 7)) (mCons (mUn (gIsX LX (tbX "Tied")) (mName 7)) (mCons (mUn (gIsX LX (tbX "NoText")) (mName 7)) mNil)))))))
        (sIf (mOrB (mBl (mBin gNe (mMut "list" 8 (mCons (mK (.bl true)) mNil) gCnt) (mK (.int 1)))) (mOrB (mNotB (mTru (mBin gIxA (mName 8) (mName 6)))) (mOrB (mNotB (mTru (mUn (gIsX LX (tbX "TurnError")) (mName 7)))) (mNotB (mTru (mUn (gIsX LX (tbX "ValueError")) (mName 7))))))) (sRet (mK (.bl false))) sNx))))))))))
theorem den_law_eq : den_law = (sSeq (sSet 1 (mCall G__law_hand (nArgs 1 (mCons (mName 0) mNil))))
      (sSeq (sSet 2 (mLst (mCons (mK (.int 0)) (mCons (mUn gNeg (mK (.int 1))) (mCons (mK (.bl true)) (mCons (mK .non) (mCons (mK (.str "x")) (mCons (mK (.str "")) (mCons (mTup (mCons (mK (.int 1)) (mCons (mK (.int 2)) mNil))) (mCons (mLst (mCons (mK (.int 3)) mNil)) (mCons (mDict1 (mK (.str "a")) (mK (.int 4))) (mCons (mCallL 1 1 G__law_deep mNil) (mCons (mBin gPow (mK (.int 10)) (mK (.int 29))) mNil)))))))))))))
      (sSeq (sSet 3 (mBin gIxA (mName 2) (mCallL 1 2 G__law_draw (mCons (mK (.int 11)) mNil))))
      (sSeq (sSet 4 (mLst (mCons (mExc1 "BadHome" "part" (mCons (mName 3) mNil)) (mCons (mExc1 "NotBare" "way" (mCons (mName 3) mNil)) (mCons (mExc1 "BadCrews" "index" (mCons (mName 3) mNil)) (mCons (mExc1 "Busy" "who" (mCons (mName 3) mNil)) (mCons (mExc1 "Closes" "who" (mCons (mName 3) mNil)) (mCons (mExc1 "TooMany" "most" (mCons (mName 3) mNil)) mNil))))))))
      (sSeq (sSet 5 (mLst (mCons (mUn (gXf "BadHome" "part") (mBin gIxA (mName 4) (mK (.int 0)))) (mCons (mUn (gXf "NotBare" "way") (mBin gIxA (mName 4) (mK (.int 1)))) (mCons (mUn (gXf "BadCrews" "index") (mBin gIxA (mName 4) (mK (.int 2)))) (mCons (mUn (gXf "Busy" "who") (mBin gIxA (mName 4) (mK (.int 3)))) (mCons (mUn (gXf "Closes" "who") (mBin gIxA (mName 4) (mK (.int 4)))) (mCons (mUn (gXf "TooMany" "most") (mBin gIxA (mName 4) (mK (.int 5)))) mNil))))))))
      (sSeq (sIf (mTru (mRd (gAny false) (pCons (mLc [7] (mIter (mName 5)) (bName 7) (M.ret true) (mOrV (mBin gNe (mUn (gIsi "bool") (mName 7)) (mUn (gIsi "bool") (mName 3))) (mBin gNeW (mName 7) (mName 3)))) pNil))) (sRet (mK (.bl false))) sNx)
      (sSeq (sSet 4 (mBin gAddA (mName 4) (mLst (mCons (mExc0 "NoLot") (mCons (mExc0 "NoStanding") (mCons (mExc0 "NoThing") (mCons (mExc0 "NoThings") (mCons (mExc0 "NoOrder") (mCons (mExc0 "NoArrow") (mCons (mExc0 "NoHands") (mCons (mExc0 "NoNumber") (mCons (mExc0 "NoTies") mNil))))))))))))
      (sSeq (sSet 4 (mBin gAddA (mName 4) (mLst (mCons (mExc0 "NotSpined") (mCons (mExc0 "NoSeen") (mCons (mExc0 "NoFit") (mCons (mExc0 "NothingDone") (mCons (mExc0 "NoCrew") (mCons (mExc0 "NotNow") (mCons (mExc0 "NoHand") (mCons (mExc0 "Full") (mCons (mExc0 "Clash") mNil))))))))))))
      (sSeq (sSet 4 (mBin gAddA (mName 4) (mLst (mCons (mExc0 "Tied") (mCons (mExc0 "NoText") mNil)))))
      (sSeq (sFor (mRng1 (mCons (mK (.int 26)) mNil)) (bName 6) lawBody)
      (sRet (mK (.bl true))))))))))))) := rfl
theorem unBl_map : ∀ bs : List Bool, unBl (bs.map .bl) = some bs
  | [] => rfl
  | b :: bs => by simp [unBl, unBl_map bs]
theorem gCnt_eq (xs : List D) (k : Bool) : gCnt (.lst xs) [.bl k] = (unBl xs).map fun bs => (.lst xs, .int (bs.count k : Nat)) := rfl
theorem cnt_one : ∀ c ∈ LX, (LX.map fun T => tbX T c).count true = 1 := by decide +kernel
theorem flags_eq (c : Str) : [D.bl (tbX "BadHome" c), D.bl (tbX "NotBare" c), D.bl (tbX "BadCrews" c), D.bl (tbX "Busy" c), D.bl (tbX "Closes" c), D.bl (tbX "TooMany" c), D.bl (tbX "NoLot" c), D.bl (tbX "NoStanding" c), D.bl (tbX "NoThing" c), D.bl (tbX "NoThings" c), D.bl (tbX "NoOrder" c), D.bl (tbX "NoArrow" c), D.bl (tbX "NoHands" c), D.bl (tbX "NoNumber" c), D.bl (tbX "NoTies" c), D.bl (tbX "NotSpined" c), D.bl (tbX "NoSeen" c), D.bl (tbX "NoFit" c), D.bl (tbX "NothingDone" c), D.bl (tbX "NoCrew" c), D.bl (tbX "NotNow" c), D.bl (tbX "NoHand" c), D.bl (tbX "Full" c), D.bl (tbX "Clash" c), D.bl (tbX "Tied" c), D.bl (tbX "NoText" c)] = (LX.map fun T => tbX T c).map D.bl := rfl
theorem y_cnt {c : Str} (h : c ∈ LX) : gCnt (.lst [D.bl (tbX "BadHome" c), D.bl (tbX "NotBare" c), D.bl (tbX "BadCrews" c), D.bl (tbX "Busy" c), D.bl (tbX "Closes" c), D.bl (tbX "TooMany" c), D.bl (tbX "NoLot" c), D.bl (tbX "NoStanding" c), D.bl (tbX "NoThing" c), D.bl (tbX "NoThings" c), D.bl (tbX "NoOrder" c), D.bl (tbX "NoArrow" c), D.bl (tbX "NoHands" c), D.bl (tbX "NoNumber" c), D.bl (tbX "NoTies" c), D.bl (tbX "NotSpined" c), D.bl (tbX "NoSeen" c), D.bl (tbX "NoFit" c), D.bl (tbX "NothingDone" c), D.bl (tbX "NoCrew" c), D.bl (tbX "NotNow" c), D.bl (tbX "NoHand" c), D.bl (tbX "Full" c), D.bl (tbX "Clash" c), D.bl (tbX "Tied" c), D.bl (tbX "NoText" c)]) [.bl true] = some (.lst [D.bl (tbX "BadHome" c), D.bl (tbX "NotBare" c), D.bl (tbX "BadCrews" c), D.bl (tbX "Busy" c), D.bl (tbX "Closes" c), D.bl (tbX "TooMany" c), D.bl (tbX "NoLot" c), D.bl (tbX "NoStanding" c), D.bl (tbX "NoThing" c), D.bl (tbX "NoThings" c), D.bl (tbX "NoOrder" c), D.bl (tbX "NoArrow" c), D.bl (tbX "NoHands" c), D.bl (tbX "NoNumber" c), D.bl (tbX "NoTies" c), D.bl (tbX "NotSpined" c), D.bl (tbX "NoSeen" c), D.bl (tbX "NoFit" c), D.bl (tbX "NothingDone" c), D.bl (tbX "NoCrew" c), D.bl (tbX "NotNow" c), D.bl (tbX "NoHand" c), D.bl (tbX "Full" c), D.bl (tbX "Clash" c), D.bl (tbX "Tied" c), D.bl (tbX "NoText" c)], .int 1) := by
  rw [flags_eq, gCnt_eq, unBl_map]
  show some (D.lst ((LX.map fun T => tbX T c).map D.bl), D.int ((LX.map fun T => tbX T c).count true : Nat)) = _
  rw [cnt_one c h]
  rfl
theorem y_flag {c : Str} {k : Nat} (h : LX[k]? = some c) : gIxA (.lst [D.bl (tbX "BadHome" c), D.bl (tbX "NotBare" c), D.bl (tbX "BadCrews" c), D.bl (tbX "Busy" c), D.bl (tbX "Closes" c), D.bl (tbX "TooMany" c), D.bl (tbX "NoLot" c), D.bl (tbX "NoStanding" c), D.bl (tbX "NoThing" c), D.bl (tbX "NoThings" c), D.bl (tbX "NoOrder" c), D.bl (tbX "NoArrow" c), D.bl (tbX "NoHands" c), D.bl (tbX "NoNumber" c), D.bl (tbX "NoTies" c), D.bl (tbX "NotSpined" c), D.bl (tbX "NoSeen" c), D.bl (tbX "NoFit" c), D.bl (tbX "NothingDone" c), D.bl (tbX "NoCrew" c), D.bl (tbX "NotNow" c), D.bl (tbX "NoHand" c), D.bl (tbX "Full" c), D.bl (tbX "Clash" c), D.bl (tbX "Tied" c), D.bl (tbX "NoText" c)]) (.int (k : Int)) = some (.fz (.bl true)) := by
  rw [flags_eq, y_ixL]
  rw [List.getElem?_map, List.getElem?_map, h]
  show some (R.fz (D.bl (tbX c c))) = _
  simp [tbX]
theorem run_turn (made : List D) (k : Nat) (c : Str) (d : D) (hd : gIxA (.lst made) (.int (k : Int)) = some (.fz d)) (hc : c ∈ LX) (hk : LX[k]? = some c) (hx : ∀ tb, gIsX LX tb d = some (.fz (.bl (tb c)))) (s0 s1 s2 s3 s5 s7 s8 : Sl) :
    lawBody [s0, s1, s2, s3, .ow (.lst made), s5, .fr (.int (k : Int)), s7, s8] = .ok .nx [s0, s1, s2, s3, .ow (.lst made), s5, .fr (.int (k : Int)), .fr d, .ow (.lst [D.bl (tbX "BadHome" c), D.bl (tbX "NotBare" c), D.bl (tbX "BadCrews" c), D.bl (tbX "Busy" c), D.bl (tbX "Closes" c), D.bl (tbX "TooMany" c), D.bl (tbX "NoLot" c), D.bl (tbX "NoStanding" c), D.bl (tbX "NoThing" c), D.bl (tbX "NoThings" c), D.bl (tbX "NoOrder" c), D.bl (tbX "NoArrow" c), D.bl (tbX "NoHands" c), D.bl (tbX "NoNumber" c), D.bl (tbX "NoTies" c), D.bl (tbX "NotSpined" c), D.bl (tbX "NoSeen" c), D.bl (tbX "NoFit" c), D.bl (tbX "NothingDone" c), D.bl (tbX "NoCrew" c), D.bl (tbX "NotNow" c), D.bl (tbX "NoHand" c), D.bl (tbX "Full" c), D.bl (tbX "Clash" c), D.bl (tbX "Tied" c), D.bl (tbX "NoText" c)])] := by
  have t1 : tbX "TurnError" c = true := by simp [tbX]
  have t2 : tbX "ValueError" c = true := by simp [tbX]
  unfold lawBody
  simp (config := { decide := true }) only [q_run, q_enterT, q_enterF, List.map_cons, List.map_nil, List.length_cons, List.length_nil, List.replicate, List.cons_append, List.nil_append, q_seq, q_seq1, q_seq2, q_seq3, q_seq4, q_seq5, q_nx, q_drop, q_drop1, q_drop2, q_sret, q_ret1, q_ret2, q_sif, q_set, q_set1, q_set2, q_set3, q_set4, q_set5, q_put, q_put1, q_put2, q_put2b, q_put3, q_put4, q_put5, q_lf, q_lf1, q_asg, q_asg1, q_asg2, q_bname, q_btup, q_bcons, q_bc1, q_bnil, q_aug, q_aug1, q_aug2, q_mut, q_mut1, q_mut2, q_mut3, q_mut4, q_isL, q_app, q_ext, q_pop0, q_call, q_call1, q_call2, q_call3, q_call4, q_na, q_na1, q_cl, q_cl1, q_cl2, q_cl3, q_cl4, q_cl5, q_cl6, q_runF1, q_runF2, q_runF3, q_runF4, q_runF5, q_run3a, q_run3b, q_runT1, q_runT2, q_runT3, q_runT4, q_runT5, q_rtN, q_rtZ, q_rtX, q_rtL, q_ret, q_mK, q_name, q_nm1, q_nm2, q_pk1, q_pk2, q_pk3, q_pkS1, q_pkS2, q_take1, q_take2, q_take3, q_tkS1, q_tkS2, q_out, q_un, q_un1, q_un2, q_bin, q_bin1, q_bin2, q_bin3, q_bl, q_bl1, q_tru, q_tr1, q_tr2, q_tr3, q_and, q_and1, q_and2, q_or, q_or1, q_or2, q_not, q_not1, q_if, q_ite1, q_ite2, q_andV, q_orV, q_notV, q_notV1, q_chain, q_chain1, q_chain2, q_chain3, q_chain4, q_chain5, q_nil, q_cons, q_cons1, q_cons2, q_cons3, q_tup, q_tup1, q_lst, q_lst1, q_pnil, q_pcons, q_pc1, q_pc2, q_rd, q_rd1, q_rd2, q_pks0, q_pks1, q_pk2', q_part, q_part1, q_part2, q_sl, q_sl1, q_sl2, q_sl3, q_sl4, w_ix, w_ixT, w_ixL, w_ixTL, w_put, w_put_0, w_put_1, w_put_2, w_put_3, w_put_4, w_put_5, w_put_6, w_put_7, w_put_8, w_eq, w_ne, w_lt, w_le, w_gt, w_ge, w_add, w_sub, w_mulR, w_mulL, w_mulM, w_mod, w_div, w_len, w_lenT, w_int, w_intb, w_pow, w_neg, List.getElem?_cons_zero, List.getElem?_cons_succ, List.set_cons_zero, List.set_cons_succ, Option.map_some, beq_self_eq_true, Bool.not_true, Bool.not_false, Nat.reduceAdd, Nat.reduceSub, Nat.reduceLT, Nat.reduceLeDiff, Int.reduceLT, Int.reduceLE, Int.reduceToNat, Int.reducePow, Int.reduceNeg, decide_true, decide_false, Int.lt_irrefl, q_wipe0, q_wipe1, q_rest0, q_rest1, q_rs1, q_noOwn0, q_noOwn1, q_owS1, q_owS2, q_owS3, q_lc0, q_lc, q_lc1, q_lc2f, q_lc2t, q_lc3, q_lc4, q_mlc, q_mlc1, q_mlc2, q_iter, q_iter1, q_iter2, q_seqL, q_seqT, q_seqF, q_rng1, q_rng1', q_rng2, q_rng2', q_for, q_for1, q_lp0, q_lp, q_lp1, q_lp2n, q_lp2c, q_lp2b, q_lp2r, q_lp2x, y_ixL, y_ixT, y_ixLn, y_ixTn, y_lt, y_gt, y_add, y_isi_non, y_isi_bl, y_isi_int, y_isi_str, y_isi_tup, y_isi_tpf, y_isi_lst, y_isi_dk, y_isi_dt, b_NoneType_bool, b_NoneType_int, b_NoneType_str, b_NoneType_tuple, b_NoneType_list, b_NoneType_dict, b_bool_bool, b_bool_int, b_bool_str, b_bool_tuple, b_bool_list, b_bool_dict, b_int_bool, b_int_int, b_int_str, b_int_tuple, b_int_list, b_int_dict, b_str_bool, b_str_int, b_str_str, b_str_tuple, b_str_list, b_str_dict, b_tuple_bool, b_tuple_int, b_tuple_str, b_tuple_tuple, b_tuple_list, b_tuple_dict, b_list_bool, b_list_int, b_list_str, b_list_tuple, b_list_list, b_list_dict, b_dict_bool, b_dict_int, b_dict_str, b_dict_tuple, b_dict_list, b_dict_dict, y_fld, y_inPT, y_inPL, y_notinPT, y_inIL, y_notinIL, y_eqP, y_neP, y_nePT, y_eqPT, y_neIT, y_neIL0, y_nePL0, y_eqIL, y_sortIL, y_sortIT, y_sortIF, y_sortPL, y_truN, y_truB, y_truI, y_truT, y_truL, q_dc_0, q_dc0, q_dc1f, q_dc1t, q_dc2, q_dc3, q_dc4, q_dc5, q_mdc, q_mdc1, q_mdc2, y_inDt, y_notinDt, Option.bind_some, q_augS', q_ag0, q_ag1, q_ag2, q_ag2b, q_ag3, q_ag4, q_ag5, q_ag6, y_at, y_or, y_and, q_wl, q_wl1f, q_wl1t, q_wl2n, q_wl2c, q_wl2b, q_wl2r, q_wl2x, q_lr1, y_tupL, y_tupT, q_enum, q_en1, q_en2, q_en2f, q_sc_0, q_sc0, q_sc1f, q_sc1t, q_sc2, q_sc3, q_msc, q_msc1, q_msc2L, y_min2, y_max2, q_putA, q_pa0, q_pa1, q_pa2, q_pa3, q_pa4, q_pa5, a_mulI, a_putL, q_ls0, q_ls1, q_ls2f, q_ls2t, q_ls3, q_ls4, q_mlcS, hd, hx, y_addL, q_mut1 (T := "list") (c := D.lst _) q_isL, y_cnt hc, y_flag hk, t1, t2]
end
end K00
-- Z3
set_option maxHeartbeats 4000000
namespace K00
open PySem PySem.Spec PyProof.Rows L2 DL
noncomputable section
def toX (t : D) (c : Str) : D := if c = "BadHome" then .ex1 c "part" t else if c = "NotBare" then .ex1 c "way" t else if c = "BadCrews" then .ex1 c "index" t else if c = "Busy" then .ex1 c "who" t else if c = "Closes" then .ex1 c "who" t else if c = "TooMany" then .ex1 c "most" t else .ex0 c
theorem toX_is (t : D) {c : Str} (hc : c ∈ LX) (tb : Str → Bool) : gIsX LX tb (toX t c) = some (.fz (.bl (tb c))) := by
  unfold toX
  repeat' split
  all_goals simp only [gIsX, if_pos hc]
def madeD (t : D) : List D := [.ex1 "BadHome" "part" t, .ex1 "NotBare" "way" t, .ex1 "BadCrews" "index" t, .ex1 "Busy" "who" t, .ex1 "Closes" "who" t, .ex1 "TooMany" "most" t, .ex0 "NoLot", .ex0 "NoStanding", .ex0 "NoThing", .ex0 "NoThings", .ex0 "NoOrder", .ex0 "NoArrow", .ex0 "NoHands", .ex0 "NoNumber", .ex0 "NoTies", .ex0 "NotSpined", .ex0 "NoSeen", .ex0 "NoFit", .ex0 "NothingDone", .ex0 "NoCrew", .ex0 "NotNow", .ex0 "NoHand", .ex0 "Full", .ex0 "Clash", .ex0 "Tied", .ex0 "NoText"]
theorem made_eq (t : D) : madeD t = LX.map (toX t) := by rfl
theorem run_loop (t : D) (s0 s1 s2 s3 s5 : Sl) : ∀ (ks : List Nat) (s6 s7 s8 : Sl), (∀ k ∈ ks, k < 26) → ∃ t6 t7 t8, loop (bName 6) lawBody (ks.map fun (k : Nat) => D.int (k : Int)) [s0, s1, s2, s3, .ow (.lst (madeD t)), s5, s6, s7, s8]
    = .ok .nx [s0, s1, s2, s3, .ow (.lst (madeD t)), s5, t6, t7, t8]
  | [], s6, s7, s8, _ => ⟨s6, s7, s8, rfl⟩
  | k :: ks, s6, s7, s8, h => by
    have hk : k < LX.length := h k List.mem_cons_self
    have hc : LX[k] ∈ LX := List.getElem_mem hk
    have hkk : LX[k]? = some LX[k] := List.getElem?_eq_getElem hk
    have hd : gIxA (.lst (madeD t)) (.int (k : Int)) = some (.fz (toX t LX[k])) := by
      rw [y_ixL, made_eq, List.getElem?_map, hkk]
      rfl
    obtain ⟨fl, e1⟩ : ∃ fl, lawBody [s0, s1, s2, s3, .ow (.lst (madeD t)), s5, .fr (.int (k : Int)), s7, s8] = .ok .nx [s0, s1, s2, s3, .ow (.lst (madeD t)), s5, .fr (.int (k : Int)), .fr (toX t LX[k]), fl] :=
      ⟨_, run_turn (madeD t) k LX[k] (toX t LX[k]) hd hc hkk (toX_is t hc) s0 s1 s2 s3 s5 s7 s8⟩
    obtain ⟨t6, t7, t8, e2⟩ := run_loop t s0 s1 s2 s3 s5 ks (.fr (.int (k : Int))) (.fr (toX t LX[k])) fl fun j hj => h j (List.mem_cons_of_mem _ hj)
    refine ⟨t6, t7, t8, ?_⟩
    rw [List.map_cons, ← e2]
    simp (config := { decide := true }) only [q_run, q_enterT, q_enterF, List.map_cons, List.map_nil, List.length_cons, List.length_nil, List.replicate, List.cons_append, List.nil_append, q_seq, q_seq1, q_seq2, q_seq3, q_seq4, q_seq5, q_nx, q_drop, q_drop1, q_drop2, q_sret, q_ret1, q_ret2, q_sif, q_set, q_set1, q_set2, q_set3, q_set4, q_set5, q_put, q_put1, q_put2, q_put2b, q_put3, q_put4, q_put5, q_lf, q_lf1, q_asg, q_asg1, q_asg2, q_bname, q_btup, q_bcons, q_bc1, q_bnil, q_aug, q_aug1, q_aug2, q_mut, q_mut1, q_mut2, q_mut3, q_mut4, q_isL, q_app, q_ext, q_pop0, q_call, q_call1, q_call2, q_call3, q_call4, q_na, q_na1, q_cl, q_cl1, q_cl2, q_cl3, q_cl4, q_cl5, q_cl6, q_runF1, q_runF2, q_runF3, q_runF4, q_runF5, q_run3a, q_run3b, q_runT1, q_runT2, q_runT3, q_runT4, q_runT5, q_rtN, q_rtZ, q_rtX, q_rtL, q_ret, q_mK, q_name, q_nm1, q_nm2, q_pk1, q_pk2, q_pk3, q_pkS1, q_pkS2, q_take1, q_take2, q_take3, q_tkS1, q_tkS2, q_out, q_un, q_un1, q_un2, q_bin, q_bin1, q_bin2, q_bin3, q_bl, q_bl1, q_tru, q_tr1, q_tr2, q_tr3, q_and, q_and1, q_and2, q_or, q_or1, q_or2, q_not, q_not1, q_if, q_ite1, q_ite2, q_andV, q_orV, q_notV, q_notV1, q_chain, q_chain1, q_chain2, q_chain3, q_chain4, q_chain5, q_nil, q_cons, q_cons1, q_cons2, q_cons3, q_tup, q_tup1, q_lst, q_lst1, q_pnil, q_pcons, q_pc1, q_pc2, q_rd, q_rd1, q_rd2, q_pks0, q_pks1, q_pk2', q_part, q_part1, q_part2, q_sl, q_sl1, q_sl2, q_sl3, q_sl4, w_ix, w_ixT, w_ixL, w_ixTL, w_put, w_put_0, w_put_1, w_put_2, w_put_3, w_put_4, w_put_5, w_put_6, w_put_7, w_put_8, w_eq, w_ne, w_lt, w_le, w_gt, w_ge, w_add, w_sub, w_mulR, w_mulL, w_mulM, w_mod, w_div, w_len, w_lenT, w_int, w_intb, w_pow, w_neg, List.getElem?_cons_zero, List.getElem?_cons_succ, List.set_cons_zero, List.set_cons_succ, Option.map_some, beq_self_eq_true, Bool.not_true, Bool.not_false, Nat.reduceAdd, Nat.reduceSub, Nat.reduceLT, Nat.reduceLeDiff, Int.reduceLT, Int.reduceLE, Int.reduceToNat, Int.reducePow, Int.reduceNeg, decide_true, decide_false, Int.lt_irrefl, q_wipe0, q_wipe1, q_rest0, q_rest1, q_rs1, q_noOwn0, q_noOwn1, q_owS1, q_owS2, q_owS3, q_lc0, q_lc, q_lc1, q_lc2f, q_lc2t, q_lc3, q_lc4, q_mlc, q_mlc1, q_mlc2, q_iter, q_iter1, q_iter2, q_seqL, q_seqT, q_seqF, q_rng1, q_rng1', q_rng2, q_rng2', q_for, q_for1, q_lp0, q_lp1, q_lp2n, q_lp2c, q_lp2b, q_lp2r, q_lp2x, y_ixL, y_ixT, y_ixLn, y_ixTn, y_lt, y_gt, y_add, y_isi_non, y_isi_bl, y_isi_int, y_isi_str, y_isi_tup, y_isi_tpf, y_isi_lst, y_isi_dk, y_isi_dt, b_NoneType_bool, b_NoneType_int, b_NoneType_str, b_NoneType_tuple, b_NoneType_list, b_NoneType_dict, b_bool_bool, b_bool_int, b_bool_str, b_bool_tuple, b_bool_list, b_bool_dict, b_int_bool, b_int_int, b_int_str, b_int_tuple, b_int_list, b_int_dict, b_str_bool, b_str_int, b_str_str, b_str_tuple, b_str_list, b_str_dict, b_tuple_bool, b_tuple_int, b_tuple_str, b_tuple_tuple, b_tuple_list, b_tuple_dict, b_list_bool, b_list_int, b_list_str, b_list_tuple, b_list_list, b_list_dict, b_dict_bool, b_dict_int, b_dict_str, b_dict_tuple, b_dict_list, b_dict_dict, y_fld, y_inPT, y_inPL, y_notinPT, y_inIL, y_notinIL, y_eqP, y_neP, y_nePT, y_eqPT, y_neIT, y_neIL0, y_nePL0, y_eqIL, y_sortIL, y_sortIT, y_sortIF, y_sortPL, y_truN, y_truB, y_truI, y_truT, y_truL, q_dc_0, q_dc0, q_dc1f, q_dc1t, q_dc2, q_dc3, q_dc4, q_dc5, q_mdc, q_mdc1, q_mdc2, y_inDt, y_notinDt, Option.bind_some, q_augS', q_ag0, q_ag1, q_ag2, q_ag2b, q_ag3, q_ag4, q_ag5, q_ag6, y_at, y_or, y_and, q_wl, q_wl1f, q_wl1t, q_wl2n, q_wl2c, q_wl2b, q_wl2r, q_wl2x, q_lr1, y_tupL, y_tupT, q_enum, q_en1, q_en2, q_en2f, q_sc_0, q_sc0, q_sc1f, q_sc1t, q_sc2, q_sc3, q_msc, q_msc1, q_msc2L, y_min2, y_max2, q_putA, q_pa0, q_pa1, q_pa2, q_pa3, q_pa4, q_pa5, a_mulI, a_putL, q_ls0, q_ls1, q_ls2f, q_ls2t, q_ls3, q_ls4, q_mlcS, q_lp (d := D.int _), e1]
theorem q_dict1S {i : Str} {fv : M R} {E : En} : mDict1 (mK (.str i)) fv E = di1 (.inr i) (fv E) := by
  unfold mDict1 di1 M.bnd mK M.ret
  dsimp only
  generalize fv E = z
  cases z with
  | ok r E1 =>
    dsimp only
    unfold di2
    generalize take r E1 = z2
    cases z2 <;> rfl
  | _ => rfl
def things (d : D) : List D := [.int 0, .int (-1), .bl true, .non, .str "x", .str "", .tup [.int 1, .int 2], .lst [.int 3], .dk [(.inr "a", .int 4)], d, .int 100000000000000000000000000000]
theorem things_at {d : D} (hd : plD 60 d = true) {i : Int} (h0 : 0 ≤ i) (h1 : i < 11) : ∃ t, gIxA (.lst (things d)) (.int i) = some (.fz t) ∧ plD 60 t = true := by
  obtain ⟨k, rfl⟩ := Int.eq_ofNat_of_zero_le h0
  have hk : k < (things d).length := by show k < 11; omega
  refine ⟨(things d)[k], ?_, ?_⟩
  · rw [y_ixL, List.getElem?_eq_getElem hk]
    rfl
  · have all : (things d).all (plD 60) = true := by
      show ([.int 0, .int (-1), .bl true, .non, .str "x", .str "", .tup [.int 1, .int 2], .lst [.int 3], .dk [(.inr "a", .int 4)], d, .int 100000000000000000000000000000] : List D).all (plD 60) = true
      simp [plD, hd]
    exact List.all_eq_true.mp all _ (List.getElem_mem hk)
theorem rng26 : rngD 0 26 = (List.range 26).map fun (k : Nat) => D.int (k : Int) := by rfl
theorem any6 : gAny false [.lst [.bl false, .bl false, .bl false, .bl false, .bl false, .bl false]] = some (.fz (.bl false)) := by rfl
theorem run_law (ns : List Int) (hl : ns.length ≤ 63) : G_law [.scr ns] = .ret false (.bl true) .non := by
  obtain ⟨h, hh⟩ := run_hand ns hl
  obtain ⟨h2, d, hdeep, hd⟩ := run_deep h
  obtain ⟨d0, d1⟩ := drawF_in h2 11 (by omega)
  have hdr := run_draw h2 11 (by omega) (by omega)
  obtain ⟨t, hix, ht⟩ := things_at hd d0 d1
  obtain ⟨b, hb⟩ := pl_isi ht
  have r1 : -4611686018427387904 ≤ (26 : Int) := by omega
  have r2 : (26 : Int) < 4611686018427387904 := by omega
  unfold things at hix
  have lc := lc_go t b hb ht (.fr (.scr ns)) (.ow (hD (drawF h2 11).2)) (.ow (.lst (things d))) (.ow (.lst [.ex1 "BadHome" "part" t, .ex1 "NotBare" "way" t, .ex1 "BadCrews" "index" t, .ex1 "Busy" "who" t, .ex1 "Closes" "who" t, .ex1 "TooMany" "most" t])) (.fr (.lst [t, t, t, t, t, t])) .un .un 6 [] (by simp)
  simp only [List.replicate, List.nil_append] at lc
  obtain ⟨t6, t7, t8, el⟩ := run_loop t (.fr (.scr ns)) (.ow (hD (drawF h2 11).2)) (.ow (.lst (things d))) (.fr t) (.fr (.lst [t, t, t, t, t, t])) (List.range 26) .un .un .un fun k hk => List.mem_range.mp hk
  rw [← rng26] at el
  unfold madeD at el
  unfold things at lc el
  unfold G_law
  rw [den_law_eq]
  simp (config := { decide := true }) only [q_run, q_enterT, q_enterF, List.map_cons, List.map_nil, List.length_cons, List.length_nil, List.replicate, List.cons_append, List.nil_append, q_seq, q_seq1, q_seq2, q_seq3, q_seq4, q_seq5, q_nx, q_drop, q_drop1, q_drop2, q_sret, q_ret1, q_ret2, q_sif, q_set, q_set1, q_set2, q_set3, q_set4, q_set5, q_put, q_put1, q_put2, q_put2b, q_put3, q_put4, q_put5, q_lf, q_lf1, q_asg, q_asg1, q_asg2, q_bname, q_btup, q_bcons, q_bc1, q_bnil, q_aug, q_aug1, q_aug2, q_mut, q_mut1, q_mut2, q_mut3, q_mut4, q_isL, q_app, q_ext, q_pop0, q_call, q_call1, q_call2, q_call3, q_call4, q_na, q_na1, q_cl, q_cl1, q_cl2, q_cl3, q_cl4, q_cl5, q_cl6, q_runF1, q_runF2, q_runF3, q_runF4, q_runF5, q_run3a, q_run3b, q_runT1, q_runT2, q_runT3, q_runT4, q_runT5, q_rtN, q_rtZ, q_rtX, q_rtL, q_ret, q_mK, q_name, q_nm1, q_nm2, q_pk1, q_pk2, q_pk3, q_pkS1, q_pkS2, q_take1, q_take2, q_take3, q_tkS1, q_tkS2, q_out, q_un, q_un1, q_un2, q_bin, q_bin1, q_bin2, q_bin3, q_bl, q_bl1, q_tru, q_tr1, q_tr2, q_tr3, q_and, q_and1, q_and2, q_or, q_or1, q_or2, q_not, q_not1, q_if, q_ite1, q_ite2, q_andV, q_orV, q_notV, q_notV1, q_chain, q_chain1, q_chain2, q_chain3, q_chain4, q_chain5, q_nil, q_cons, q_cons1, q_cons2, q_cons3, q_tup, q_tup1, q_lst, q_lst1, q_pnil, q_pcons, q_pc1, q_pc2, q_rd, q_rd1, q_rd2, q_pks0, q_pks1, q_pk2', q_part, q_part1, q_part2, q_sl, q_sl1, q_sl2, q_sl3, q_sl4, w_ix, w_ixT, w_ixL, w_ixTL, w_put, w_put_0, w_put_1, w_put_2, w_put_3, w_put_4, w_put_5, w_put_6, w_put_7, w_put_8, w_eq, w_ne, w_lt, w_le, w_gt, w_ge, w_add, w_sub, w_mulR, w_mulL, w_mulM, w_mod, w_div, w_len, w_lenT, w_int, w_intb, w_pow, w_neg, List.getElem?_cons_zero, List.getElem?_cons_succ, List.set_cons_zero, List.set_cons_succ, Option.map_some, beq_self_eq_true, Bool.not_true, Bool.not_false, Nat.reduceAdd, Nat.reduceSub, Nat.reduceLT, Nat.reduceLeDiff, Int.reduceLT, Int.reduceLE, Int.reduceToNat, Int.reducePow, Int.reduceNeg, decide_true, decide_false, Int.lt_irrefl, q_wipe0, q_wipe1, q_rest0, q_rest1, q_rs1, q_noOwn0, q_noOwn1, q_owS1, q_owS2, q_owS3, q_lc0, q_lc1, q_lc2f, q_lc2t, q_lc3, q_lc4, q_mlc, q_mlc1, q_mlc2, q_iter, q_iter1, q_iter2, q_seqL, q_seqT, q_seqF, q_rng1, q_rng1', q_rng2, q_rng2', q_for, q_for1, q_lp0, q_lp1, q_lp2n, q_lp2c, q_lp2b, q_lp2r, q_lp2x, y_ixL, y_ixT, y_ixLn, y_ixTn, y_lt, y_gt, y_add, y_isi_non, y_isi_bl, y_isi_int, y_isi_str, y_isi_tup, y_isi_tpf, y_isi_lst, y_isi_dk, y_isi_dt, b_NoneType_bool, b_NoneType_int, b_NoneType_str, b_NoneType_tuple, b_NoneType_list, b_NoneType_dict, b_bool_bool, b_bool_int, b_bool_str, b_bool_tuple, b_bool_list, b_bool_dict, b_int_bool, b_int_int, b_int_str, b_int_tuple, b_int_list, b_int_dict, b_str_bool, b_str_int, b_str_str, b_str_tuple, b_str_list, b_str_dict, b_tuple_bool, b_tuple_int, b_tuple_str, b_tuple_tuple, b_tuple_list, b_tuple_dict, b_list_bool, b_list_int, b_list_str, b_list_tuple, b_list_list, b_list_dict, b_dict_bool, b_dict_int, b_dict_str, b_dict_tuple, b_dict_list, b_dict_dict, y_fld, y_inPT, y_inPL, y_notinPT, y_inIL, y_notinIL, y_eqP, y_neP, y_nePT, y_eqPT, y_neIT, y_neIL0, y_nePL0, y_eqIL, y_sortIL, y_sortIT, y_sortIF, y_sortPL, y_truN, y_truB, y_truI, y_truT, y_truL, q_dc_0, q_dc0, q_dc1f, q_dc1t, q_dc2, q_dc3, q_dc4, q_dc5, q_mdc, q_mdc1, q_mdc2, y_inDt, y_notinDt, Option.bind_some, q_augS', q_ag0, q_ag1, q_ag2, q_ag2b, q_ag3, q_ag4, q_ag5, q_ag6, y_at, y_or, y_and, q_wl, q_wl1f, q_wl1t, q_wl2n, q_wl2c, q_wl2b, q_wl2r, q_wl2x, q_lr1, y_tupL, y_tupT, q_enum, q_en1, q_en2, q_en2f, q_sc_0, q_sc0, q_sc1f, q_sc1t, q_sc2, q_sc3, q_msc, q_msc1, q_msc2L, y_min2, y_max2, q_putA, q_pa0, q_pa1, q_pa2, q_pa3, q_pa4, q_pa5, a_mulI, a_putL, q_ls0, q_ls1, q_ls2f, q_ls2t, q_ls3, q_ls4, q_mlcS, hh, hdeep, hdr, hix, q_dict1S, q_di1, q_di2, q_exc1, q_xc1, q_exc0, y_xf, y_addL, lc, any6, q_rng1' r1 r2, el]
end
end K00
-- SZ
namespace DL
open PySem PySem.Spec PyProof.Rows L2
section
variable {K : PySem.W.Frag} {mg : Str → Option Value} {C : Addr}
def excB (K : PySem.W.Frag) (C : Addr) : Bool :=
  decide (PySem.W.findIn K (.ref C) "__getattribute__" = some (some (.builtin "BaseException.__getattribute__"))) && (decide (PySem.W.findIn K (.ref C) "__getattr__" = some none) &&
  (decide (PySem.W.subIn K (.ref C) (.type "BaseException") = some true) && (PySem.W.hasDictIn K C && (decide (PySem.W.findIn K (.ref C) "__class__" = some (some (.builtin "object.__class__"))) &&
  (decide (PySem.W.specialIn K (.builtin "object.__class__") "__get__" = some (some (.builtin "getset_descriptor.__get__"))) && (decide (PySem.W.takesIn K (.builtin "object.__class__") = some true) && decide (PySem.W.mroIn K C (.type "object") = some true)))))))
theorem excB_ok (h : excB K C = true) : ExcC K C := by
  unfold excB at h
  simp only [Bool.and_eq_true, decide_eq_true_eq] at h
  obtain ⟨h1, h2, h3, h4, h5, h6, h7, h8⟩ := h
  exact ⟨h1, h2, h3, h4, h5, h6, h7, h8⟩
theorem excB_xf (h : excB K C = true) : XfC K C := ⟨(excB_ok h).hg, (excB_ok h).hk, (excB_ok h).hs, (excB_ok h).hd⟩
def oexB (K : PySem.W.Frag) (C : Addr) : Bool :=
  (match K.lookup C with
    | some ⟨.type "type", _, .cls cd, sl⟩ => (match cd.mro, sl.toList with
      | .ref C' :: bm, [_, _, _, _, some (.builtin n), _] => C' == C && (n == "ValueError.__new__" && (!cd.hasDel && (cd.hasDict && PySem.HandSPX.refsVE bm)))
      | _, _ => false)
    | _ => false) &&
  (decide (PySem.W.findIn K (.ref C) "__setattr__" = some (some (.builtin "object.__setattr__"))) && (decide (PySem.W.subIn K (.ref C) (.type "BaseException") = some true) && (decide (PySem.W.typeIn K (.ref C) = some (.type "type")) && PySem.W.keepIn K (.ref C))))
theorem oexB_ok (h : oexB K C = true) : OexC K C := by
  unfold oexB at h
  simp only [Bool.and_eq_true, decide_eq_true_eq] at h
  obtain ⟨h0, h1, h2, h3, h4⟩ := h
  refine ⟨?_, h1, h2, h3, h4⟩
  split at h0
  · rename_i dd cd sl ho
    split at h0
    · rename_i C' bm k0 k1 k2 k3 n k5 hm hs
      simp only [Bool.and_eq_true, beq_iff_eq, Bool.not_eq_true'] at h0
      obtain ⟨rfl, rfl, hdel, hdct, hv⟩ := h0
      obtain ⟨nm, bs, mro, ns, qn, hd, sn, sub, ab, col, del⟩ := cd
      dsimp only at hm hdel hdct
      subst hm hdel hdct
      obtain rfl : sl = #[k0, k1, k2, k3, some (.builtin "ValueError.__new__"), k5] := by
        obtain ⟨l⟩ := sl
        simp only at hs
        rw [hs]
      exact ⟨nm, qn, ns, bs, bm, sn, sub, ab, col, dd, k0, k1, k2, k3, k5, ho, hv⟩
    · cases h0
  · cases h0
def isxB (K : PySem.W.Frag) (cv : Value) (f : Str → Bool) (Cs : List (Str × Addr)) : Bool := Cs.all fun p => decide (PySem.W.kitOne K (.ref p.2) cv = some (f p.1))
theorem isx_of {cv : Value} {L : List Str} {f : Str → Bool} (Cs : List (Str × Addr)) (hL : L = Cs.map (·.1)) (hm : ∀ p ∈ Cs, mg p.1 = some (.ref p.2)) (he : (Cs.all fun p => excB K p.2) = true) (hk : isxB K cv f Cs = true) : IsX K mg cv L f := by
  intro c hc
  rw [hL] at hc
  obtain ⟨p, hp, rfl⟩ := List.mem_map.mp hc
  exact ⟨p.2, hm p hp, excB_ok (List.all_eq_true.mp he p hp), of_decide_eq_true (List.all_eq_true.mp hk p hp)⟩
end
end DL
-- E0
set_option maxHeartbeats 4000000
namespace K00
open PySem PySem.Spec PyProof.Rows L2 DL
theorem kit_ref {K : PySem.W.Frag} {D C : Addr} (h1 : PySem.W.isClsIn K C = true) (h2 : PySem.W.typeIn K (.ref C) = some (.type "type")) (h3 : PySem.W.subIn K (.ref D) (.ref C) = some true) : PySem.W.kitOne K (.ref D) (.ref C) = some true := by
  unfold PySem.W.kitOne
  split
  · rfl
  · have e2 : ((PySem.W.clsIn K C).isSome && PySem.W.typeIn K (.ref C) == some (.type "type")) = true := by
      have h2' : (PySem.W.clsIn K C).isSome = true := h1
      rw [h2', h2] <;> rfl
    show (if ((PySem.W.clsIn K C).isSome && PySem.W.typeIn K (.ref C) == some (.type "type")) = true then PySem.W.subIn K (.ref D) (.ref C) else none) = some true
    rw [if_pos e2]
    exact h3
/-- what the top leaves, as it is asked for -/
def tx_mk {K : PySem.W.Frag} {h : Heap} {mg : Str → Option Value} (X : K.In h) (G : h.Ns mainGlobals mg)
    {C_BadCrews : Addr}
    {C_BadHome : Addr}
    {C_Busy : Addr}
    {C_Clash : Addr}
    {C_Closes : Addr}
    {C_Full : Addr}
    {C_NoArrow : Addr}
    {C_NoCrew : Addr}
    {C_NoFit : Addr}
    {C_NoHand : Addr}
    {C_NoHands : Addr}
    {C_NoLot : Addr}
    {C_NoNumber : Addr}
    {C_NoOrder : Addr}
    {C_NoSeen : Addr}
    {C_NoStanding : Addr}
    {C_NoText : Addr}
    {C_NoThing : Addr}
    {C_NoThings : Addr}
    {C_NoTies : Addr}
    {C_NotBare : Addr}
    {C_NotNow : Addr}
    {C_NotSpined : Addr}
    {C_NothingDone : Addr}
    {C_Tied : Addr}
    {C_TooMany : Addr}
    {C_TurnError : Addr}
    {f_BadHome___init__ : Addr} {od_BadHome___init__ an_BadHome___init__ : Option Addr} {sl_BadHome___init__ : Array (Option Value)} {oc_BadHome___init__ kV_BadHome___init__ dc_BadHome___init__ pm_BadHome___init__ cd_BadHome___init__ ct_BadHome___init__ : Value}
    {f_NotBare___init__ : Addr} {od_NotBare___init__ an_NotBare___init__ : Option Addr} {sl_NotBare___init__ : Array (Option Value)} {oc_NotBare___init__ kV_NotBare___init__ dc_NotBare___init__ pm_NotBare___init__ cd_NotBare___init__ ct_NotBare___init__ : Value}
    {f_BadCrews___init__ : Addr} {od_BadCrews___init__ an_BadCrews___init__ : Option Addr} {sl_BadCrews___init__ : Array (Option Value)} {oc_BadCrews___init__ kV_BadCrews___init__ dc_BadCrews___init__ pm_BadCrews___init__ cd_BadCrews___init__ ct_BadCrews___init__ : Value}
    {f_Busy___init__ : Addr} {od_Busy___init__ an_Busy___init__ : Option Addr} {sl_Busy___init__ : Array (Option Value)} {oc_Busy___init__ kV_Busy___init__ dc_Busy___init__ pm_Busy___init__ cd_Busy___init__ ct_Busy___init__ : Value}
    {f_Closes___init__ : Addr} {od_Closes___init__ an_Closes___init__ : Option Addr} {sl_Closes___init__ : Array (Option Value)} {oc_Closes___init__ kV_Closes___init__ dc_Closes___init__ pm_Closes___init__ cd_Closes___init__ ct_Closes___init__ : Value}
    {f_TooMany___init__ : Addr} {od_TooMany___init__ an_TooMany___init__ : Option Addr} {sl_TooMany___init__ : Array (Option Value)} {oc_TooMany___init__ kV_TooMany___init__ dc_TooMany___init__ pm_TooMany___init__ cd_TooMany___init__ ct_TooMany___init__ : Value}
    {f__law_hand : Addr} {od__law_hand an__law_hand : Option Addr} {sl__law_hand : Array (Option Value)} {oc__law_hand kV__law_hand dc__law_hand pm__law_hand cd__law_hand ct__law_hand : Value}
    {f__law_draw : Addr} {od__law_draw an__law_draw : Option Addr} {sl__law_draw : Array (Option Value)} {oc__law_draw kV__law_draw dc__law_draw pm__law_draw cd__law_draw ct__law_draw : Value}
    {f__law_deep : Addr} {od__law_deep an__law_deep : Option Addr} {sl__law_deep : Array (Option Value)} {oc__law_deep kV__law_deep dc__law_deep pm__law_deep cd__law_deep ct__law_deep : Value}
    {f_law : Addr} {od_law an_law : Option Addr} {sl_law : Array (Option Value)} {oc_law kV_law dc_law pm_law cd_law ct_law : Value}
    (a_BadCrews : PySem.W.nsIn K mainGlobals "BadCrews" = some (some (.ref C_BadCrews)))
    (a_BadHome : PySem.W.nsIn K mainGlobals "BadHome" = some (some (.ref C_BadHome)))
    (a_Busy : PySem.W.nsIn K mainGlobals "Busy" = some (some (.ref C_Busy)))
    (a_Clash : PySem.W.nsIn K mainGlobals "Clash" = some (some (.ref C_Clash)))
    (a_Closes : PySem.W.nsIn K mainGlobals "Closes" = some (some (.ref C_Closes)))
    (a_Full : PySem.W.nsIn K mainGlobals "Full" = some (some (.ref C_Full)))
    (a_NoArrow : PySem.W.nsIn K mainGlobals "NoArrow" = some (some (.ref C_NoArrow)))
    (a_NoCrew : PySem.W.nsIn K mainGlobals "NoCrew" = some (some (.ref C_NoCrew)))
    (a_NoFit : PySem.W.nsIn K mainGlobals "NoFit" = some (some (.ref C_NoFit)))
    (a_NoHand : PySem.W.nsIn K mainGlobals "NoHand" = some (some (.ref C_NoHand)))
    (a_NoHands : PySem.W.nsIn K mainGlobals "NoHands" = some (some (.ref C_NoHands)))
    (a_NoLot : PySem.W.nsIn K mainGlobals "NoLot" = some (some (.ref C_NoLot)))
    (a_NoNumber : PySem.W.nsIn K mainGlobals "NoNumber" = some (some (.ref C_NoNumber)))
    (a_NoOrder : PySem.W.nsIn K mainGlobals "NoOrder" = some (some (.ref C_NoOrder)))
    (a_NoSeen : PySem.W.nsIn K mainGlobals "NoSeen" = some (some (.ref C_NoSeen)))
    (a_NoStanding : PySem.W.nsIn K mainGlobals "NoStanding" = some (some (.ref C_NoStanding)))
    (a_NoText : PySem.W.nsIn K mainGlobals "NoText" = some (some (.ref C_NoText)))
    (a_NoThing : PySem.W.nsIn K mainGlobals "NoThing" = some (some (.ref C_NoThing)))
    (a_NoThings : PySem.W.nsIn K mainGlobals "NoThings" = some (some (.ref C_NoThings)))
    (a_NoTies : PySem.W.nsIn K mainGlobals "NoTies" = some (some (.ref C_NoTies)))
    (a_NotBare : PySem.W.nsIn K mainGlobals "NotBare" = some (some (.ref C_NotBare)))
    (a_NotNow : PySem.W.nsIn K mainGlobals "NotNow" = some (some (.ref C_NotNow)))
    (a_NotSpined : PySem.W.nsIn K mainGlobals "NotSpined" = some (some (.ref C_NotSpined)))
    (a_NothingDone : PySem.W.nsIn K mainGlobals "NothingDone" = some (some (.ref C_NothingDone)))
    (a_Tied : PySem.W.nsIn K mainGlobals "Tied" = some (some (.ref C_Tied)))
    (a_TooMany : PySem.W.nsIn K mainGlobals "TooMany" = some (some (.ref C_TooMany)))
    (a_TurnError : PySem.W.nsIn K mainGlobals "TurnError" = some (some (.ref C_TurnError)))
    (a_BadHome___init__ : PySem.W.findIn K (.ref C_BadHome) "__init__" = some (some (.ref f_BadHome___init__)))
    (i_BadHome___init__ : PySem.W.typeIn K (.ref f_BadHome___init__) = some (.type "function"))
    (l_BadHome___init__ : K.lookup f_BadHome___init__ = some ⟨oc_BadHome___init__, od_BadHome___init__, .func (PySem.W.fnOf "__init__" "BadHome.__init__" (defArgs s_BadHome___init__) (defBody s_BadHome___init__) (defScope s_BadHome___init__) .none kV_BadHome___init__ dc_BadHome___init__ pm_BadHome___init__ an_BadHome___init__ cd_BadHome___init__ ct_BadHome___init__), sl_BadHome___init__⟩)
    (c_BadHome___init__ : PySem.W.codeIn K cd_BadHome___init__ "BadHome.__init__" = true)
    (k_BadHome___init__ : PySem.W.keepIn K (.ref f_BadHome___init__) = true)
    (a_NotBare___init__ : PySem.W.findIn K (.ref C_NotBare) "__init__" = some (some (.ref f_NotBare___init__)))
    (i_NotBare___init__ : PySem.W.typeIn K (.ref f_NotBare___init__) = some (.type "function"))
    (l_NotBare___init__ : K.lookup f_NotBare___init__ = some ⟨oc_NotBare___init__, od_NotBare___init__, .func (PySem.W.fnOf "__init__" "NotBare.__init__" (defArgs s_NotBare___init__) (defBody s_NotBare___init__) (defScope s_NotBare___init__) .none kV_NotBare___init__ dc_NotBare___init__ pm_NotBare___init__ an_NotBare___init__ cd_NotBare___init__ ct_NotBare___init__), sl_NotBare___init__⟩)
    (c_NotBare___init__ : PySem.W.codeIn K cd_NotBare___init__ "NotBare.__init__" = true)
    (k_NotBare___init__ : PySem.W.keepIn K (.ref f_NotBare___init__) = true)
    (a_BadCrews___init__ : PySem.W.findIn K (.ref C_BadCrews) "__init__" = some (some (.ref f_BadCrews___init__)))
    (i_BadCrews___init__ : PySem.W.typeIn K (.ref f_BadCrews___init__) = some (.type "function"))
    (l_BadCrews___init__ : K.lookup f_BadCrews___init__ = some ⟨oc_BadCrews___init__, od_BadCrews___init__, .func (PySem.W.fnOf "__init__" "BadCrews.__init__" (defArgs s_BadCrews___init__) (defBody s_BadCrews___init__) (defScope s_BadCrews___init__) .none kV_BadCrews___init__ dc_BadCrews___init__ pm_BadCrews___init__ an_BadCrews___init__ cd_BadCrews___init__ ct_BadCrews___init__), sl_BadCrews___init__⟩)
    (c_BadCrews___init__ : PySem.W.codeIn K cd_BadCrews___init__ "BadCrews.__init__" = true)
    (k_BadCrews___init__ : PySem.W.keepIn K (.ref f_BadCrews___init__) = true)
    (a_Busy___init__ : PySem.W.findIn K (.ref C_Busy) "__init__" = some (some (.ref f_Busy___init__)))
    (i_Busy___init__ : PySem.W.typeIn K (.ref f_Busy___init__) = some (.type "function"))
    (l_Busy___init__ : K.lookup f_Busy___init__ = some ⟨oc_Busy___init__, od_Busy___init__, .func (PySem.W.fnOf "__init__" "Busy.__init__" (defArgs s_Busy___init__) (defBody s_Busy___init__) (defScope s_Busy___init__) .none kV_Busy___init__ dc_Busy___init__ pm_Busy___init__ an_Busy___init__ cd_Busy___init__ ct_Busy___init__), sl_Busy___init__⟩)
    (c_Busy___init__ : PySem.W.codeIn K cd_Busy___init__ "Busy.__init__" = true)
    (k_Busy___init__ : PySem.W.keepIn K (.ref f_Busy___init__) = true)
    (a_Closes___init__ : PySem.W.findIn K (.ref C_Closes) "__init__" = some (some (.ref f_Closes___init__)))
    (i_Closes___init__ : PySem.W.typeIn K (.ref f_Closes___init__) = some (.type "function"))
    (l_Closes___init__ : K.lookup f_Closes___init__ = some ⟨oc_Closes___init__, od_Closes___init__, .func (PySem.W.fnOf "__init__" "Closes.__init__" (defArgs s_Closes___init__) (defBody s_Closes___init__) (defScope s_Closes___init__) .none kV_Closes___init__ dc_Closes___init__ pm_Closes___init__ an_Closes___init__ cd_Closes___init__ ct_Closes___init__), sl_Closes___init__⟩)
    (c_Closes___init__ : PySem.W.codeIn K cd_Closes___init__ "Closes.__init__" = true)
    (k_Closes___init__ : PySem.W.keepIn K (.ref f_Closes___init__) = true)
    (a_TooMany___init__ : PySem.W.findIn K (.ref C_TooMany) "__init__" = some (some (.ref f_TooMany___init__)))
    (i_TooMany___init__ : PySem.W.typeIn K (.ref f_TooMany___init__) = some (.type "function"))
    (l_TooMany___init__ : K.lookup f_TooMany___init__ = some ⟨oc_TooMany___init__, od_TooMany___init__, .func (PySem.W.fnOf "__init__" "TooMany.__init__" (defArgs s_TooMany___init__) (defBody s_TooMany___init__) (defScope s_TooMany___init__) .none kV_TooMany___init__ dc_TooMany___init__ pm_TooMany___init__ an_TooMany___init__ cd_TooMany___init__ ct_TooMany___init__), sl_TooMany___init__⟩)
    (c_TooMany___init__ : PySem.W.codeIn K cd_TooMany___init__ "TooMany.__init__" = true)
    (k_TooMany___init__ : PySem.W.keepIn K (.ref f_TooMany___init__) = true)
    (a__law_hand : PySem.W.nsIn K mainGlobals "_law_hand" = some (some (.ref f__law_hand)))
    (l__law_hand : K.lookup f__law_hand = some ⟨oc__law_hand, od__law_hand, .func (PySem.W.fnOf "_law_hand" "_law_hand" (defArgs s__law_hand) (defBody s__law_hand) (defScope s__law_hand) .none kV__law_hand dc__law_hand pm__law_hand an__law_hand cd__law_hand ct__law_hand), sl__law_hand⟩)
    (c__law_hand : PySem.W.codeIn K cd__law_hand "_law_hand" = true)
    (k__law_hand : PySem.W.keepIn K (.ref f__law_hand) = true)
    (a__law_draw : PySem.W.nsIn K mainGlobals "_law_draw" = some (some (.ref f__law_draw)))
    (l__law_draw : K.lookup f__law_draw = some ⟨oc__law_draw, od__law_draw, .func (PySem.W.fnOf "_law_draw" "_law_draw" (defArgs s__law_draw) (defBody s__law_draw) (defScope s__law_draw) .none kV__law_draw dc__law_draw pm__law_draw an__law_draw cd__law_draw ct__law_draw), sl__law_draw⟩)
    (c__law_draw : PySem.W.codeIn K cd__law_draw "_law_draw" = true)
    (k__law_draw : PySem.W.keepIn K (.ref f__law_draw) = true)
    (a__law_deep : PySem.W.nsIn K mainGlobals "_law_deep" = some (some (.ref f__law_deep)))
    (l__law_deep : K.lookup f__law_deep = some ⟨oc__law_deep, od__law_deep, .func (PySem.W.fnOf "_law_deep" "_law_deep" (defArgs s__law_deep) (defBody s__law_deep) (defScope s__law_deep) .none kV__law_deep dc__law_deep pm__law_deep an__law_deep cd__law_deep ct__law_deep), sl__law_deep⟩)
    (c__law_deep : PySem.W.codeIn K cd__law_deep "_law_deep" = true)
    (k__law_deep : PySem.W.keepIn K (.ref f__law_deep) = true)
    (a_law : PySem.W.nsIn K mainGlobals "law" = some (some (.ref f_law)))
    (l_law : K.lookup f_law = some ⟨oc_law, od_law, .func (PySem.W.fnOf "law" "law" (defArgs s_law) (defBody s_law) (defScope s_law) .none kV_law dc_law pm_law an_law cd_law ct_law), sl_law⟩)
    (c_law : PySem.W.codeIn K cd_law "law" = true)
    (k_law : PySem.W.keepIn K (.ref f_law) = true)
    (xi_Clash : PySem.W.excIn K C_Clash [.type "ValueError", .type "Exception", .type "BaseException", .type "object"] "ValueError.__new__" = true)
    (kp_Clash : PySem.W.keepIn K (.ref C_Clash) = true)
    (xi_Full : PySem.W.excIn K C_Full [.type "ValueError", .type "Exception", .type "BaseException", .type "object"] "ValueError.__new__" = true)
    (kp_Full : PySem.W.keepIn K (.ref C_Full) = true)
    (xi_NoArrow : PySem.W.excIn K C_NoArrow [.type "ValueError", .type "Exception", .type "BaseException", .type "object"] "ValueError.__new__" = true)
    (kp_NoArrow : PySem.W.keepIn K (.ref C_NoArrow) = true)
    (xi_NoCrew : PySem.W.excIn K C_NoCrew [.type "ValueError", .type "Exception", .type "BaseException", .type "object"] "ValueError.__new__" = true)
    (kp_NoCrew : PySem.W.keepIn K (.ref C_NoCrew) = true)
    (xi_NoFit : PySem.W.excIn K C_NoFit [.type "ValueError", .type "Exception", .type "BaseException", .type "object"] "ValueError.__new__" = true)
    (kp_NoFit : PySem.W.keepIn K (.ref C_NoFit) = true)
    (xi_NoHand : PySem.W.excIn K C_NoHand [.type "ValueError", .type "Exception", .type "BaseException", .type "object"] "ValueError.__new__" = true)
    (kp_NoHand : PySem.W.keepIn K (.ref C_NoHand) = true)
    (xi_NoHands : PySem.W.excIn K C_NoHands [.type "ValueError", .type "Exception", .type "BaseException", .type "object"] "ValueError.__new__" = true)
    (kp_NoHands : PySem.W.keepIn K (.ref C_NoHands) = true)
    (xi_NoLot : PySem.W.excIn K C_NoLot [.type "ValueError", .type "Exception", .type "BaseException", .type "object"] "ValueError.__new__" = true)
    (kp_NoLot : PySem.W.keepIn K (.ref C_NoLot) = true)
    (xi_NoNumber : PySem.W.excIn K C_NoNumber [.type "ValueError", .type "Exception", .type "BaseException", .type "object"] "ValueError.__new__" = true)
    (kp_NoNumber : PySem.W.keepIn K (.ref C_NoNumber) = true)
    (xi_NoOrder : PySem.W.excIn K C_NoOrder [.type "ValueError", .type "Exception", .type "BaseException", .type "object"] "ValueError.__new__" = true)
    (kp_NoOrder : PySem.W.keepIn K (.ref C_NoOrder) = true)
    (xi_NoSeen : PySem.W.excIn K C_NoSeen [.type "ValueError", .type "Exception", .type "BaseException", .type "object"] "ValueError.__new__" = true)
    (kp_NoSeen : PySem.W.keepIn K (.ref C_NoSeen) = true)
    (xi_NoStanding : PySem.W.excIn K C_NoStanding [.type "ValueError", .type "Exception", .type "BaseException", .type "object"] "ValueError.__new__" = true)
    (kp_NoStanding : PySem.W.keepIn K (.ref C_NoStanding) = true)
    (xi_NoText : PySem.W.excIn K C_NoText [.type "ValueError", .type "Exception", .type "BaseException", .type "object"] "ValueError.__new__" = true)
    (kp_NoText : PySem.W.keepIn K (.ref C_NoText) = true)
    (xi_NoThing : PySem.W.excIn K C_NoThing [.type "ValueError", .type "Exception", .type "BaseException", .type "object"] "ValueError.__new__" = true)
    (kp_NoThing : PySem.W.keepIn K (.ref C_NoThing) = true)
    (xi_NoThings : PySem.W.excIn K C_NoThings [.type "ValueError", .type "Exception", .type "BaseException", .type "object"] "ValueError.__new__" = true)
    (kp_NoThings : PySem.W.keepIn K (.ref C_NoThings) = true)
    (xi_NoTies : PySem.W.excIn K C_NoTies [.type "ValueError", .type "Exception", .type "BaseException", .type "object"] "ValueError.__new__" = true)
    (kp_NoTies : PySem.W.keepIn K (.ref C_NoTies) = true)
    (xi_NotNow : PySem.W.excIn K C_NotNow [.type "ValueError", .type "Exception", .type "BaseException", .type "object"] "ValueError.__new__" = true)
    (kp_NotNow : PySem.W.keepIn K (.ref C_NotNow) = true)
    (xi_NotSpined : PySem.W.excIn K C_NotSpined [.type "ValueError", .type "Exception", .type "BaseException", .type "object"] "ValueError.__new__" = true)
    (kp_NotSpined : PySem.W.keepIn K (.ref C_NotSpined) = true)
    (xi_NothingDone : PySem.W.excIn K C_NothingDone [.type "ValueError", .type "Exception", .type "BaseException", .type "object"] "ValueError.__new__" = true)
    (kp_NothingDone : PySem.W.keepIn K (.ref C_NothingDone) = true)
    (xi_Tied : PySem.W.excIn K C_Tied [.type "ValueError", .type "Exception", .type "BaseException", .type "object"] "ValueError.__new__" = true)
    (kp_Tied : PySem.W.keepIn K (.ref C_Tied) = true)
    (tb_oBadCrews : oexB K C_BadCrews = true)
    (tb_eBadCrews : excB K C_BadCrews = true)
    (xh_BadCrews : PySem.W.findIn K (.ref C_BadCrews) "index" = some none)
    (tb_oBadHome : oexB K C_BadHome = true)
    (tb_eBadHome : excB K C_BadHome = true)
    (xh_BadHome : PySem.W.findIn K (.ref C_BadHome) "part" = some none)
    (tb_oBusy : oexB K C_Busy = true)
    (tb_eBusy : excB K C_Busy = true)
    (xh_Busy : PySem.W.findIn K (.ref C_Busy) "who" = some none)
    (tb_oCloses : oexB K C_Closes = true)
    (tb_eCloses : excB K C_Closes = true)
    (xh_Closes : PySem.W.findIn K (.ref C_Closes) "who" = some none)
    (tb_oNotBare : oexB K C_NotBare = true)
    (tb_eNotBare : excB K C_NotBare = true)
    (xh_NotBare : PySem.W.findIn K (.ref C_NotBare) "way" = some none)
    (tb_oTooMany : oexB K C_TooMany = true)
    (tb_eTooMany : excB K C_TooMany = true)
    (xh_TooMany : PySem.W.findIn K (.ref C_TooMany) "most" = some none)
    (tb_all : (([("BadHome", C_BadHome), ("NotBare", C_NotBare), ("BadCrews", C_BadCrews), ("Busy", C_Busy), ("Closes", C_Closes), ("TooMany", C_TooMany), ("NoLot", C_NoLot), ("NoStanding", C_NoStanding), ("NoThing", C_NoThing), ("NoThings", C_NoThings), ("NoOrder", C_NoOrder), ("NoArrow", C_NoArrow), ("NoHands", C_NoHands), ("NoNumber", C_NoNumber), ("NoTies", C_NoTies), ("NotSpined", C_NotSpined), ("NoSeen", C_NoSeen), ("NoFit", C_NoFit), ("NothingDone", C_NothingDone), ("NoCrew", C_NoCrew), ("NotNow", C_NotNow), ("NoHand", C_NoHand), ("Full", C_Full), ("Clash", C_Clash), ("Tied", C_Tied), ("NoText", C_NoText)] : List (Str × Addr)).all fun p => excB K p.2) = true)
    (tb_iBadHome : isxB K (.ref C_BadHome) (tbX "BadHome") [("BadHome", C_BadHome), ("NotBare", C_NotBare), ("BadCrews", C_BadCrews), ("Busy", C_Busy), ("Closes", C_Closes), ("TooMany", C_TooMany), ("NoLot", C_NoLot), ("NoStanding", C_NoStanding), ("NoThing", C_NoThing), ("NoThings", C_NoThings), ("NoOrder", C_NoOrder), ("NoArrow", C_NoArrow), ("NoHands", C_NoHands), ("NoNumber", C_NoNumber), ("NoTies", C_NoTies), ("NotSpined", C_NotSpined), ("NoSeen", C_NoSeen), ("NoFit", C_NoFit), ("NothingDone", C_NothingDone), ("NoCrew", C_NoCrew), ("NotNow", C_NotNow), ("NoHand", C_NoHand), ("Full", C_Full), ("Clash", C_Clash), ("Tied", C_Tied), ("NoText", C_NoText)] = true)
    (tb_iNotBare : isxB K (.ref C_NotBare) (tbX "NotBare") [("BadHome", C_BadHome), ("NotBare", C_NotBare), ("BadCrews", C_BadCrews), ("Busy", C_Busy), ("Closes", C_Closes), ("TooMany", C_TooMany), ("NoLot", C_NoLot), ("NoStanding", C_NoStanding), ("NoThing", C_NoThing), ("NoThings", C_NoThings), ("NoOrder", C_NoOrder), ("NoArrow", C_NoArrow), ("NoHands", C_NoHands), ("NoNumber", C_NoNumber), ("NoTies", C_NoTies), ("NotSpined", C_NotSpined), ("NoSeen", C_NoSeen), ("NoFit", C_NoFit), ("NothingDone", C_NothingDone), ("NoCrew", C_NoCrew), ("NotNow", C_NotNow), ("NoHand", C_NoHand), ("Full", C_Full), ("Clash", C_Clash), ("Tied", C_Tied), ("NoText", C_NoText)] = true)
    (tb_iBadCrews : isxB K (.ref C_BadCrews) (tbX "BadCrews") [("BadHome", C_BadHome), ("NotBare", C_NotBare), ("BadCrews", C_BadCrews), ("Busy", C_Busy), ("Closes", C_Closes), ("TooMany", C_TooMany), ("NoLot", C_NoLot), ("NoStanding", C_NoStanding), ("NoThing", C_NoThing), ("NoThings", C_NoThings), ("NoOrder", C_NoOrder), ("NoArrow", C_NoArrow), ("NoHands", C_NoHands), ("NoNumber", C_NoNumber), ("NoTies", C_NoTies), ("NotSpined", C_NotSpined), ("NoSeen", C_NoSeen), ("NoFit", C_NoFit), ("NothingDone", C_NothingDone), ("NoCrew", C_NoCrew), ("NotNow", C_NotNow), ("NoHand", C_NoHand), ("Full", C_Full), ("Clash", C_Clash), ("Tied", C_Tied), ("NoText", C_NoText)] = true)
    (tb_iBusy : isxB K (.ref C_Busy) (tbX "Busy") [("BadHome", C_BadHome), ("NotBare", C_NotBare), ("BadCrews", C_BadCrews), ("Busy", C_Busy), ("Closes", C_Closes), ("TooMany", C_TooMany), ("NoLot", C_NoLot), ("NoStanding", C_NoStanding), ("NoThing", C_NoThing), ("NoThings", C_NoThings), ("NoOrder", C_NoOrder), ("NoArrow", C_NoArrow), ("NoHands", C_NoHands), ("NoNumber", C_NoNumber), ("NoTies", C_NoTies), ("NotSpined", C_NotSpined), ("NoSeen", C_NoSeen), ("NoFit", C_NoFit), ("NothingDone", C_NothingDone), ("NoCrew", C_NoCrew), ("NotNow", C_NotNow), ("NoHand", C_NoHand), ("Full", C_Full), ("Clash", C_Clash), ("Tied", C_Tied), ("NoText", C_NoText)] = true)
    (tb_iCloses : isxB K (.ref C_Closes) (tbX "Closes") [("BadHome", C_BadHome), ("NotBare", C_NotBare), ("BadCrews", C_BadCrews), ("Busy", C_Busy), ("Closes", C_Closes), ("TooMany", C_TooMany), ("NoLot", C_NoLot), ("NoStanding", C_NoStanding), ("NoThing", C_NoThing), ("NoThings", C_NoThings), ("NoOrder", C_NoOrder), ("NoArrow", C_NoArrow), ("NoHands", C_NoHands), ("NoNumber", C_NoNumber), ("NoTies", C_NoTies), ("NotSpined", C_NotSpined), ("NoSeen", C_NoSeen), ("NoFit", C_NoFit), ("NothingDone", C_NothingDone), ("NoCrew", C_NoCrew), ("NotNow", C_NotNow), ("NoHand", C_NoHand), ("Full", C_Full), ("Clash", C_Clash), ("Tied", C_Tied), ("NoText", C_NoText)] = true)
    (tb_iTooMany : isxB K (.ref C_TooMany) (tbX "TooMany") [("BadHome", C_BadHome), ("NotBare", C_NotBare), ("BadCrews", C_BadCrews), ("Busy", C_Busy), ("Closes", C_Closes), ("TooMany", C_TooMany), ("NoLot", C_NoLot), ("NoStanding", C_NoStanding), ("NoThing", C_NoThing), ("NoThings", C_NoThings), ("NoOrder", C_NoOrder), ("NoArrow", C_NoArrow), ("NoHands", C_NoHands), ("NoNumber", C_NoNumber), ("NoTies", C_NoTies), ("NotSpined", C_NotSpined), ("NoSeen", C_NoSeen), ("NoFit", C_NoFit), ("NothingDone", C_NothingDone), ("NoCrew", C_NoCrew), ("NotNow", C_NotNow), ("NoHand", C_NoHand), ("Full", C_Full), ("Clash", C_Clash), ("Tied", C_Tied), ("NoText", C_NoText)] = true)
    (tb_iNoLot : isxB K (.ref C_NoLot) (tbX "NoLot") [("BadHome", C_BadHome), ("NotBare", C_NotBare), ("BadCrews", C_BadCrews), ("Busy", C_Busy), ("Closes", C_Closes), ("TooMany", C_TooMany), ("NoLot", C_NoLot), ("NoStanding", C_NoStanding), ("NoThing", C_NoThing), ("NoThings", C_NoThings), ("NoOrder", C_NoOrder), ("NoArrow", C_NoArrow), ("NoHands", C_NoHands), ("NoNumber", C_NoNumber), ("NoTies", C_NoTies), ("NotSpined", C_NotSpined), ("NoSeen", C_NoSeen), ("NoFit", C_NoFit), ("NothingDone", C_NothingDone), ("NoCrew", C_NoCrew), ("NotNow", C_NotNow), ("NoHand", C_NoHand), ("Full", C_Full), ("Clash", C_Clash), ("Tied", C_Tied), ("NoText", C_NoText)] = true)
    (tb_iNoStanding : isxB K (.ref C_NoStanding) (tbX "NoStanding") [("BadHome", C_BadHome), ("NotBare", C_NotBare), ("BadCrews", C_BadCrews), ("Busy", C_Busy), ("Closes", C_Closes), ("TooMany", C_TooMany), ("NoLot", C_NoLot), ("NoStanding", C_NoStanding), ("NoThing", C_NoThing), ("NoThings", C_NoThings), ("NoOrder", C_NoOrder), ("NoArrow", C_NoArrow), ("NoHands", C_NoHands), ("NoNumber", C_NoNumber), ("NoTies", C_NoTies), ("NotSpined", C_NotSpined), ("NoSeen", C_NoSeen), ("NoFit", C_NoFit), ("NothingDone", C_NothingDone), ("NoCrew", C_NoCrew), ("NotNow", C_NotNow), ("NoHand", C_NoHand), ("Full", C_Full), ("Clash", C_Clash), ("Tied", C_Tied), ("NoText", C_NoText)] = true)
    (tb_iNoThing : isxB K (.ref C_NoThing) (tbX "NoThing") [("BadHome", C_BadHome), ("NotBare", C_NotBare), ("BadCrews", C_BadCrews), ("Busy", C_Busy), ("Closes", C_Closes), ("TooMany", C_TooMany), ("NoLot", C_NoLot), ("NoStanding", C_NoStanding), ("NoThing", C_NoThing), ("NoThings", C_NoThings), ("NoOrder", C_NoOrder), ("NoArrow", C_NoArrow), ("NoHands", C_NoHands), ("NoNumber", C_NoNumber), ("NoTies", C_NoTies), ("NotSpined", C_NotSpined), ("NoSeen", C_NoSeen), ("NoFit", C_NoFit), ("NothingDone", C_NothingDone), ("NoCrew", C_NoCrew), ("NotNow", C_NotNow), ("NoHand", C_NoHand), ("Full", C_Full), ("Clash", C_Clash), ("Tied", C_Tied), ("NoText", C_NoText)] = true)
    (tb_iNoThings : isxB K (.ref C_NoThings) (tbX "NoThings") [("BadHome", C_BadHome), ("NotBare", C_NotBare), ("BadCrews", C_BadCrews), ("Busy", C_Busy), ("Closes", C_Closes), ("TooMany", C_TooMany), ("NoLot", C_NoLot), ("NoStanding", C_NoStanding), ("NoThing", C_NoThing), ("NoThings", C_NoThings), ("NoOrder", C_NoOrder), ("NoArrow", C_NoArrow), ("NoHands", C_NoHands), ("NoNumber", C_NoNumber), ("NoTies", C_NoTies), ("NotSpined", C_NotSpined), ("NoSeen", C_NoSeen), ("NoFit", C_NoFit), ("NothingDone", C_NothingDone), ("NoCrew", C_NoCrew), ("NotNow", C_NotNow), ("NoHand", C_NoHand), ("Full", C_Full), ("Clash", C_Clash), ("Tied", C_Tied), ("NoText", C_NoText)] = true)
    (tb_iNoOrder : isxB K (.ref C_NoOrder) (tbX "NoOrder") [("BadHome", C_BadHome), ("NotBare", C_NotBare), ("BadCrews", C_BadCrews), ("Busy", C_Busy), ("Closes", C_Closes), ("TooMany", C_TooMany), ("NoLot", C_NoLot), ("NoStanding", C_NoStanding), ("NoThing", C_NoThing), ("NoThings", C_NoThings), ("NoOrder", C_NoOrder), ("NoArrow", C_NoArrow), ("NoHands", C_NoHands), ("NoNumber", C_NoNumber), ("NoTies", C_NoTies), ("NotSpined", C_NotSpined), ("NoSeen", C_NoSeen), ("NoFit", C_NoFit), ("NothingDone", C_NothingDone), ("NoCrew", C_NoCrew), ("NotNow", C_NotNow), ("NoHand", C_NoHand), ("Full", C_Full), ("Clash", C_Clash), ("Tied", C_Tied), ("NoText", C_NoText)] = true)
    (tb_iNoArrow : isxB K (.ref C_NoArrow) (tbX "NoArrow") [("BadHome", C_BadHome), ("NotBare", C_NotBare), ("BadCrews", C_BadCrews), ("Busy", C_Busy), ("Closes", C_Closes), ("TooMany", C_TooMany), ("NoLot", C_NoLot), ("NoStanding", C_NoStanding), ("NoThing", C_NoThing), ("NoThings", C_NoThings), ("NoOrder", C_NoOrder), ("NoArrow", C_NoArrow), ("NoHands", C_NoHands), ("NoNumber", C_NoNumber), ("NoTies", C_NoTies), ("NotSpined", C_NotSpined), ("NoSeen", C_NoSeen), ("NoFit", C_NoFit), ("NothingDone", C_NothingDone), ("NoCrew", C_NoCrew), ("NotNow", C_NotNow), ("NoHand", C_NoHand), ("Full", C_Full), ("Clash", C_Clash), ("Tied", C_Tied), ("NoText", C_NoText)] = true)
    (tb_iNoHands : isxB K (.ref C_NoHands) (tbX "NoHands") [("BadHome", C_BadHome), ("NotBare", C_NotBare), ("BadCrews", C_BadCrews), ("Busy", C_Busy), ("Closes", C_Closes), ("TooMany", C_TooMany), ("NoLot", C_NoLot), ("NoStanding", C_NoStanding), ("NoThing", C_NoThing), ("NoThings", C_NoThings), ("NoOrder", C_NoOrder), ("NoArrow", C_NoArrow), ("NoHands", C_NoHands), ("NoNumber", C_NoNumber), ("NoTies", C_NoTies), ("NotSpined", C_NotSpined), ("NoSeen", C_NoSeen), ("NoFit", C_NoFit), ("NothingDone", C_NothingDone), ("NoCrew", C_NoCrew), ("NotNow", C_NotNow), ("NoHand", C_NoHand), ("Full", C_Full), ("Clash", C_Clash), ("Tied", C_Tied), ("NoText", C_NoText)] = true)
    (tb_iNoNumber : isxB K (.ref C_NoNumber) (tbX "NoNumber") [("BadHome", C_BadHome), ("NotBare", C_NotBare), ("BadCrews", C_BadCrews), ("Busy", C_Busy), ("Closes", C_Closes), ("TooMany", C_TooMany), ("NoLot", C_NoLot), ("NoStanding", C_NoStanding), ("NoThing", C_NoThing), ("NoThings", C_NoThings), ("NoOrder", C_NoOrder), ("NoArrow", C_NoArrow), ("NoHands", C_NoHands), ("NoNumber", C_NoNumber), ("NoTies", C_NoTies), ("NotSpined", C_NotSpined), ("NoSeen", C_NoSeen), ("NoFit", C_NoFit), ("NothingDone", C_NothingDone), ("NoCrew", C_NoCrew), ("NotNow", C_NotNow), ("NoHand", C_NoHand), ("Full", C_Full), ("Clash", C_Clash), ("Tied", C_Tied), ("NoText", C_NoText)] = true)
    (tb_iNoTies : isxB K (.ref C_NoTies) (tbX "NoTies") [("BadHome", C_BadHome), ("NotBare", C_NotBare), ("BadCrews", C_BadCrews), ("Busy", C_Busy), ("Closes", C_Closes), ("TooMany", C_TooMany), ("NoLot", C_NoLot), ("NoStanding", C_NoStanding), ("NoThing", C_NoThing), ("NoThings", C_NoThings), ("NoOrder", C_NoOrder), ("NoArrow", C_NoArrow), ("NoHands", C_NoHands), ("NoNumber", C_NoNumber), ("NoTies", C_NoTies), ("NotSpined", C_NotSpined), ("NoSeen", C_NoSeen), ("NoFit", C_NoFit), ("NothingDone", C_NothingDone), ("NoCrew", C_NoCrew), ("NotNow", C_NotNow), ("NoHand", C_NoHand), ("Full", C_Full), ("Clash", C_Clash), ("Tied", C_Tied), ("NoText", C_NoText)] = true)
    (tb_iNotSpined : isxB K (.ref C_NotSpined) (tbX "NotSpined") [("BadHome", C_BadHome), ("NotBare", C_NotBare), ("BadCrews", C_BadCrews), ("Busy", C_Busy), ("Closes", C_Closes), ("TooMany", C_TooMany), ("NoLot", C_NoLot), ("NoStanding", C_NoStanding), ("NoThing", C_NoThing), ("NoThings", C_NoThings), ("NoOrder", C_NoOrder), ("NoArrow", C_NoArrow), ("NoHands", C_NoHands), ("NoNumber", C_NoNumber), ("NoTies", C_NoTies), ("NotSpined", C_NotSpined), ("NoSeen", C_NoSeen), ("NoFit", C_NoFit), ("NothingDone", C_NothingDone), ("NoCrew", C_NoCrew), ("NotNow", C_NotNow), ("NoHand", C_NoHand), ("Full", C_Full), ("Clash", C_Clash), ("Tied", C_Tied), ("NoText", C_NoText)] = true)
    (tb_iNoSeen : isxB K (.ref C_NoSeen) (tbX "NoSeen") [("BadHome", C_BadHome), ("NotBare", C_NotBare), ("BadCrews", C_BadCrews), ("Busy", C_Busy), ("Closes", C_Closes), ("TooMany", C_TooMany), ("NoLot", C_NoLot), ("NoStanding", C_NoStanding), ("NoThing", C_NoThing), ("NoThings", C_NoThings), ("NoOrder", C_NoOrder), ("NoArrow", C_NoArrow), ("NoHands", C_NoHands), ("NoNumber", C_NoNumber), ("NoTies", C_NoTies), ("NotSpined", C_NotSpined), ("NoSeen", C_NoSeen), ("NoFit", C_NoFit), ("NothingDone", C_NothingDone), ("NoCrew", C_NoCrew), ("NotNow", C_NotNow), ("NoHand", C_NoHand), ("Full", C_Full), ("Clash", C_Clash), ("Tied", C_Tied), ("NoText", C_NoText)] = true)
    (tb_iNoFit : isxB K (.ref C_NoFit) (tbX "NoFit") [("BadHome", C_BadHome), ("NotBare", C_NotBare), ("BadCrews", C_BadCrews), ("Busy", C_Busy), ("Closes", C_Closes), ("TooMany", C_TooMany), ("NoLot", C_NoLot), ("NoStanding", C_NoStanding), ("NoThing", C_NoThing), ("NoThings", C_NoThings), ("NoOrder", C_NoOrder), ("NoArrow", C_NoArrow), ("NoHands", C_NoHands), ("NoNumber", C_NoNumber), ("NoTies", C_NoTies), ("NotSpined", C_NotSpined), ("NoSeen", C_NoSeen), ("NoFit", C_NoFit), ("NothingDone", C_NothingDone), ("NoCrew", C_NoCrew), ("NotNow", C_NotNow), ("NoHand", C_NoHand), ("Full", C_Full), ("Clash", C_Clash), ("Tied", C_Tied), ("NoText", C_NoText)] = true)
    (tb_iNothingDone : isxB K (.ref C_NothingDone) (tbX "NothingDone") [("BadHome", C_BadHome), ("NotBare", C_NotBare), ("BadCrews", C_BadCrews), ("Busy", C_Busy), ("Closes", C_Closes), ("TooMany", C_TooMany), ("NoLot", C_NoLot), ("NoStanding", C_NoStanding), ("NoThing", C_NoThing), ("NoThings", C_NoThings), ("NoOrder", C_NoOrder), ("NoArrow", C_NoArrow), ("NoHands", C_NoHands), ("NoNumber", C_NoNumber), ("NoTies", C_NoTies), ("NotSpined", C_NotSpined), ("NoSeen", C_NoSeen), ("NoFit", C_NoFit), ("NothingDone", C_NothingDone), ("NoCrew", C_NoCrew), ("NotNow", C_NotNow), ("NoHand", C_NoHand), ("Full", C_Full), ("Clash", C_Clash), ("Tied", C_Tied), ("NoText", C_NoText)] = true)
    (tb_iNoCrew : isxB K (.ref C_NoCrew) (tbX "NoCrew") [("BadHome", C_BadHome), ("NotBare", C_NotBare), ("BadCrews", C_BadCrews), ("Busy", C_Busy), ("Closes", C_Closes), ("TooMany", C_TooMany), ("NoLot", C_NoLot), ("NoStanding", C_NoStanding), ("NoThing", C_NoThing), ("NoThings", C_NoThings), ("NoOrder", C_NoOrder), ("NoArrow", C_NoArrow), ("NoHands", C_NoHands), ("NoNumber", C_NoNumber), ("NoTies", C_NoTies), ("NotSpined", C_NotSpined), ("NoSeen", C_NoSeen), ("NoFit", C_NoFit), ("NothingDone", C_NothingDone), ("NoCrew", C_NoCrew), ("NotNow", C_NotNow), ("NoHand", C_NoHand), ("Full", C_Full), ("Clash", C_Clash), ("Tied", C_Tied), ("NoText", C_NoText)] = true)
    (tb_iNotNow : isxB K (.ref C_NotNow) (tbX "NotNow") [("BadHome", C_BadHome), ("NotBare", C_NotBare), ("BadCrews", C_BadCrews), ("Busy", C_Busy), ("Closes", C_Closes), ("TooMany", C_TooMany), ("NoLot", C_NoLot), ("NoStanding", C_NoStanding), ("NoThing", C_NoThing), ("NoThings", C_NoThings), ("NoOrder", C_NoOrder), ("NoArrow", C_NoArrow), ("NoHands", C_NoHands), ("NoNumber", C_NoNumber), ("NoTies", C_NoTies), ("NotSpined", C_NotSpined), ("NoSeen", C_NoSeen), ("NoFit", C_NoFit), ("NothingDone", C_NothingDone), ("NoCrew", C_NoCrew), ("NotNow", C_NotNow), ("NoHand", C_NoHand), ("Full", C_Full), ("Clash", C_Clash), ("Tied", C_Tied), ("NoText", C_NoText)] = true)
    (tb_iNoHand : isxB K (.ref C_NoHand) (tbX "NoHand") [("BadHome", C_BadHome), ("NotBare", C_NotBare), ("BadCrews", C_BadCrews), ("Busy", C_Busy), ("Closes", C_Closes), ("TooMany", C_TooMany), ("NoLot", C_NoLot), ("NoStanding", C_NoStanding), ("NoThing", C_NoThing), ("NoThings", C_NoThings), ("NoOrder", C_NoOrder), ("NoArrow", C_NoArrow), ("NoHands", C_NoHands), ("NoNumber", C_NoNumber), ("NoTies", C_NoTies), ("NotSpined", C_NotSpined), ("NoSeen", C_NoSeen), ("NoFit", C_NoFit), ("NothingDone", C_NothingDone), ("NoCrew", C_NoCrew), ("NotNow", C_NotNow), ("NoHand", C_NoHand), ("Full", C_Full), ("Clash", C_Clash), ("Tied", C_Tied), ("NoText", C_NoText)] = true)
    (tb_iFull : isxB K (.ref C_Full) (tbX "Full") [("BadHome", C_BadHome), ("NotBare", C_NotBare), ("BadCrews", C_BadCrews), ("Busy", C_Busy), ("Closes", C_Closes), ("TooMany", C_TooMany), ("NoLot", C_NoLot), ("NoStanding", C_NoStanding), ("NoThing", C_NoThing), ("NoThings", C_NoThings), ("NoOrder", C_NoOrder), ("NoArrow", C_NoArrow), ("NoHands", C_NoHands), ("NoNumber", C_NoNumber), ("NoTies", C_NoTies), ("NotSpined", C_NotSpined), ("NoSeen", C_NoSeen), ("NoFit", C_NoFit), ("NothingDone", C_NothingDone), ("NoCrew", C_NoCrew), ("NotNow", C_NotNow), ("NoHand", C_NoHand), ("Full", C_Full), ("Clash", C_Clash), ("Tied", C_Tied), ("NoText", C_NoText)] = true)
    (tb_iClash : isxB K (.ref C_Clash) (tbX "Clash") [("BadHome", C_BadHome), ("NotBare", C_NotBare), ("BadCrews", C_BadCrews), ("Busy", C_Busy), ("Closes", C_Closes), ("TooMany", C_TooMany), ("NoLot", C_NoLot), ("NoStanding", C_NoStanding), ("NoThing", C_NoThing), ("NoThings", C_NoThings), ("NoOrder", C_NoOrder), ("NoArrow", C_NoArrow), ("NoHands", C_NoHands), ("NoNumber", C_NoNumber), ("NoTies", C_NoTies), ("NotSpined", C_NotSpined), ("NoSeen", C_NoSeen), ("NoFit", C_NoFit), ("NothingDone", C_NothingDone), ("NoCrew", C_NoCrew), ("NotNow", C_NotNow), ("NoHand", C_NoHand), ("Full", C_Full), ("Clash", C_Clash), ("Tied", C_Tied), ("NoText", C_NoText)] = true)
    (tb_iTied : isxB K (.ref C_Tied) (tbX "Tied") [("BadHome", C_BadHome), ("NotBare", C_NotBare), ("BadCrews", C_BadCrews), ("Busy", C_Busy), ("Closes", C_Closes), ("TooMany", C_TooMany), ("NoLot", C_NoLot), ("NoStanding", C_NoStanding), ("NoThing", C_NoThing), ("NoThings", C_NoThings), ("NoOrder", C_NoOrder), ("NoArrow", C_NoArrow), ("NoHands", C_NoHands), ("NoNumber", C_NoNumber), ("NoTies", C_NoTies), ("NotSpined", C_NotSpined), ("NoSeen", C_NoSeen), ("NoFit", C_NoFit), ("NothingDone", C_NothingDone), ("NoCrew", C_NoCrew), ("NotNow", C_NotNow), ("NoHand", C_NoHand), ("Full", C_Full), ("Clash", C_Clash), ("Tied", C_Tied), ("NoText", C_NoText)] = true)
    (tb_iNoText : isxB K (.ref C_NoText) (tbX "NoText") [("BadHome", C_BadHome), ("NotBare", C_NotBare), ("BadCrews", C_BadCrews), ("Busy", C_Busy), ("Closes", C_Closes), ("TooMany", C_TooMany), ("NoLot", C_NoLot), ("NoStanding", C_NoStanding), ("NoThing", C_NoThing), ("NoThings", C_NoThings), ("NoOrder", C_NoOrder), ("NoArrow", C_NoArrow), ("NoHands", C_NoHands), ("NoNumber", C_NoNumber), ("NoTies", C_NoTies), ("NotSpined", C_NotSpined), ("NoSeen", C_NoSeen), ("NoFit", C_NoFit), ("NothingDone", C_NothingDone), ("NoCrew", C_NoCrew), ("NotNow", C_NotNow), ("NoHand", C_NoHand), ("Full", C_Full), ("Clash", C_Clash), ("Tied", C_Tied), ("NoText", C_NoText)] = true)
    (tb_iTurnError : isxB K (.ref C_TurnError) (tbX "TurnError") [("BadHome", C_BadHome), ("NotBare", C_NotBare), ("BadCrews", C_BadCrews), ("Busy", C_Busy), ("Closes", C_Closes), ("TooMany", C_TooMany), ("NoLot", C_NoLot), ("NoStanding", C_NoStanding), ("NoThing", C_NoThing), ("NoThings", C_NoThings), ("NoOrder", C_NoOrder), ("NoArrow", C_NoArrow), ("NoHands", C_NoHands), ("NoNumber", C_NoNumber), ("NoTies", C_NoTies), ("NotSpined", C_NotSpined), ("NoSeen", C_NoSeen), ("NoFit", C_NoFit), ("NothingDone", C_NothingDone), ("NoCrew", C_NoCrew), ("NotNow", C_NotNow), ("NoHand", C_NoHand), ("Full", C_Full), ("Clash", C_Clash), ("Tied", C_Tied), ("NoText", C_NoText)] = true)
    (tb_iValueError : isxB K (.type "ValueError") (tbX "ValueError") [("BadHome", C_BadHome), ("NotBare", C_NotBare), ("BadCrews", C_BadCrews), ("Busy", C_Busy), ("Closes", C_Closes), ("TooMany", C_TooMany), ("NoLot", C_NoLot), ("NoStanding", C_NoStanding), ("NoThing", C_NoThing), ("NoThings", C_NoThings), ("NoOrder", C_NoOrder), ("NoArrow", C_NoArrow), ("NoHands", C_NoHands), ("NoNumber", C_NoNumber), ("NoTies", C_NoTies), ("NotSpined", C_NotSpined), ("NoSeen", C_NoSeen), ("NoFit", C_NoFit), ("NothingDone", C_NothingDone), ("NoCrew", C_NoCrew), ("NotNow", C_NotNow), ("NoHand", C_NoHand), ("Full", C_Full), ("Clash", C_Clash), ("Tied", C_Tied), ("NoText", C_NoText)] = true)
    (z_ValueError : PySem.W.nsIn K mainGlobals "ValueError" = some none)
    (z_abs : PySem.W.nsIn K mainGlobals "abs" = some none)
    (z_any : PySem.W.nsIn K mainGlobals "any" = some none)
    (z_bool : PySem.W.nsIn K mainGlobals "bool" = some none)
    (z_int : PySem.W.nsIn K mainGlobals "int" = some none)
    (z_isinstance : PySem.W.nsIn K mainGlobals "isinstance" = some none)
    (z_len : PySem.W.nsIn K mainGlobals "len" = some none)
    (z_range : PySem.W.nsIn K mainGlobals "range" = some none)
    : Tx K mg :=
  have hmem : ∀ p ∈ ([("BadHome", C_BadHome), ("NotBare", C_NotBare), ("BadCrews", C_BadCrews), ("Busy", C_Busy), ("Closes", C_Closes), ("TooMany", C_TooMany), ("NoLot", C_NoLot), ("NoStanding", C_NoStanding), ("NoThing", C_NoThing), ("NoThings", C_NoThings), ("NoOrder", C_NoOrder), ("NoArrow", C_NoArrow), ("NoHands", C_NoHands), ("NoNumber", C_NoNumber), ("NoTies", C_NoTies), ("NotSpined", C_NotSpined), ("NoSeen", C_NoSeen), ("NoFit", C_NoFit), ("NothingDone", C_NothingDone), ("NoCrew", C_NoCrew), ("NotNow", C_NotNow), ("NoHand", C_NoHand), ("Full", C_Full), ("Clash", C_Clash), ("Tied", C_Tied), ("NoText", C_NoText)] : List (Str × Addr)), mg p.1 = some (.ref p.2) := (by intro p hp; simp only [List.mem_cons, List.not_mem_nil, or_false] at hp; rcases hp with rfl | rfl | rfl | rfl | rfl | rfl | rfl | rfl | rfl | rfl | rfl | rfl | rfl | rfl | rfl | rfl | rfl | rfl | rfl | rfl | rfl | rfl | rfl | rfl | rfl | rfl <;> (first | exact PySem.W.mg_of X G a_BadHome | exact PySem.W.mg_of X G a_NotBare | exact PySem.W.mg_of X G a_BadCrews | exact PySem.W.mg_of X G a_Busy | exact PySem.W.mg_of X G a_Closes | exact PySem.W.mg_of X G a_TooMany | exact PySem.W.mg_of X G a_NoLot | exact PySem.W.mg_of X G a_NoStanding | exact PySem.W.mg_of X G a_NoThing | exact PySem.W.mg_of X G a_NoThings | exact PySem.W.mg_of X G a_NoOrder | exact PySem.W.mg_of X G a_NoArrow | exact PySem.W.mg_of X G a_NoHands | exact PySem.W.mg_of X G a_NoNumber | exact PySem.W.mg_of X G a_NoTies | exact PySem.W.mg_of X G a_NotSpined | exact PySem.W.mg_of X G a_NoSeen | exact PySem.W.mg_of X G a_NoFit | exact PySem.W.mg_of X G a_NothingDone | exact PySem.W.mg_of X G a_NoCrew | exact PySem.W.mg_of X G a_NotNow | exact PySem.W.mg_of X G a_NoHand | exact PySem.W.mg_of X G a_Full | exact PySem.W.mg_of X G a_Clash | exact PySem.W.mg_of X G a_Tied | exact PySem.W.mg_of X G a_NoText))
  { C_BadCrews := C_BadCrews,
    g_BadCrews := PySem.W.mg_of X G a_BadCrews,
    C_BadHome := C_BadHome,
    g_BadHome := PySem.W.mg_of X G a_BadHome,
    C_Busy := C_Busy,
    g_Busy := PySem.W.mg_of X G a_Busy,
    C_Clash := C_Clash,
    g_Clash := PySem.W.mg_of X G a_Clash,
    C_Closes := C_Closes,
    g_Closes := PySem.W.mg_of X G a_Closes,
    C_Full := C_Full,
    g_Full := PySem.W.mg_of X G a_Full,
    C_NoArrow := C_NoArrow,
    g_NoArrow := PySem.W.mg_of X G a_NoArrow,
    C_NoCrew := C_NoCrew,
    g_NoCrew := PySem.W.mg_of X G a_NoCrew,
    C_NoFit := C_NoFit,
    g_NoFit := PySem.W.mg_of X G a_NoFit,
    C_NoHand := C_NoHand,
    g_NoHand := PySem.W.mg_of X G a_NoHand,
    C_NoHands := C_NoHands,
    g_NoHands := PySem.W.mg_of X G a_NoHands,
    C_NoLot := C_NoLot,
    g_NoLot := PySem.W.mg_of X G a_NoLot,
    C_NoNumber := C_NoNumber,
    g_NoNumber := PySem.W.mg_of X G a_NoNumber,
    C_NoOrder := C_NoOrder,
    g_NoOrder := PySem.W.mg_of X G a_NoOrder,
    C_NoSeen := C_NoSeen,
    g_NoSeen := PySem.W.mg_of X G a_NoSeen,
    C_NoStanding := C_NoStanding,
    g_NoStanding := PySem.W.mg_of X G a_NoStanding,
    C_NoText := C_NoText,
    g_NoText := PySem.W.mg_of X G a_NoText,
    C_NoThing := C_NoThing,
    g_NoThing := PySem.W.mg_of X G a_NoThing,
    C_NoThings := C_NoThings,
    g_NoThings := PySem.W.mg_of X G a_NoThings,
    C_NoTies := C_NoTies,
    g_NoTies := PySem.W.mg_of X G a_NoTies,
    C_NotBare := C_NotBare,
    g_NotBare := PySem.W.mg_of X G a_NotBare,
    C_NotNow := C_NotNow,
    g_NotNow := PySem.W.mg_of X G a_NotNow,
    C_NotSpined := C_NotSpined,
    g_NotSpined := PySem.W.mg_of X G a_NotSpined,
    C_NothingDone := C_NothingDone,
    g_NothingDone := PySem.W.mg_of X G a_NothingDone,
    C_Tied := C_Tied,
    g_Tied := PySem.W.mg_of X G a_Tied,
    C_TooMany := C_TooMany,
    g_TooMany := PySem.W.mg_of X G a_TooMany,
    C_TurnError := C_TurnError,
    g_TurnError := PySem.W.mg_of X G a_TurnError,
    f_BadHome___init__ := f_BadHome___init__,
    fd_BadHome___init__ := PySem.W.fnOf "__init__" "BadHome.__init__" (defArgs s_BadHome___init__) (defBody s_BadHome___init__) (defScope s_BadHome___init__) .none kV_BadHome___init__ dc_BadHome___init__ pm_BadHome___init__ an_BadHome___init__ cd_BadHome___init__ ct_BadHome___init__,
    F_BadHome___init__ := fun_mk (st := s_BadHome___init__) l_BadHome___init__ c_BadHome___init__ k_BadHome___init__,
    b_BadHome___init__ := (fun_mk (st := s_BadHome___init__) l_BadHome___init__ c_BadHome___init__ k_BadHome___init__).binds (ps := ["self", "part"]) fun _ _ _ _ _ _ us hl => match us, hl with | [_, _], _ => rfl,
    f_NotBare___init__ := f_NotBare___init__,
    fd_NotBare___init__ := PySem.W.fnOf "__init__" "NotBare.__init__" (defArgs s_NotBare___init__) (defBody s_NotBare___init__) (defScope s_NotBare___init__) .none kV_NotBare___init__ dc_NotBare___init__ pm_NotBare___init__ an_NotBare___init__ cd_NotBare___init__ ct_NotBare___init__,
    F_NotBare___init__ := fun_mk (st := s_NotBare___init__) l_NotBare___init__ c_NotBare___init__ k_NotBare___init__,
    b_NotBare___init__ := (fun_mk (st := s_NotBare___init__) l_NotBare___init__ c_NotBare___init__ k_NotBare___init__).binds (ps := ["self", "way"]) fun _ _ _ _ _ _ us hl => match us, hl with | [_, _], _ => rfl,
    f_BadCrews___init__ := f_BadCrews___init__,
    fd_BadCrews___init__ := PySem.W.fnOf "__init__" "BadCrews.__init__" (defArgs s_BadCrews___init__) (defBody s_BadCrews___init__) (defScope s_BadCrews___init__) .none kV_BadCrews___init__ dc_BadCrews___init__ pm_BadCrews___init__ an_BadCrews___init__ cd_BadCrews___init__ ct_BadCrews___init__,
    F_BadCrews___init__ := fun_mk (st := s_BadCrews___init__) l_BadCrews___init__ c_BadCrews___init__ k_BadCrews___init__,
    b_BadCrews___init__ := (fun_mk (st := s_BadCrews___init__) l_BadCrews___init__ c_BadCrews___init__ k_BadCrews___init__).binds (ps := ["self", "index"]) fun _ _ _ _ _ _ us hl => match us, hl with | [_, _], _ => rfl,
    f_Busy___init__ := f_Busy___init__,
    fd_Busy___init__ := PySem.W.fnOf "__init__" "Busy.__init__" (defArgs s_Busy___init__) (defBody s_Busy___init__) (defScope s_Busy___init__) .none kV_Busy___init__ dc_Busy___init__ pm_Busy___init__ an_Busy___init__ cd_Busy___init__ ct_Busy___init__,
    F_Busy___init__ := fun_mk (st := s_Busy___init__) l_Busy___init__ c_Busy___init__ k_Busy___init__,
    b_Busy___init__ := (fun_mk (st := s_Busy___init__) l_Busy___init__ c_Busy___init__ k_Busy___init__).binds (ps := ["self", "who"]) fun _ _ _ _ _ _ us hl => match us, hl with | [_, _], _ => rfl,
    f_Closes___init__ := f_Closes___init__,
    fd_Closes___init__ := PySem.W.fnOf "__init__" "Closes.__init__" (defArgs s_Closes___init__) (defBody s_Closes___init__) (defScope s_Closes___init__) .none kV_Closes___init__ dc_Closes___init__ pm_Closes___init__ an_Closes___init__ cd_Closes___init__ ct_Closes___init__,
    F_Closes___init__ := fun_mk (st := s_Closes___init__) l_Closes___init__ c_Closes___init__ k_Closes___init__,
    b_Closes___init__ := (fun_mk (st := s_Closes___init__) l_Closes___init__ c_Closes___init__ k_Closes___init__).binds (ps := ["self", "who"]) fun _ _ _ _ _ _ us hl => match us, hl with | [_, _], _ => rfl,
    f_TooMany___init__ := f_TooMany___init__,
    fd_TooMany___init__ := PySem.W.fnOf "__init__" "TooMany.__init__" (defArgs s_TooMany___init__) (defBody s_TooMany___init__) (defScope s_TooMany___init__) .none kV_TooMany___init__ dc_TooMany___init__ pm_TooMany___init__ an_TooMany___init__ cd_TooMany___init__ ct_TooMany___init__,
    F_TooMany___init__ := fun_mk (st := s_TooMany___init__) l_TooMany___init__ c_TooMany___init__ k_TooMany___init__,
    b_TooMany___init__ := (fun_mk (st := s_TooMany___init__) l_TooMany___init__ c_TooMany___init__ k_TooMany___init__).binds (ps := ["self", "most"]) fun _ _ _ _ _ _ us hl => match us, hl with | [_, _], _ => rfl,
    f__law_hand := f__law_hand,
    fd__law_hand := PySem.W.fnOf "_law_hand" "_law_hand" (defArgs s__law_hand) (defBody s__law_hand) (defScope s__law_hand) .none kV__law_hand dc__law_hand pm__law_hand an__law_hand cd__law_hand ct__law_hand,
    F__law_hand := fun_mk (st := s__law_hand) l__law_hand c__law_hand k__law_hand,
    b__law_hand := (fun_mk (st := s__law_hand) l__law_hand c__law_hand k__law_hand).binds (ps := ["_law_script"]) fun _ _ _ _ _ _ us hl => match us, hl with | [_], _ => rfl,
    g__law_hand := PySem.W.mg_of X G a__law_hand,
    f__law_draw := f__law_draw,
    fd__law_draw := PySem.W.fnOf "_law_draw" "_law_draw" (defArgs s__law_draw) (defBody s__law_draw) (defScope s__law_draw) .none kV__law_draw dc__law_draw pm__law_draw an__law_draw cd__law_draw ct__law_draw,
    F__law_draw := fun_mk (st := s__law_draw) l__law_draw c__law_draw k__law_draw,
    b__law_draw := (fun_mk (st := s__law_draw) l__law_draw c__law_draw k__law_draw).binds (ps := ["_law_hand_here", "_law_many"]) fun _ _ _ _ _ _ us hl => match us, hl with | [_, _], _ => rfl,
    g__law_draw := PySem.W.mg_of X G a__law_draw,
    f__law_deep := f__law_deep,
    fd__law_deep := PySem.W.fnOf "_law_deep" "_law_deep" (defArgs s__law_deep) (defBody s__law_deep) (defScope s__law_deep) .none kV__law_deep dc__law_deep pm__law_deep an__law_deep cd__law_deep ct__law_deep,
    F__law_deep := fun_mk (st := s__law_deep) l__law_deep c__law_deep k__law_deep,
    b__law_deep := (fun_mk (st := s__law_deep) l__law_deep c__law_deep k__law_deep).binds (ps := ["_law_hand_here"]) fun _ _ _ _ _ _ us hl => match us, hl with | [_], _ => rfl,
    g__law_deep := PySem.W.mg_of X G a__law_deep,
    f_law := f_law,
    fd_law := PySem.W.fnOf "law" "law" (defArgs s_law) (defBody s_law) (defScope s_law) .none kV_law dc_law pm_law an_law cd_law ct_law,
    F_law := fun_mk (st := s_law) l_law c_law k_law,
    b_law := (fun_mk (st := s_law) l_law c_law k_law).binds (ps := ["_law_script"]) fun _ _ _ _ _ _ us hl => match us, hl with | [_], _ => rfl,
    g_law := PySem.W.mg_of X G a_law,
    xi_Clash := xi_Clash,
    kp_Clash := kp_Clash,
    xi_Full := xi_Full,
    kp_Full := kp_Full,
    xi_NoArrow := xi_NoArrow,
    kp_NoArrow := kp_NoArrow,
    xi_NoCrew := xi_NoCrew,
    kp_NoCrew := kp_NoCrew,
    xi_NoFit := xi_NoFit,
    kp_NoFit := kp_NoFit,
    xi_NoHand := xi_NoHand,
    kp_NoHand := kp_NoHand,
    xi_NoHands := xi_NoHands,
    kp_NoHands := kp_NoHands,
    xi_NoLot := xi_NoLot,
    kp_NoLot := kp_NoLot,
    xi_NoNumber := xi_NoNumber,
    kp_NoNumber := kp_NoNumber,
    xi_NoOrder := xi_NoOrder,
    kp_NoOrder := kp_NoOrder,
    xi_NoSeen := xi_NoSeen,
    kp_NoSeen := kp_NoSeen,
    xi_NoStanding := xi_NoStanding,
    kp_NoStanding := kp_NoStanding,
    xi_NoText := xi_NoText,
    kp_NoText := kp_NoText,
    xi_NoThing := xi_NoThing,
    kp_NoThing := kp_NoThing,
    xi_NoThings := xi_NoThings,
    kp_NoThings := kp_NoThings,
    xi_NoTies := xi_NoTies,
    kp_NoTies := kp_NoTies,
    xi_NotNow := xi_NotNow,
    kp_NotNow := kp_NotNow,
    xi_NotSpined := xi_NotSpined,
    kp_NotSpined := kp_NotSpined,
    xi_NothingDone := xi_NothingDone,
    kp_NothingDone := kp_NothingDone,
    xi_Tied := xi_Tied,
    kp_Tied := kp_Tied,
    xo_BadCrews := oexB_ok tb_oBadCrews,
    xn_BadCrews := a_BadCrews___init__,
    xt_BadCrews := i_BadCrews___init__,
    xh_BadCrews := xh_BadCrews,
    xf_BadCrews := excB_xf tb_eBadCrews,
    xo_BadHome := oexB_ok tb_oBadHome,
    xn_BadHome := a_BadHome___init__,
    xt_BadHome := i_BadHome___init__,
    xh_BadHome := xh_BadHome,
    xf_BadHome := excB_xf tb_eBadHome,
    xo_Busy := oexB_ok tb_oBusy,
    xn_Busy := a_Busy___init__,
    xt_Busy := i_Busy___init__,
    xh_Busy := xh_Busy,
    xf_Busy := excB_xf tb_eBusy,
    xo_Closes := oexB_ok tb_oCloses,
    xn_Closes := a_Closes___init__,
    xt_Closes := i_Closes___init__,
    xh_Closes := xh_Closes,
    xf_Closes := excB_xf tb_eCloses,
    xo_NotBare := oexB_ok tb_oNotBare,
    xn_NotBare := a_NotBare___init__,
    xt_NotBare := i_NotBare___init__,
    xh_NotBare := xh_NotBare,
    xf_NotBare := excB_xf tb_eNotBare,
    xo_TooMany := oexB_ok tb_oTooMany,
    xn_TooMany := a_TooMany___init__,
    xt_TooMany := i_TooMany___init__,
    xh_TooMany := xh_TooMany,
    xf_TooMany := excB_xf tb_eTooMany,
    is_BadHome := isx_of [("BadHome", C_BadHome), ("NotBare", C_NotBare), ("BadCrews", C_BadCrews), ("Busy", C_Busy), ("Closes", C_Closes), ("TooMany", C_TooMany), ("NoLot", C_NoLot), ("NoStanding", C_NoStanding), ("NoThing", C_NoThing), ("NoThings", C_NoThings), ("NoOrder", C_NoOrder), ("NoArrow", C_NoArrow), ("NoHands", C_NoHands), ("NoNumber", C_NoNumber), ("NoTies", C_NoTies), ("NotSpined", C_NotSpined), ("NoSeen", C_NoSeen), ("NoFit", C_NoFit), ("NothingDone", C_NothingDone), ("NoCrew", C_NoCrew), ("NotNow", C_NotNow), ("NoHand", C_NoHand), ("Full", C_Full), ("Clash", C_Clash), ("Tied", C_Tied), ("NoText", C_NoText)] rfl hmem tb_all tb_iBadHome,
    is_NotBare := isx_of [("BadHome", C_BadHome), ("NotBare", C_NotBare), ("BadCrews", C_BadCrews), ("Busy", C_Busy), ("Closes", C_Closes), ("TooMany", C_TooMany), ("NoLot", C_NoLot), ("NoStanding", C_NoStanding), ("NoThing", C_NoThing), ("NoThings", C_NoThings), ("NoOrder", C_NoOrder), ("NoArrow", C_NoArrow), ("NoHands", C_NoHands), ("NoNumber", C_NoNumber), ("NoTies", C_NoTies), ("NotSpined", C_NotSpined), ("NoSeen", C_NoSeen), ("NoFit", C_NoFit), ("NothingDone", C_NothingDone), ("NoCrew", C_NoCrew), ("NotNow", C_NotNow), ("NoHand", C_NoHand), ("Full", C_Full), ("Clash", C_Clash), ("Tied", C_Tied), ("NoText", C_NoText)] rfl hmem tb_all tb_iNotBare,
    is_BadCrews := isx_of [("BadHome", C_BadHome), ("NotBare", C_NotBare), ("BadCrews", C_BadCrews), ("Busy", C_Busy), ("Closes", C_Closes), ("TooMany", C_TooMany), ("NoLot", C_NoLot), ("NoStanding", C_NoStanding), ("NoThing", C_NoThing), ("NoThings", C_NoThings), ("NoOrder", C_NoOrder), ("NoArrow", C_NoArrow), ("NoHands", C_NoHands), ("NoNumber", C_NoNumber), ("NoTies", C_NoTies), ("NotSpined", C_NotSpined), ("NoSeen", C_NoSeen), ("NoFit", C_NoFit), ("NothingDone", C_NothingDone), ("NoCrew", C_NoCrew), ("NotNow", C_NotNow), ("NoHand", C_NoHand), ("Full", C_Full), ("Clash", C_Clash), ("Tied", C_Tied), ("NoText", C_NoText)] rfl hmem tb_all tb_iBadCrews,
    is_Busy := isx_of [("BadHome", C_BadHome), ("NotBare", C_NotBare), ("BadCrews", C_BadCrews), ("Busy", C_Busy), ("Closes", C_Closes), ("TooMany", C_TooMany), ("NoLot", C_NoLot), ("NoStanding", C_NoStanding), ("NoThing", C_NoThing), ("NoThings", C_NoThings), ("NoOrder", C_NoOrder), ("NoArrow", C_NoArrow), ("NoHands", C_NoHands), ("NoNumber", C_NoNumber), ("NoTies", C_NoTies), ("NotSpined", C_NotSpined), ("NoSeen", C_NoSeen), ("NoFit", C_NoFit), ("NothingDone", C_NothingDone), ("NoCrew", C_NoCrew), ("NotNow", C_NotNow), ("NoHand", C_NoHand), ("Full", C_Full), ("Clash", C_Clash), ("Tied", C_Tied), ("NoText", C_NoText)] rfl hmem tb_all tb_iBusy,
    is_Closes := isx_of [("BadHome", C_BadHome), ("NotBare", C_NotBare), ("BadCrews", C_BadCrews), ("Busy", C_Busy), ("Closes", C_Closes), ("TooMany", C_TooMany), ("NoLot", C_NoLot), ("NoStanding", C_NoStanding), ("NoThing", C_NoThing), ("NoThings", C_NoThings), ("NoOrder", C_NoOrder), ("NoArrow", C_NoArrow), ("NoHands", C_NoHands), ("NoNumber", C_NoNumber), ("NoTies", C_NoTies), ("NotSpined", C_NotSpined), ("NoSeen", C_NoSeen), ("NoFit", C_NoFit), ("NothingDone", C_NothingDone), ("NoCrew", C_NoCrew), ("NotNow", C_NotNow), ("NoHand", C_NoHand), ("Full", C_Full), ("Clash", C_Clash), ("Tied", C_Tied), ("NoText", C_NoText)] rfl hmem tb_all tb_iCloses,
    is_TooMany := isx_of [("BadHome", C_BadHome), ("NotBare", C_NotBare), ("BadCrews", C_BadCrews), ("Busy", C_Busy), ("Closes", C_Closes), ("TooMany", C_TooMany), ("NoLot", C_NoLot), ("NoStanding", C_NoStanding), ("NoThing", C_NoThing), ("NoThings", C_NoThings), ("NoOrder", C_NoOrder), ("NoArrow", C_NoArrow), ("NoHands", C_NoHands), ("NoNumber", C_NoNumber), ("NoTies", C_NoTies), ("NotSpined", C_NotSpined), ("NoSeen", C_NoSeen), ("NoFit", C_NoFit), ("NothingDone", C_NothingDone), ("NoCrew", C_NoCrew), ("NotNow", C_NotNow), ("NoHand", C_NoHand), ("Full", C_Full), ("Clash", C_Clash), ("Tied", C_Tied), ("NoText", C_NoText)] rfl hmem tb_all tb_iTooMany,
    is_NoLot := isx_of [("BadHome", C_BadHome), ("NotBare", C_NotBare), ("BadCrews", C_BadCrews), ("Busy", C_Busy), ("Closes", C_Closes), ("TooMany", C_TooMany), ("NoLot", C_NoLot), ("NoStanding", C_NoStanding), ("NoThing", C_NoThing), ("NoThings", C_NoThings), ("NoOrder", C_NoOrder), ("NoArrow", C_NoArrow), ("NoHands", C_NoHands), ("NoNumber", C_NoNumber), ("NoTies", C_NoTies), ("NotSpined", C_NotSpined), ("NoSeen", C_NoSeen), ("NoFit", C_NoFit), ("NothingDone", C_NothingDone), ("NoCrew", C_NoCrew), ("NotNow", C_NotNow), ("NoHand", C_NoHand), ("Full", C_Full), ("Clash", C_Clash), ("Tied", C_Tied), ("NoText", C_NoText)] rfl hmem tb_all tb_iNoLot,
    is_NoStanding := isx_of [("BadHome", C_BadHome), ("NotBare", C_NotBare), ("BadCrews", C_BadCrews), ("Busy", C_Busy), ("Closes", C_Closes), ("TooMany", C_TooMany), ("NoLot", C_NoLot), ("NoStanding", C_NoStanding), ("NoThing", C_NoThing), ("NoThings", C_NoThings), ("NoOrder", C_NoOrder), ("NoArrow", C_NoArrow), ("NoHands", C_NoHands), ("NoNumber", C_NoNumber), ("NoTies", C_NoTies), ("NotSpined", C_NotSpined), ("NoSeen", C_NoSeen), ("NoFit", C_NoFit), ("NothingDone", C_NothingDone), ("NoCrew", C_NoCrew), ("NotNow", C_NotNow), ("NoHand", C_NoHand), ("Full", C_Full), ("Clash", C_Clash), ("Tied", C_Tied), ("NoText", C_NoText)] rfl hmem tb_all tb_iNoStanding,
    is_NoThing := isx_of [("BadHome", C_BadHome), ("NotBare", C_NotBare), ("BadCrews", C_BadCrews), ("Busy", C_Busy), ("Closes", C_Closes), ("TooMany", C_TooMany), ("NoLot", C_NoLot), ("NoStanding", C_NoStanding), ("NoThing", C_NoThing), ("NoThings", C_NoThings), ("NoOrder", C_NoOrder), ("NoArrow", C_NoArrow), ("NoHands", C_NoHands), ("NoNumber", C_NoNumber), ("NoTies", C_NoTies), ("NotSpined", C_NotSpined), ("NoSeen", C_NoSeen), ("NoFit", C_NoFit), ("NothingDone", C_NothingDone), ("NoCrew", C_NoCrew), ("NotNow", C_NotNow), ("NoHand", C_NoHand), ("Full", C_Full), ("Clash", C_Clash), ("Tied", C_Tied), ("NoText", C_NoText)] rfl hmem tb_all tb_iNoThing,
    is_NoThings := isx_of [("BadHome", C_BadHome), ("NotBare", C_NotBare), ("BadCrews", C_BadCrews), ("Busy", C_Busy), ("Closes", C_Closes), ("TooMany", C_TooMany), ("NoLot", C_NoLot), ("NoStanding", C_NoStanding), ("NoThing", C_NoThing), ("NoThings", C_NoThings), ("NoOrder", C_NoOrder), ("NoArrow", C_NoArrow), ("NoHands", C_NoHands), ("NoNumber", C_NoNumber), ("NoTies", C_NoTies), ("NotSpined", C_NotSpined), ("NoSeen", C_NoSeen), ("NoFit", C_NoFit), ("NothingDone", C_NothingDone), ("NoCrew", C_NoCrew), ("NotNow", C_NotNow), ("NoHand", C_NoHand), ("Full", C_Full), ("Clash", C_Clash), ("Tied", C_Tied), ("NoText", C_NoText)] rfl hmem tb_all tb_iNoThings,
    is_NoOrder := isx_of [("BadHome", C_BadHome), ("NotBare", C_NotBare), ("BadCrews", C_BadCrews), ("Busy", C_Busy), ("Closes", C_Closes), ("TooMany", C_TooMany), ("NoLot", C_NoLot), ("NoStanding", C_NoStanding), ("NoThing", C_NoThing), ("NoThings", C_NoThings), ("NoOrder", C_NoOrder), ("NoArrow", C_NoArrow), ("NoHands", C_NoHands), ("NoNumber", C_NoNumber), ("NoTies", C_NoTies), ("NotSpined", C_NotSpined), ("NoSeen", C_NoSeen), ("NoFit", C_NoFit), ("NothingDone", C_NothingDone), ("NoCrew", C_NoCrew), ("NotNow", C_NotNow), ("NoHand", C_NoHand), ("Full", C_Full), ("Clash", C_Clash), ("Tied", C_Tied), ("NoText", C_NoText)] rfl hmem tb_all tb_iNoOrder,
    is_NoArrow := isx_of [("BadHome", C_BadHome), ("NotBare", C_NotBare), ("BadCrews", C_BadCrews), ("Busy", C_Busy), ("Closes", C_Closes), ("TooMany", C_TooMany), ("NoLot", C_NoLot), ("NoStanding", C_NoStanding), ("NoThing", C_NoThing), ("NoThings", C_NoThings), ("NoOrder", C_NoOrder), ("NoArrow", C_NoArrow), ("NoHands", C_NoHands), ("NoNumber", C_NoNumber), ("NoTies", C_NoTies), ("NotSpined", C_NotSpined), ("NoSeen", C_NoSeen), ("NoFit", C_NoFit), ("NothingDone", C_NothingDone), ("NoCrew", C_NoCrew), ("NotNow", C_NotNow), ("NoHand", C_NoHand), ("Full", C_Full), ("Clash", C_Clash), ("Tied", C_Tied), ("NoText", C_NoText)] rfl hmem tb_all tb_iNoArrow,
    is_NoHands := isx_of [("BadHome", C_BadHome), ("NotBare", C_NotBare), ("BadCrews", C_BadCrews), ("Busy", C_Busy), ("Closes", C_Closes), ("TooMany", C_TooMany), ("NoLot", C_NoLot), ("NoStanding", C_NoStanding), ("NoThing", C_NoThing), ("NoThings", C_NoThings), ("NoOrder", C_NoOrder), ("NoArrow", C_NoArrow), ("NoHands", C_NoHands), ("NoNumber", C_NoNumber), ("NoTies", C_NoTies), ("NotSpined", C_NotSpined), ("NoSeen", C_NoSeen), ("NoFit", C_NoFit), ("NothingDone", C_NothingDone), ("NoCrew", C_NoCrew), ("NotNow", C_NotNow), ("NoHand", C_NoHand), ("Full", C_Full), ("Clash", C_Clash), ("Tied", C_Tied), ("NoText", C_NoText)] rfl hmem tb_all tb_iNoHands,
    is_NoNumber := isx_of [("BadHome", C_BadHome), ("NotBare", C_NotBare), ("BadCrews", C_BadCrews), ("Busy", C_Busy), ("Closes", C_Closes), ("TooMany", C_TooMany), ("NoLot", C_NoLot), ("NoStanding", C_NoStanding), ("NoThing", C_NoThing), ("NoThings", C_NoThings), ("NoOrder", C_NoOrder), ("NoArrow", C_NoArrow), ("NoHands", C_NoHands), ("NoNumber", C_NoNumber), ("NoTies", C_NoTies), ("NotSpined", C_NotSpined), ("NoSeen", C_NoSeen), ("NoFit", C_NoFit), ("NothingDone", C_NothingDone), ("NoCrew", C_NoCrew), ("NotNow", C_NotNow), ("NoHand", C_NoHand), ("Full", C_Full), ("Clash", C_Clash), ("Tied", C_Tied), ("NoText", C_NoText)] rfl hmem tb_all tb_iNoNumber,
    is_NoTies := isx_of [("BadHome", C_BadHome), ("NotBare", C_NotBare), ("BadCrews", C_BadCrews), ("Busy", C_Busy), ("Closes", C_Closes), ("TooMany", C_TooMany), ("NoLot", C_NoLot), ("NoStanding", C_NoStanding), ("NoThing", C_NoThing), ("NoThings", C_NoThings), ("NoOrder", C_NoOrder), ("NoArrow", C_NoArrow), ("NoHands", C_NoHands), ("NoNumber", C_NoNumber), ("NoTies", C_NoTies), ("NotSpined", C_NotSpined), ("NoSeen", C_NoSeen), ("NoFit", C_NoFit), ("NothingDone", C_NothingDone), ("NoCrew", C_NoCrew), ("NotNow", C_NotNow), ("NoHand", C_NoHand), ("Full", C_Full), ("Clash", C_Clash), ("Tied", C_Tied), ("NoText", C_NoText)] rfl hmem tb_all tb_iNoTies,
    is_NotSpined := isx_of [("BadHome", C_BadHome), ("NotBare", C_NotBare), ("BadCrews", C_BadCrews), ("Busy", C_Busy), ("Closes", C_Closes), ("TooMany", C_TooMany), ("NoLot", C_NoLot), ("NoStanding", C_NoStanding), ("NoThing", C_NoThing), ("NoThings", C_NoThings), ("NoOrder", C_NoOrder), ("NoArrow", C_NoArrow), ("NoHands", C_NoHands), ("NoNumber", C_NoNumber), ("NoTies", C_NoTies), ("NotSpined", C_NotSpined), ("NoSeen", C_NoSeen), ("NoFit", C_NoFit), ("NothingDone", C_NothingDone), ("NoCrew", C_NoCrew), ("NotNow", C_NotNow), ("NoHand", C_NoHand), ("Full", C_Full), ("Clash", C_Clash), ("Tied", C_Tied), ("NoText", C_NoText)] rfl hmem tb_all tb_iNotSpined,
    is_NoSeen := isx_of [("BadHome", C_BadHome), ("NotBare", C_NotBare), ("BadCrews", C_BadCrews), ("Busy", C_Busy), ("Closes", C_Closes), ("TooMany", C_TooMany), ("NoLot", C_NoLot), ("NoStanding", C_NoStanding), ("NoThing", C_NoThing), ("NoThings", C_NoThings), ("NoOrder", C_NoOrder), ("NoArrow", C_NoArrow), ("NoHands", C_NoHands), ("NoNumber", C_NoNumber), ("NoTies", C_NoTies), ("NotSpined", C_NotSpined), ("NoSeen", C_NoSeen), ("NoFit", C_NoFit), ("NothingDone", C_NothingDone), ("NoCrew", C_NoCrew), ("NotNow", C_NotNow), ("NoHand", C_NoHand), ("Full", C_Full), ("Clash", C_Clash), ("Tied", C_Tied), ("NoText", C_NoText)] rfl hmem tb_all tb_iNoSeen,
    is_NoFit := isx_of [("BadHome", C_BadHome), ("NotBare", C_NotBare), ("BadCrews", C_BadCrews), ("Busy", C_Busy), ("Closes", C_Closes), ("TooMany", C_TooMany), ("NoLot", C_NoLot), ("NoStanding", C_NoStanding), ("NoThing", C_NoThing), ("NoThings", C_NoThings), ("NoOrder", C_NoOrder), ("NoArrow", C_NoArrow), ("NoHands", C_NoHands), ("NoNumber", C_NoNumber), ("NoTies", C_NoTies), ("NotSpined", C_NotSpined), ("NoSeen", C_NoSeen), ("NoFit", C_NoFit), ("NothingDone", C_NothingDone), ("NoCrew", C_NoCrew), ("NotNow", C_NotNow), ("NoHand", C_NoHand), ("Full", C_Full), ("Clash", C_Clash), ("Tied", C_Tied), ("NoText", C_NoText)] rfl hmem tb_all tb_iNoFit,
    is_NothingDone := isx_of [("BadHome", C_BadHome), ("NotBare", C_NotBare), ("BadCrews", C_BadCrews), ("Busy", C_Busy), ("Closes", C_Closes), ("TooMany", C_TooMany), ("NoLot", C_NoLot), ("NoStanding", C_NoStanding), ("NoThing", C_NoThing), ("NoThings", C_NoThings), ("NoOrder", C_NoOrder), ("NoArrow", C_NoArrow), ("NoHands", C_NoHands), ("NoNumber", C_NoNumber), ("NoTies", C_NoTies), ("NotSpined", C_NotSpined), ("NoSeen", C_NoSeen), ("NoFit", C_NoFit), ("NothingDone", C_NothingDone), ("NoCrew", C_NoCrew), ("NotNow", C_NotNow), ("NoHand", C_NoHand), ("Full", C_Full), ("Clash", C_Clash), ("Tied", C_Tied), ("NoText", C_NoText)] rfl hmem tb_all tb_iNothingDone,
    is_NoCrew := isx_of [("BadHome", C_BadHome), ("NotBare", C_NotBare), ("BadCrews", C_BadCrews), ("Busy", C_Busy), ("Closes", C_Closes), ("TooMany", C_TooMany), ("NoLot", C_NoLot), ("NoStanding", C_NoStanding), ("NoThing", C_NoThing), ("NoThings", C_NoThings), ("NoOrder", C_NoOrder), ("NoArrow", C_NoArrow), ("NoHands", C_NoHands), ("NoNumber", C_NoNumber), ("NoTies", C_NoTies), ("NotSpined", C_NotSpined), ("NoSeen", C_NoSeen), ("NoFit", C_NoFit), ("NothingDone", C_NothingDone), ("NoCrew", C_NoCrew), ("NotNow", C_NotNow), ("NoHand", C_NoHand), ("Full", C_Full), ("Clash", C_Clash), ("Tied", C_Tied), ("NoText", C_NoText)] rfl hmem tb_all tb_iNoCrew,
    is_NotNow := isx_of [("BadHome", C_BadHome), ("NotBare", C_NotBare), ("BadCrews", C_BadCrews), ("Busy", C_Busy), ("Closes", C_Closes), ("TooMany", C_TooMany), ("NoLot", C_NoLot), ("NoStanding", C_NoStanding), ("NoThing", C_NoThing), ("NoThings", C_NoThings), ("NoOrder", C_NoOrder), ("NoArrow", C_NoArrow), ("NoHands", C_NoHands), ("NoNumber", C_NoNumber), ("NoTies", C_NoTies), ("NotSpined", C_NotSpined), ("NoSeen", C_NoSeen), ("NoFit", C_NoFit), ("NothingDone", C_NothingDone), ("NoCrew", C_NoCrew), ("NotNow", C_NotNow), ("NoHand", C_NoHand), ("Full", C_Full), ("Clash", C_Clash), ("Tied", C_Tied), ("NoText", C_NoText)] rfl hmem tb_all tb_iNotNow,
    is_NoHand := isx_of [("BadHome", C_BadHome), ("NotBare", C_NotBare), ("BadCrews", C_BadCrews), ("Busy", C_Busy), ("Closes", C_Closes), ("TooMany", C_TooMany), ("NoLot", C_NoLot), ("NoStanding", C_NoStanding), ("NoThing", C_NoThing), ("NoThings", C_NoThings), ("NoOrder", C_NoOrder), ("NoArrow", C_NoArrow), ("NoHands", C_NoHands), ("NoNumber", C_NoNumber), ("NoTies", C_NoTies), ("NotSpined", C_NotSpined), ("NoSeen", C_NoSeen), ("NoFit", C_NoFit), ("NothingDone", C_NothingDone), ("NoCrew", C_NoCrew), ("NotNow", C_NotNow), ("NoHand", C_NoHand), ("Full", C_Full), ("Clash", C_Clash), ("Tied", C_Tied), ("NoText", C_NoText)] rfl hmem tb_all tb_iNoHand,
    is_Full := isx_of [("BadHome", C_BadHome), ("NotBare", C_NotBare), ("BadCrews", C_BadCrews), ("Busy", C_Busy), ("Closes", C_Closes), ("TooMany", C_TooMany), ("NoLot", C_NoLot), ("NoStanding", C_NoStanding), ("NoThing", C_NoThing), ("NoThings", C_NoThings), ("NoOrder", C_NoOrder), ("NoArrow", C_NoArrow), ("NoHands", C_NoHands), ("NoNumber", C_NoNumber), ("NoTies", C_NoTies), ("NotSpined", C_NotSpined), ("NoSeen", C_NoSeen), ("NoFit", C_NoFit), ("NothingDone", C_NothingDone), ("NoCrew", C_NoCrew), ("NotNow", C_NotNow), ("NoHand", C_NoHand), ("Full", C_Full), ("Clash", C_Clash), ("Tied", C_Tied), ("NoText", C_NoText)] rfl hmem tb_all tb_iFull,
    is_Clash := isx_of [("BadHome", C_BadHome), ("NotBare", C_NotBare), ("BadCrews", C_BadCrews), ("Busy", C_Busy), ("Closes", C_Closes), ("TooMany", C_TooMany), ("NoLot", C_NoLot), ("NoStanding", C_NoStanding), ("NoThing", C_NoThing), ("NoThings", C_NoThings), ("NoOrder", C_NoOrder), ("NoArrow", C_NoArrow), ("NoHands", C_NoHands), ("NoNumber", C_NoNumber), ("NoTies", C_NoTies), ("NotSpined", C_NotSpined), ("NoSeen", C_NoSeen), ("NoFit", C_NoFit), ("NothingDone", C_NothingDone), ("NoCrew", C_NoCrew), ("NotNow", C_NotNow), ("NoHand", C_NoHand), ("Full", C_Full), ("Clash", C_Clash), ("Tied", C_Tied), ("NoText", C_NoText)] rfl hmem tb_all tb_iClash,
    is_Tied := isx_of [("BadHome", C_BadHome), ("NotBare", C_NotBare), ("BadCrews", C_BadCrews), ("Busy", C_Busy), ("Closes", C_Closes), ("TooMany", C_TooMany), ("NoLot", C_NoLot), ("NoStanding", C_NoStanding), ("NoThing", C_NoThing), ("NoThings", C_NoThings), ("NoOrder", C_NoOrder), ("NoArrow", C_NoArrow), ("NoHands", C_NoHands), ("NoNumber", C_NoNumber), ("NoTies", C_NoTies), ("NotSpined", C_NotSpined), ("NoSeen", C_NoSeen), ("NoFit", C_NoFit), ("NothingDone", C_NothingDone), ("NoCrew", C_NoCrew), ("NotNow", C_NotNow), ("NoHand", C_NoHand), ("Full", C_Full), ("Clash", C_Clash), ("Tied", C_Tied), ("NoText", C_NoText)] rfl hmem tb_all tb_iTied,
    is_NoText := isx_of [("BadHome", C_BadHome), ("NotBare", C_NotBare), ("BadCrews", C_BadCrews), ("Busy", C_Busy), ("Closes", C_Closes), ("TooMany", C_TooMany), ("NoLot", C_NoLot), ("NoStanding", C_NoStanding), ("NoThing", C_NoThing), ("NoThings", C_NoThings), ("NoOrder", C_NoOrder), ("NoArrow", C_NoArrow), ("NoHands", C_NoHands), ("NoNumber", C_NoNumber), ("NoTies", C_NoTies), ("NotSpined", C_NotSpined), ("NoSeen", C_NoSeen), ("NoFit", C_NoFit), ("NothingDone", C_NothingDone), ("NoCrew", C_NoCrew), ("NotNow", C_NotNow), ("NoHand", C_NoHand), ("Full", C_Full), ("Clash", C_Clash), ("Tied", C_Tied), ("NoText", C_NoText)] rfl hmem tb_all tb_iNoText,
    is_TurnError := isx_of [("BadHome", C_BadHome), ("NotBare", C_NotBare), ("BadCrews", C_BadCrews), ("Busy", C_Busy), ("Closes", C_Closes), ("TooMany", C_TooMany), ("NoLot", C_NoLot), ("NoStanding", C_NoStanding), ("NoThing", C_NoThing), ("NoThings", C_NoThings), ("NoOrder", C_NoOrder), ("NoArrow", C_NoArrow), ("NoHands", C_NoHands), ("NoNumber", C_NoNumber), ("NoTies", C_NoTies), ("NotSpined", C_NotSpined), ("NoSeen", C_NoSeen), ("NoFit", C_NoFit), ("NothingDone", C_NothingDone), ("NoCrew", C_NoCrew), ("NotNow", C_NotNow), ("NoHand", C_NoHand), ("Full", C_Full), ("Clash", C_Clash), ("Tied", C_Tied), ("NoText", C_NoText)] rfl hmem tb_all tb_iTurnError,
    is_ValueError := isx_of [("BadHome", C_BadHome), ("NotBare", C_NotBare), ("BadCrews", C_BadCrews), ("Busy", C_Busy), ("Closes", C_Closes), ("TooMany", C_TooMany), ("NoLot", C_NoLot), ("NoStanding", C_NoStanding), ("NoThing", C_NoThing), ("NoThings", C_NoThings), ("NoOrder", C_NoOrder), ("NoArrow", C_NoArrow), ("NoHands", C_NoHands), ("NoNumber", C_NoNumber), ("NoTies", C_NoTies), ("NotSpined", C_NotSpined), ("NoSeen", C_NoSeen), ("NoFit", C_NoFit), ("NothingDone", C_NothingDone), ("NoCrew", C_NoCrew), ("NotNow", C_NotNow), ("NoHand", C_NoHand), ("Full", C_Full), ("Clash", C_Clash), ("Tied", C_Tied), ("NoText", C_NoText)] rfl hmem tb_all tb_iValueError,
    z_ValueError := PySem.W.mg_none_of X G z_ValueError,
    z_abs := PySem.W.mg_none_of X G z_abs,
    z_any := PySem.W.mg_none_of X G z_any,
    z_bool := PySem.W.mg_none_of X G z_bool,
    z_int := PySem.W.mg_none_of X G z_int,
    z_isinstance := PySem.W.mg_none_of X G z_isinstance,
    z_len := PySem.W.mg_none_of X G z_len,
    z_range := PySem.W.mg_none_of X G z_range }
/-- what the law is worth -/
def spLaw (K : PySem.W.Frag) : Sp := fun vs H Q _ => ∃ (a : Addr) (ns : List Int), vs = [.ref a] ∧ SqL K H a (ns.map V.int) ∧ ns.length ≤ 63 ∧ ∀ H', Q (.bl true) H'
theorem law_ok {P : Program} {w : World} {K : PySem.W.Frag} {mg : Str → Option Value} {base : Heap} (T : Tx K mg) : FnOk P w K mg base (L2.CX P w) 3 T.f_law T.fd_law ["_law_script"] (spLaw K) :=
  (ok_law T).imp fun vs H Q E ⟨a, ns, e, hS, hl, hq⟩ => by
    subst e
    refine ⟨H, [.scr ns], rfl, rfl, ⟨Same.refl H, rfl, fun i d h => ?_, fun i d h => ?_, fun i j d d' p _ h => ?_⟩, ?_⟩
    · cases i with
      | zero => cases h; exact ⟨.ref a, rfl, .scr hS⟩
      | succ i => cases h
    · cases i with
      | zero => cases h
      | succ i => cases h
    · cases i with
      | zero => cases h
      | succ i => cases h
    · rw [run_law ns hl]
      intro F' H' v _ hr _
      cases hr
      exact hq H'
theorem all_mk {P : Program} {w : World} {K : PySem.W.Frag} {h : Heap} {mg : Str → Option Value} {fa : Addr} (X : K.In h) (G : h.Ns mainGlobals mg) (hfa : mg "law" = some (.ref fa))
    {C_BadCrews : Addr}
    {C_BadHome : Addr}
    {C_Busy : Addr}
    {C_Clash : Addr}
    {C_Closes : Addr}
    {C_Full : Addr}
    {C_NoArrow : Addr}
    {C_NoCrew : Addr}
    {C_NoFit : Addr}
    {C_NoHand : Addr}
    {C_NoHands : Addr}
    {C_NoLot : Addr}
    {C_NoNumber : Addr}
    {C_NoOrder : Addr}
    {C_NoSeen : Addr}
    {C_NoStanding : Addr}
    {C_NoText : Addr}
    {C_NoThing : Addr}
    {C_NoThings : Addr}
    {C_NoTies : Addr}
    {C_NotBare : Addr}
    {C_NotNow : Addr}
    {C_NotSpined : Addr}
    {C_NothingDone : Addr}
    {C_Tied : Addr}
    {C_TooMany : Addr}
    {C_TurnError : Addr}
    {f_BadHome___init__ : Addr} {od_BadHome___init__ an_BadHome___init__ : Option Addr} {sl_BadHome___init__ : Array (Option Value)} {oc_BadHome___init__ kV_BadHome___init__ dc_BadHome___init__ pm_BadHome___init__ cd_BadHome___init__ ct_BadHome___init__ : Value}
    {f_NotBare___init__ : Addr} {od_NotBare___init__ an_NotBare___init__ : Option Addr} {sl_NotBare___init__ : Array (Option Value)} {oc_NotBare___init__ kV_NotBare___init__ dc_NotBare___init__ pm_NotBare___init__ cd_NotBare___init__ ct_NotBare___init__ : Value}
    {f_BadCrews___init__ : Addr} {od_BadCrews___init__ an_BadCrews___init__ : Option Addr} {sl_BadCrews___init__ : Array (Option Value)} {oc_BadCrews___init__ kV_BadCrews___init__ dc_BadCrews___init__ pm_BadCrews___init__ cd_BadCrews___init__ ct_BadCrews___init__ : Value}
    {f_Busy___init__ : Addr} {od_Busy___init__ an_Busy___init__ : Option Addr} {sl_Busy___init__ : Array (Option Value)} {oc_Busy___init__ kV_Busy___init__ dc_Busy___init__ pm_Busy___init__ cd_Busy___init__ ct_Busy___init__ : Value}
    {f_Closes___init__ : Addr} {od_Closes___init__ an_Closes___init__ : Option Addr} {sl_Closes___init__ : Array (Option Value)} {oc_Closes___init__ kV_Closes___init__ dc_Closes___init__ pm_Closes___init__ cd_Closes___init__ ct_Closes___init__ : Value}
    {f_TooMany___init__ : Addr} {od_TooMany___init__ an_TooMany___init__ : Option Addr} {sl_TooMany___init__ : Array (Option Value)} {oc_TooMany___init__ kV_TooMany___init__ dc_TooMany___init__ pm_TooMany___init__ cd_TooMany___init__ ct_TooMany___init__ : Value}
    {f__law_hand : Addr} {od__law_hand an__law_hand : Option Addr} {sl__law_hand : Array (Option Value)} {oc__law_hand kV__law_hand dc__law_hand pm__law_hand cd__law_hand ct__law_hand : Value}
    {f__law_draw : Addr} {od__law_draw an__law_draw : Option Addr} {sl__law_draw : Array (Option Value)} {oc__law_draw kV__law_draw dc__law_draw pm__law_draw cd__law_draw ct__law_draw : Value}
    {f__law_deep : Addr} {od__law_deep an__law_deep : Option Addr} {sl__law_deep : Array (Option Value)} {oc__law_deep kV__law_deep dc__law_deep pm__law_deep cd__law_deep ct__law_deep : Value}
    {f_law : Addr} {od_law an_law : Option Addr} {sl_law : Array (Option Value)} {oc_law kV_law dc_law pm_law cd_law ct_law : Value}
    (a_BadCrews : PySem.W.nsIn K mainGlobals "BadCrews" = some (some (.ref C_BadCrews)))
    (a_BadHome : PySem.W.nsIn K mainGlobals "BadHome" = some (some (.ref C_BadHome)))
    (a_Busy : PySem.W.nsIn K mainGlobals "Busy" = some (some (.ref C_Busy)))
    (a_Clash : PySem.W.nsIn K mainGlobals "Clash" = some (some (.ref C_Clash)))
    (a_Closes : PySem.W.nsIn K mainGlobals "Closes" = some (some (.ref C_Closes)))
    (a_Full : PySem.W.nsIn K mainGlobals "Full" = some (some (.ref C_Full)))
    (a_NoArrow : PySem.W.nsIn K mainGlobals "NoArrow" = some (some (.ref C_NoArrow)))
    (a_NoCrew : PySem.W.nsIn K mainGlobals "NoCrew" = some (some (.ref C_NoCrew)))
    (a_NoFit : PySem.W.nsIn K mainGlobals "NoFit" = some (some (.ref C_NoFit)))
    (a_NoHand : PySem.W.nsIn K mainGlobals "NoHand" = some (some (.ref C_NoHand)))
    (a_NoHands : PySem.W.nsIn K mainGlobals "NoHands" = some (some (.ref C_NoHands)))
    (a_NoLot : PySem.W.nsIn K mainGlobals "NoLot" = some (some (.ref C_NoLot)))
    (a_NoNumber : PySem.W.nsIn K mainGlobals "NoNumber" = some (some (.ref C_NoNumber)))
    (a_NoOrder : PySem.W.nsIn K mainGlobals "NoOrder" = some (some (.ref C_NoOrder)))
    (a_NoSeen : PySem.W.nsIn K mainGlobals "NoSeen" = some (some (.ref C_NoSeen)))
    (a_NoStanding : PySem.W.nsIn K mainGlobals "NoStanding" = some (some (.ref C_NoStanding)))
    (a_NoText : PySem.W.nsIn K mainGlobals "NoText" = some (some (.ref C_NoText)))
    (a_NoThing : PySem.W.nsIn K mainGlobals "NoThing" = some (some (.ref C_NoThing)))
    (a_NoThings : PySem.W.nsIn K mainGlobals "NoThings" = some (some (.ref C_NoThings)))
    (a_NoTies : PySem.W.nsIn K mainGlobals "NoTies" = some (some (.ref C_NoTies)))
    (a_NotBare : PySem.W.nsIn K mainGlobals "NotBare" = some (some (.ref C_NotBare)))
    (a_NotNow : PySem.W.nsIn K mainGlobals "NotNow" = some (some (.ref C_NotNow)))
    (a_NotSpined : PySem.W.nsIn K mainGlobals "NotSpined" = some (some (.ref C_NotSpined)))
    (a_NothingDone : PySem.W.nsIn K mainGlobals "NothingDone" = some (some (.ref C_NothingDone)))
    (a_Tied : PySem.W.nsIn K mainGlobals "Tied" = some (some (.ref C_Tied)))
    (a_TooMany : PySem.W.nsIn K mainGlobals "TooMany" = some (some (.ref C_TooMany)))
    (a_TurnError : PySem.W.nsIn K mainGlobals "TurnError" = some (some (.ref C_TurnError)))
    (a_BadHome___init__ : PySem.W.findIn K (.ref C_BadHome) "__init__" = some (some (.ref f_BadHome___init__)))
    (i_BadHome___init__ : PySem.W.typeIn K (.ref f_BadHome___init__) = some (.type "function"))
    (l_BadHome___init__ : K.lookup f_BadHome___init__ = some ⟨oc_BadHome___init__, od_BadHome___init__, .func (PySem.W.fnOf "__init__" "BadHome.__init__" (defArgs s_BadHome___init__) (defBody s_BadHome___init__) (defScope s_BadHome___init__) .none kV_BadHome___init__ dc_BadHome___init__ pm_BadHome___init__ an_BadHome___init__ cd_BadHome___init__ ct_BadHome___init__), sl_BadHome___init__⟩)
    (c_BadHome___init__ : PySem.W.codeIn K cd_BadHome___init__ "BadHome.__init__" = true)
    (k_BadHome___init__ : PySem.W.keepIn K (.ref f_BadHome___init__) = true)
    (a_NotBare___init__ : PySem.W.findIn K (.ref C_NotBare) "__init__" = some (some (.ref f_NotBare___init__)))
    (i_NotBare___init__ : PySem.W.typeIn K (.ref f_NotBare___init__) = some (.type "function"))
    (l_NotBare___init__ : K.lookup f_NotBare___init__ = some ⟨oc_NotBare___init__, od_NotBare___init__, .func (PySem.W.fnOf "__init__" "NotBare.__init__" (defArgs s_NotBare___init__) (defBody s_NotBare___init__) (defScope s_NotBare___init__) .none kV_NotBare___init__ dc_NotBare___init__ pm_NotBare___init__ an_NotBare___init__ cd_NotBare___init__ ct_NotBare___init__), sl_NotBare___init__⟩)
    (c_NotBare___init__ : PySem.W.codeIn K cd_NotBare___init__ "NotBare.__init__" = true)
    (k_NotBare___init__ : PySem.W.keepIn K (.ref f_NotBare___init__) = true)
    (a_BadCrews___init__ : PySem.W.findIn K (.ref C_BadCrews) "__init__" = some (some (.ref f_BadCrews___init__)))
    (i_BadCrews___init__ : PySem.W.typeIn K (.ref f_BadCrews___init__) = some (.type "function"))
    (l_BadCrews___init__ : K.lookup f_BadCrews___init__ = some ⟨oc_BadCrews___init__, od_BadCrews___init__, .func (PySem.W.fnOf "__init__" "BadCrews.__init__" (defArgs s_BadCrews___init__) (defBody s_BadCrews___init__) (defScope s_BadCrews___init__) .none kV_BadCrews___init__ dc_BadCrews___init__ pm_BadCrews___init__ an_BadCrews___init__ cd_BadCrews___init__ ct_BadCrews___init__), sl_BadCrews___init__⟩)
    (c_BadCrews___init__ : PySem.W.codeIn K cd_BadCrews___init__ "BadCrews.__init__" = true)
    (k_BadCrews___init__ : PySem.W.keepIn K (.ref f_BadCrews___init__) = true)
    (a_Busy___init__ : PySem.W.findIn K (.ref C_Busy) "__init__" = some (some (.ref f_Busy___init__)))
    (i_Busy___init__ : PySem.W.typeIn K (.ref f_Busy___init__) = some (.type "function"))
    (l_Busy___init__ : K.lookup f_Busy___init__ = some ⟨oc_Busy___init__, od_Busy___init__, .func (PySem.W.fnOf "__init__" "Busy.__init__" (defArgs s_Busy___init__) (defBody s_Busy___init__) (defScope s_Busy___init__) .none kV_Busy___init__ dc_Busy___init__ pm_Busy___init__ an_Busy___init__ cd_Busy___init__ ct_Busy___init__), sl_Busy___init__⟩)
    (c_Busy___init__ : PySem.W.codeIn K cd_Busy___init__ "Busy.__init__" = true)
    (k_Busy___init__ : PySem.W.keepIn K (.ref f_Busy___init__) = true)
    (a_Closes___init__ : PySem.W.findIn K (.ref C_Closes) "__init__" = some (some (.ref f_Closes___init__)))
    (i_Closes___init__ : PySem.W.typeIn K (.ref f_Closes___init__) = some (.type "function"))
    (l_Closes___init__ : K.lookup f_Closes___init__ = some ⟨oc_Closes___init__, od_Closes___init__, .func (PySem.W.fnOf "__init__" "Closes.__init__" (defArgs s_Closes___init__) (defBody s_Closes___init__) (defScope s_Closes___init__) .none kV_Closes___init__ dc_Closes___init__ pm_Closes___init__ an_Closes___init__ cd_Closes___init__ ct_Closes___init__), sl_Closes___init__⟩)
    (c_Closes___init__ : PySem.W.codeIn K cd_Closes___init__ "Closes.__init__" = true)
    (k_Closes___init__ : PySem.W.keepIn K (.ref f_Closes___init__) = true)
    (a_TooMany___init__ : PySem.W.findIn K (.ref C_TooMany) "__init__" = some (some (.ref f_TooMany___init__)))
    (i_TooMany___init__ : PySem.W.typeIn K (.ref f_TooMany___init__) = some (.type "function"))
    (l_TooMany___init__ : K.lookup f_TooMany___init__ = some ⟨oc_TooMany___init__, od_TooMany___init__, .func (PySem.W.fnOf "__init__" "TooMany.__init__" (defArgs s_TooMany___init__) (defBody s_TooMany___init__) (defScope s_TooMany___init__) .none kV_TooMany___init__ dc_TooMany___init__ pm_TooMany___init__ an_TooMany___init__ cd_TooMany___init__ ct_TooMany___init__), sl_TooMany___init__⟩)
    (c_TooMany___init__ : PySem.W.codeIn K cd_TooMany___init__ "TooMany.__init__" = true)
    (k_TooMany___init__ : PySem.W.keepIn K (.ref f_TooMany___init__) = true)
    (a__law_hand : PySem.W.nsIn K mainGlobals "_law_hand" = some (some (.ref f__law_hand)))
    (l__law_hand : K.lookup f__law_hand = some ⟨oc__law_hand, od__law_hand, .func (PySem.W.fnOf "_law_hand" "_law_hand" (defArgs s__law_hand) (defBody s__law_hand) (defScope s__law_hand) .none kV__law_hand dc__law_hand pm__law_hand an__law_hand cd__law_hand ct__law_hand), sl__law_hand⟩)
    (c__law_hand : PySem.W.codeIn K cd__law_hand "_law_hand" = true)
    (k__law_hand : PySem.W.keepIn K (.ref f__law_hand) = true)
    (a__law_draw : PySem.W.nsIn K mainGlobals "_law_draw" = some (some (.ref f__law_draw)))
    (l__law_draw : K.lookup f__law_draw = some ⟨oc__law_draw, od__law_draw, .func (PySem.W.fnOf "_law_draw" "_law_draw" (defArgs s__law_draw) (defBody s__law_draw) (defScope s__law_draw) .none kV__law_draw dc__law_draw pm__law_draw an__law_draw cd__law_draw ct__law_draw), sl__law_draw⟩)
    (c__law_draw : PySem.W.codeIn K cd__law_draw "_law_draw" = true)
    (k__law_draw : PySem.W.keepIn K (.ref f__law_draw) = true)
    (a__law_deep : PySem.W.nsIn K mainGlobals "_law_deep" = some (some (.ref f__law_deep)))
    (l__law_deep : K.lookup f__law_deep = some ⟨oc__law_deep, od__law_deep, .func (PySem.W.fnOf "_law_deep" "_law_deep" (defArgs s__law_deep) (defBody s__law_deep) (defScope s__law_deep) .none kV__law_deep dc__law_deep pm__law_deep an__law_deep cd__law_deep ct__law_deep), sl__law_deep⟩)
    (c__law_deep : PySem.W.codeIn K cd__law_deep "_law_deep" = true)
    (k__law_deep : PySem.W.keepIn K (.ref f__law_deep) = true)
    (a_law : PySem.W.nsIn K mainGlobals "law" = some (some (.ref f_law)))
    (l_law : K.lookup f_law = some ⟨oc_law, od_law, .func (PySem.W.fnOf "law" "law" (defArgs s_law) (defBody s_law) (defScope s_law) .none kV_law dc_law pm_law an_law cd_law ct_law), sl_law⟩)
    (c_law : PySem.W.codeIn K cd_law "law" = true)
    (k_law : PySem.W.keepIn K (.ref f_law) = true)
    (xi_Clash : PySem.W.excIn K C_Clash [.type "ValueError", .type "Exception", .type "BaseException", .type "object"] "ValueError.__new__" = true)
    (kp_Clash : PySem.W.keepIn K (.ref C_Clash) = true)
    (xi_Full : PySem.W.excIn K C_Full [.type "ValueError", .type "Exception", .type "BaseException", .type "object"] "ValueError.__new__" = true)
    (kp_Full : PySem.W.keepIn K (.ref C_Full) = true)
    (xi_NoArrow : PySem.W.excIn K C_NoArrow [.type "ValueError", .type "Exception", .type "BaseException", .type "object"] "ValueError.__new__" = true)
    (kp_NoArrow : PySem.W.keepIn K (.ref C_NoArrow) = true)
    (xi_NoCrew : PySem.W.excIn K C_NoCrew [.type "ValueError", .type "Exception", .type "BaseException", .type "object"] "ValueError.__new__" = true)
    (kp_NoCrew : PySem.W.keepIn K (.ref C_NoCrew) = true)
    (xi_NoFit : PySem.W.excIn K C_NoFit [.type "ValueError", .type "Exception", .type "BaseException", .type "object"] "ValueError.__new__" = true)
    (kp_NoFit : PySem.W.keepIn K (.ref C_NoFit) = true)
    (xi_NoHand : PySem.W.excIn K C_NoHand [.type "ValueError", .type "Exception", .type "BaseException", .type "object"] "ValueError.__new__" = true)
    (kp_NoHand : PySem.W.keepIn K (.ref C_NoHand) = true)
    (xi_NoHands : PySem.W.excIn K C_NoHands [.type "ValueError", .type "Exception", .type "BaseException", .type "object"] "ValueError.__new__" = true)
    (kp_NoHands : PySem.W.keepIn K (.ref C_NoHands) = true)
    (xi_NoLot : PySem.W.excIn K C_NoLot [.type "ValueError", .type "Exception", .type "BaseException", .type "object"] "ValueError.__new__" = true)
    (kp_NoLot : PySem.W.keepIn K (.ref C_NoLot) = true)
    (xi_NoNumber : PySem.W.excIn K C_NoNumber [.type "ValueError", .type "Exception", .type "BaseException", .type "object"] "ValueError.__new__" = true)
    (kp_NoNumber : PySem.W.keepIn K (.ref C_NoNumber) = true)
    (xi_NoOrder : PySem.W.excIn K C_NoOrder [.type "ValueError", .type "Exception", .type "BaseException", .type "object"] "ValueError.__new__" = true)
    (kp_NoOrder : PySem.W.keepIn K (.ref C_NoOrder) = true)
    (xi_NoSeen : PySem.W.excIn K C_NoSeen [.type "ValueError", .type "Exception", .type "BaseException", .type "object"] "ValueError.__new__" = true)
    (kp_NoSeen : PySem.W.keepIn K (.ref C_NoSeen) = true)
    (xi_NoStanding : PySem.W.excIn K C_NoStanding [.type "ValueError", .type "Exception", .type "BaseException", .type "object"] "ValueError.__new__" = true)
    (kp_NoStanding : PySem.W.keepIn K (.ref C_NoStanding) = true)
    (xi_NoText : PySem.W.excIn K C_NoText [.type "ValueError", .type "Exception", .type "BaseException", .type "object"] "ValueError.__new__" = true)
    (kp_NoText : PySem.W.keepIn K (.ref C_NoText) = true)
    (xi_NoThing : PySem.W.excIn K C_NoThing [.type "ValueError", .type "Exception", .type "BaseException", .type "object"] "ValueError.__new__" = true)
    (kp_NoThing : PySem.W.keepIn K (.ref C_NoThing) = true)
    (xi_NoThings : PySem.W.excIn K C_NoThings [.type "ValueError", .type "Exception", .type "BaseException", .type "object"] "ValueError.__new__" = true)
    (kp_NoThings : PySem.W.keepIn K (.ref C_NoThings) = true)
    (xi_NoTies : PySem.W.excIn K C_NoTies [.type "ValueError", .type "Exception", .type "BaseException", .type "object"] "ValueError.__new__" = true)
    (kp_NoTies : PySem.W.keepIn K (.ref C_NoTies) = true)
    (xi_NotNow : PySem.W.excIn K C_NotNow [.type "ValueError", .type "Exception", .type "BaseException", .type "object"] "ValueError.__new__" = true)
    (kp_NotNow : PySem.W.keepIn K (.ref C_NotNow) = true)
    (xi_NotSpined : PySem.W.excIn K C_NotSpined [.type "ValueError", .type "Exception", .type "BaseException", .type "object"] "ValueError.__new__" = true)
    (kp_NotSpined : PySem.W.keepIn K (.ref C_NotSpined) = true)
    (xi_NothingDone : PySem.W.excIn K C_NothingDone [.type "ValueError", .type "Exception", .type "BaseException", .type "object"] "ValueError.__new__" = true)
    (kp_NothingDone : PySem.W.keepIn K (.ref C_NothingDone) = true)
    (xi_Tied : PySem.W.excIn K C_Tied [.type "ValueError", .type "Exception", .type "BaseException", .type "object"] "ValueError.__new__" = true)
    (kp_Tied : PySem.W.keepIn K (.ref C_Tied) = true)
    (tb_oBadCrews : oexB K C_BadCrews = true)
    (tb_eBadCrews : excB K C_BadCrews = true)
    (xh_BadCrews : PySem.W.findIn K (.ref C_BadCrews) "index" = some none)
    (tb_oBadHome : oexB K C_BadHome = true)
    (tb_eBadHome : excB K C_BadHome = true)
    (xh_BadHome : PySem.W.findIn K (.ref C_BadHome) "part" = some none)
    (tb_oBusy : oexB K C_Busy = true)
    (tb_eBusy : excB K C_Busy = true)
    (xh_Busy : PySem.W.findIn K (.ref C_Busy) "who" = some none)
    (tb_oCloses : oexB K C_Closes = true)
    (tb_eCloses : excB K C_Closes = true)
    (xh_Closes : PySem.W.findIn K (.ref C_Closes) "who" = some none)
    (tb_oNotBare : oexB K C_NotBare = true)
    (tb_eNotBare : excB K C_NotBare = true)
    (xh_NotBare : PySem.W.findIn K (.ref C_NotBare) "way" = some none)
    (tb_oTooMany : oexB K C_TooMany = true)
    (tb_eTooMany : excB K C_TooMany = true)
    (xh_TooMany : PySem.W.findIn K (.ref C_TooMany) "most" = some none)
    (tb_all : (([("BadHome", C_BadHome), ("NotBare", C_NotBare), ("BadCrews", C_BadCrews), ("Busy", C_Busy), ("Closes", C_Closes), ("TooMany", C_TooMany), ("NoLot", C_NoLot), ("NoStanding", C_NoStanding), ("NoThing", C_NoThing), ("NoThings", C_NoThings), ("NoOrder", C_NoOrder), ("NoArrow", C_NoArrow), ("NoHands", C_NoHands), ("NoNumber", C_NoNumber), ("NoTies", C_NoTies), ("NotSpined", C_NotSpined), ("NoSeen", C_NoSeen), ("NoFit", C_NoFit), ("NothingDone", C_NothingDone), ("NoCrew", C_NoCrew), ("NotNow", C_NotNow), ("NoHand", C_NoHand), ("Full", C_Full), ("Clash", C_Clash), ("Tied", C_Tied), ("NoText", C_NoText)] : List (Str × Addr)).all fun p => excB K p.2) = true)
    (tb_iBadHome : isxB K (.ref C_BadHome) (tbX "BadHome") [("BadHome", C_BadHome), ("NotBare", C_NotBare), ("BadCrews", C_BadCrews), ("Busy", C_Busy), ("Closes", C_Closes), ("TooMany", C_TooMany), ("NoLot", C_NoLot), ("NoStanding", C_NoStanding), ("NoThing", C_NoThing), ("NoThings", C_NoThings), ("NoOrder", C_NoOrder), ("NoArrow", C_NoArrow), ("NoHands", C_NoHands), ("NoNumber", C_NoNumber), ("NoTies", C_NoTies), ("NotSpined", C_NotSpined), ("NoSeen", C_NoSeen), ("NoFit", C_NoFit), ("NothingDone", C_NothingDone), ("NoCrew", C_NoCrew), ("NotNow", C_NotNow), ("NoHand", C_NoHand), ("Full", C_Full), ("Clash", C_Clash), ("Tied", C_Tied), ("NoText", C_NoText)] = true)
    (tb_iNotBare : isxB K (.ref C_NotBare) (tbX "NotBare") [("BadHome", C_BadHome), ("NotBare", C_NotBare), ("BadCrews", C_BadCrews), ("Busy", C_Busy), ("Closes", C_Closes), ("TooMany", C_TooMany), ("NoLot", C_NoLot), ("NoStanding", C_NoStanding), ("NoThing", C_NoThing), ("NoThings", C_NoThings), ("NoOrder", C_NoOrder), ("NoArrow", C_NoArrow), ("NoHands", C_NoHands), ("NoNumber", C_NoNumber), ("NoTies", C_NoTies), ("NotSpined", C_NotSpined), ("NoSeen", C_NoSeen), ("NoFit", C_NoFit), ("NothingDone", C_NothingDone), ("NoCrew", C_NoCrew), ("NotNow", C_NotNow), ("NoHand", C_NoHand), ("Full", C_Full), ("Clash", C_Clash), ("Tied", C_Tied), ("NoText", C_NoText)] = true)
    (tb_iBadCrews : isxB K (.ref C_BadCrews) (tbX "BadCrews") [("BadHome", C_BadHome), ("NotBare", C_NotBare), ("BadCrews", C_BadCrews), ("Busy", C_Busy), ("Closes", C_Closes), ("TooMany", C_TooMany), ("NoLot", C_NoLot), ("NoStanding", C_NoStanding), ("NoThing", C_NoThing), ("NoThings", C_NoThings), ("NoOrder", C_NoOrder), ("NoArrow", C_NoArrow), ("NoHands", C_NoHands), ("NoNumber", C_NoNumber), ("NoTies", C_NoTies), ("NotSpined", C_NotSpined), ("NoSeen", C_NoSeen), ("NoFit", C_NoFit), ("NothingDone", C_NothingDone), ("NoCrew", C_NoCrew), ("NotNow", C_NotNow), ("NoHand", C_NoHand), ("Full", C_Full), ("Clash", C_Clash), ("Tied", C_Tied), ("NoText", C_NoText)] = true)
    (tb_iBusy : isxB K (.ref C_Busy) (tbX "Busy") [("BadHome", C_BadHome), ("NotBare", C_NotBare), ("BadCrews", C_BadCrews), ("Busy", C_Busy), ("Closes", C_Closes), ("TooMany", C_TooMany), ("NoLot", C_NoLot), ("NoStanding", C_NoStanding), ("NoThing", C_NoThing), ("NoThings", C_NoThings), ("NoOrder", C_NoOrder), ("NoArrow", C_NoArrow), ("NoHands", C_NoHands), ("NoNumber", C_NoNumber), ("NoTies", C_NoTies), ("NotSpined", C_NotSpined), ("NoSeen", C_NoSeen), ("NoFit", C_NoFit), ("NothingDone", C_NothingDone), ("NoCrew", C_NoCrew), ("NotNow", C_NotNow), ("NoHand", C_NoHand), ("Full", C_Full), ("Clash", C_Clash), ("Tied", C_Tied), ("NoText", C_NoText)] = true)
    (tb_iCloses : isxB K (.ref C_Closes) (tbX "Closes") [("BadHome", C_BadHome), ("NotBare", C_NotBare), ("BadCrews", C_BadCrews), ("Busy", C_Busy), ("Closes", C_Closes), ("TooMany", C_TooMany), ("NoLot", C_NoLot), ("NoStanding", C_NoStanding), ("NoThing", C_NoThing), ("NoThings", C_NoThings), ("NoOrder", C_NoOrder), ("NoArrow", C_NoArrow), ("NoHands", C_NoHands), ("NoNumber", C_NoNumber), ("NoTies", C_NoTies), ("NotSpined", C_NotSpined), ("NoSeen", C_NoSeen), ("NoFit", C_NoFit), ("NothingDone", C_NothingDone), ("NoCrew", C_NoCrew), ("NotNow", C_NotNow), ("NoHand", C_NoHand), ("Full", C_Full), ("Clash", C_Clash), ("Tied", C_Tied), ("NoText", C_NoText)] = true)
    (tb_iTooMany : isxB K (.ref C_TooMany) (tbX "TooMany") [("BadHome", C_BadHome), ("NotBare", C_NotBare), ("BadCrews", C_BadCrews), ("Busy", C_Busy), ("Closes", C_Closes), ("TooMany", C_TooMany), ("NoLot", C_NoLot), ("NoStanding", C_NoStanding), ("NoThing", C_NoThing), ("NoThings", C_NoThings), ("NoOrder", C_NoOrder), ("NoArrow", C_NoArrow), ("NoHands", C_NoHands), ("NoNumber", C_NoNumber), ("NoTies", C_NoTies), ("NotSpined", C_NotSpined), ("NoSeen", C_NoSeen), ("NoFit", C_NoFit), ("NothingDone", C_NothingDone), ("NoCrew", C_NoCrew), ("NotNow", C_NotNow), ("NoHand", C_NoHand), ("Full", C_Full), ("Clash", C_Clash), ("Tied", C_Tied), ("NoText", C_NoText)] = true)
    (tb_iNoLot : isxB K (.ref C_NoLot) (tbX "NoLot") [("BadHome", C_BadHome), ("NotBare", C_NotBare), ("BadCrews", C_BadCrews), ("Busy", C_Busy), ("Closes", C_Closes), ("TooMany", C_TooMany), ("NoLot", C_NoLot), ("NoStanding", C_NoStanding), ("NoThing", C_NoThing), ("NoThings", C_NoThings), ("NoOrder", C_NoOrder), ("NoArrow", C_NoArrow), ("NoHands", C_NoHands), ("NoNumber", C_NoNumber), ("NoTies", C_NoTies), ("NotSpined", C_NotSpined), ("NoSeen", C_NoSeen), ("NoFit", C_NoFit), ("NothingDone", C_NothingDone), ("NoCrew", C_NoCrew), ("NotNow", C_NotNow), ("NoHand", C_NoHand), ("Full", C_Full), ("Clash", C_Clash), ("Tied", C_Tied), ("NoText", C_NoText)] = true)
    (tb_iNoStanding : isxB K (.ref C_NoStanding) (tbX "NoStanding") [("BadHome", C_BadHome), ("NotBare", C_NotBare), ("BadCrews", C_BadCrews), ("Busy", C_Busy), ("Closes", C_Closes), ("TooMany", C_TooMany), ("NoLot", C_NoLot), ("NoStanding", C_NoStanding), ("NoThing", C_NoThing), ("NoThings", C_NoThings), ("NoOrder", C_NoOrder), ("NoArrow", C_NoArrow), ("NoHands", C_NoHands), ("NoNumber", C_NoNumber), ("NoTies", C_NoTies), ("NotSpined", C_NotSpined), ("NoSeen", C_NoSeen), ("NoFit", C_NoFit), ("NothingDone", C_NothingDone), ("NoCrew", C_NoCrew), ("NotNow", C_NotNow), ("NoHand", C_NoHand), ("Full", C_Full), ("Clash", C_Clash), ("Tied", C_Tied), ("NoText", C_NoText)] = true)
    (tb_iNoThing : isxB K (.ref C_NoThing) (tbX "NoThing") [("BadHome", C_BadHome), ("NotBare", C_NotBare), ("BadCrews", C_BadCrews), ("Busy", C_Busy), ("Closes", C_Closes), ("TooMany", C_TooMany), ("NoLot", C_NoLot), ("NoStanding", C_NoStanding), ("NoThing", C_NoThing), ("NoThings", C_NoThings), ("NoOrder", C_NoOrder), ("NoArrow", C_NoArrow), ("NoHands", C_NoHands), ("NoNumber", C_NoNumber), ("NoTies", C_NoTies), ("NotSpined", C_NotSpined), ("NoSeen", C_NoSeen), ("NoFit", C_NoFit), ("NothingDone", C_NothingDone), ("NoCrew", C_NoCrew), ("NotNow", C_NotNow), ("NoHand", C_NoHand), ("Full", C_Full), ("Clash", C_Clash), ("Tied", C_Tied), ("NoText", C_NoText)] = true)
    (tb_iNoThings : isxB K (.ref C_NoThings) (tbX "NoThings") [("BadHome", C_BadHome), ("NotBare", C_NotBare), ("BadCrews", C_BadCrews), ("Busy", C_Busy), ("Closes", C_Closes), ("TooMany", C_TooMany), ("NoLot", C_NoLot), ("NoStanding", C_NoStanding), ("NoThing", C_NoThing), ("NoThings", C_NoThings), ("NoOrder", C_NoOrder), ("NoArrow", C_NoArrow), ("NoHands", C_NoHands), ("NoNumber", C_NoNumber), ("NoTies", C_NoTies), ("NotSpined", C_NotSpined), ("NoSeen", C_NoSeen), ("NoFit", C_NoFit), ("NothingDone", C_NothingDone), ("NoCrew", C_NoCrew), ("NotNow", C_NotNow), ("NoHand", C_NoHand), ("Full", C_Full), ("Clash", C_Clash), ("Tied", C_Tied), ("NoText", C_NoText)] = true)
    (tb_iNoOrder : isxB K (.ref C_NoOrder) (tbX "NoOrder") [("BadHome", C_BadHome), ("NotBare", C_NotBare), ("BadCrews", C_BadCrews), ("Busy", C_Busy), ("Closes", C_Closes), ("TooMany", C_TooMany), ("NoLot", C_NoLot), ("NoStanding", C_NoStanding), ("NoThing", C_NoThing), ("NoThings", C_NoThings), ("NoOrder", C_NoOrder), ("NoArrow", C_NoArrow), ("NoHands", C_NoHands), ("NoNumber", C_NoNumber), ("NoTies", C_NoTies), ("NotSpined", C_NotSpined), ("NoSeen", C_NoSeen), ("NoFit", C_NoFit), ("NothingDone", C_NothingDone), ("NoCrew", C_NoCrew), ("NotNow", C_NotNow), ("NoHand", C_NoHand), ("Full", C_Full), ("Clash", C_Clash), ("Tied", C_Tied), ("NoText", C_NoText)] = true)
    (tb_iNoArrow : isxB K (.ref C_NoArrow) (tbX "NoArrow") [("BadHome", C_BadHome), ("NotBare", C_NotBare), ("BadCrews", C_BadCrews), ("Busy", C_Busy), ("Closes", C_Closes), ("TooMany", C_TooMany), ("NoLot", C_NoLot), ("NoStanding", C_NoStanding), ("NoThing", C_NoThing), ("NoThings", C_NoThings), ("NoOrder", C_NoOrder), ("NoArrow", C_NoArrow), ("NoHands", C_NoHands), ("NoNumber", C_NoNumber), ("NoTies", C_NoTies), ("NotSpined", C_NotSpined), ("NoSeen", C_NoSeen), ("NoFit", C_NoFit), ("NothingDone", C_NothingDone), ("NoCrew", C_NoCrew), ("NotNow", C_NotNow), ("NoHand", C_NoHand), ("Full", C_Full), ("Clash", C_Clash), ("Tied", C_Tied), ("NoText", C_NoText)] = true)
    (tb_iNoHands : isxB K (.ref C_NoHands) (tbX "NoHands") [("BadHome", C_BadHome), ("NotBare", C_NotBare), ("BadCrews", C_BadCrews), ("Busy", C_Busy), ("Closes", C_Closes), ("TooMany", C_TooMany), ("NoLot", C_NoLot), ("NoStanding", C_NoStanding), ("NoThing", C_NoThing), ("NoThings", C_NoThings), ("NoOrder", C_NoOrder), ("NoArrow", C_NoArrow), ("NoHands", C_NoHands), ("NoNumber", C_NoNumber), ("NoTies", C_NoTies), ("NotSpined", C_NotSpined), ("NoSeen", C_NoSeen), ("NoFit", C_NoFit), ("NothingDone", C_NothingDone), ("NoCrew", C_NoCrew), ("NotNow", C_NotNow), ("NoHand", C_NoHand), ("Full", C_Full), ("Clash", C_Clash), ("Tied", C_Tied), ("NoText", C_NoText)] = true)
    (tb_iNoNumber : isxB K (.ref C_NoNumber) (tbX "NoNumber") [("BadHome", C_BadHome), ("NotBare", C_NotBare), ("BadCrews", C_BadCrews), ("Busy", C_Busy), ("Closes", C_Closes), ("TooMany", C_TooMany), ("NoLot", C_NoLot), ("NoStanding", C_NoStanding), ("NoThing", C_NoThing), ("NoThings", C_NoThings), ("NoOrder", C_NoOrder), ("NoArrow", C_NoArrow), ("NoHands", C_NoHands), ("NoNumber", C_NoNumber), ("NoTies", C_NoTies), ("NotSpined", C_NotSpined), ("NoSeen", C_NoSeen), ("NoFit", C_NoFit), ("NothingDone", C_NothingDone), ("NoCrew", C_NoCrew), ("NotNow", C_NotNow), ("NoHand", C_NoHand), ("Full", C_Full), ("Clash", C_Clash), ("Tied", C_Tied), ("NoText", C_NoText)] = true)
    (tb_iNoTies : isxB K (.ref C_NoTies) (tbX "NoTies") [("BadHome", C_BadHome), ("NotBare", C_NotBare), ("BadCrews", C_BadCrews), ("Busy", C_Busy), ("Closes", C_Closes), ("TooMany", C_TooMany), ("NoLot", C_NoLot), ("NoStanding", C_NoStanding), ("NoThing", C_NoThing), ("NoThings", C_NoThings), ("NoOrder", C_NoOrder), ("NoArrow", C_NoArrow), ("NoHands", C_NoHands), ("NoNumber", C_NoNumber), ("NoTies", C_NoTies), ("NotSpined", C_NotSpined), ("NoSeen", C_NoSeen), ("NoFit", C_NoFit), ("NothingDone", C_NothingDone), ("NoCrew", C_NoCrew), ("NotNow", C_NotNow), ("NoHand", C_NoHand), ("Full", C_Full), ("Clash", C_Clash), ("Tied", C_Tied), ("NoText", C_NoText)] = true)
    (tb_iNotSpined : isxB K (.ref C_NotSpined) (tbX "NotSpined") [("BadHome", C_BadHome), ("NotBare", C_NotBare), ("BadCrews", C_BadCrews), ("Busy", C_Busy), ("Closes", C_Closes), ("TooMany", C_TooMany), ("NoLot", C_NoLot), ("NoStanding", C_NoStanding), ("NoThing", C_NoThing), ("NoThings", C_NoThings), ("NoOrder", C_NoOrder), ("NoArrow", C_NoArrow), ("NoHands", C_NoHands), ("NoNumber", C_NoNumber), ("NoTies", C_NoTies), ("NotSpined", C_NotSpined), ("NoSeen", C_NoSeen), ("NoFit", C_NoFit), ("NothingDone", C_NothingDone), ("NoCrew", C_NoCrew), ("NotNow", C_NotNow), ("NoHand", C_NoHand), ("Full", C_Full), ("Clash", C_Clash), ("Tied", C_Tied), ("NoText", C_NoText)] = true)
    (tb_iNoSeen : isxB K (.ref C_NoSeen) (tbX "NoSeen") [("BadHome", C_BadHome), ("NotBare", C_NotBare), ("BadCrews", C_BadCrews), ("Busy", C_Busy), ("Closes", C_Closes), ("TooMany", C_TooMany), ("NoLot", C_NoLot), ("NoStanding", C_NoStanding), ("NoThing", C_NoThing), ("NoThings", C_NoThings), ("NoOrder", C_NoOrder), ("NoArrow", C_NoArrow), ("NoHands", C_NoHands), ("NoNumber", C_NoNumber), ("NoTies", C_NoTies), ("NotSpined", C_NotSpined), ("NoSeen", C_NoSeen), ("NoFit", C_NoFit), ("NothingDone", C_NothingDone), ("NoCrew", C_NoCrew), ("NotNow", C_NotNow), ("NoHand", C_NoHand), ("Full", C_Full), ("Clash", C_Clash), ("Tied", C_Tied), ("NoText", C_NoText)] = true)
    (tb_iNoFit : isxB K (.ref C_NoFit) (tbX "NoFit") [("BadHome", C_BadHome), ("NotBare", C_NotBare), ("BadCrews", C_BadCrews), ("Busy", C_Busy), ("Closes", C_Closes), ("TooMany", C_TooMany), ("NoLot", C_NoLot), ("NoStanding", C_NoStanding), ("NoThing", C_NoThing), ("NoThings", C_NoThings), ("NoOrder", C_NoOrder), ("NoArrow", C_NoArrow), ("NoHands", C_NoHands), ("NoNumber", C_NoNumber), ("NoTies", C_NoTies), ("NotSpined", C_NotSpined), ("NoSeen", C_NoSeen), ("NoFit", C_NoFit), ("NothingDone", C_NothingDone), ("NoCrew", C_NoCrew), ("NotNow", C_NotNow), ("NoHand", C_NoHand), ("Full", C_Full), ("Clash", C_Clash), ("Tied", C_Tied), ("NoText", C_NoText)] = true)
    (tb_iNothingDone : isxB K (.ref C_NothingDone) (tbX "NothingDone") [("BadHome", C_BadHome), ("NotBare", C_NotBare), ("BadCrews", C_BadCrews), ("Busy", C_Busy), ("Closes", C_Closes), ("TooMany", C_TooMany), ("NoLot", C_NoLot), ("NoStanding", C_NoStanding), ("NoThing", C_NoThing), ("NoThings", C_NoThings), ("NoOrder", C_NoOrder), ("NoArrow", C_NoArrow), ("NoHands", C_NoHands), ("NoNumber", C_NoNumber), ("NoTies", C_NoTies), ("NotSpined", C_NotSpined), ("NoSeen", C_NoSeen), ("NoFit", C_NoFit), ("NothingDone", C_NothingDone), ("NoCrew", C_NoCrew), ("NotNow", C_NotNow), ("NoHand", C_NoHand), ("Full", C_Full), ("Clash", C_Clash), ("Tied", C_Tied), ("NoText", C_NoText)] = true)
    (tb_iNoCrew : isxB K (.ref C_NoCrew) (tbX "NoCrew") [("BadHome", C_BadHome), ("NotBare", C_NotBare), ("BadCrews", C_BadCrews), ("Busy", C_Busy), ("Closes", C_Closes), ("TooMany", C_TooMany), ("NoLot", C_NoLot), ("NoStanding", C_NoStanding), ("NoThing", C_NoThing), ("NoThings", C_NoThings), ("NoOrder", C_NoOrder), ("NoArrow", C_NoArrow), ("NoHands", C_NoHands), ("NoNumber", C_NoNumber), ("NoTies", C_NoTies), ("NotSpined", C_NotSpined), ("NoSeen", C_NoSeen), ("NoFit", C_NoFit), ("NothingDone", C_NothingDone), ("NoCrew", C_NoCrew), ("NotNow", C_NotNow), ("NoHand", C_NoHand), ("Full", C_Full), ("Clash", C_Clash), ("Tied", C_Tied), ("NoText", C_NoText)] = true)
    (tb_iNotNow : isxB K (.ref C_NotNow) (tbX "NotNow") [("BadHome", C_BadHome), ("NotBare", C_NotBare), ("BadCrews", C_BadCrews), ("Busy", C_Busy), ("Closes", C_Closes), ("TooMany", C_TooMany), ("NoLot", C_NoLot), ("NoStanding", C_NoStanding), ("NoThing", C_NoThing), ("NoThings", C_NoThings), ("NoOrder", C_NoOrder), ("NoArrow", C_NoArrow), ("NoHands", C_NoHands), ("NoNumber", C_NoNumber), ("NoTies", C_NoTies), ("NotSpined", C_NotSpined), ("NoSeen", C_NoSeen), ("NoFit", C_NoFit), ("NothingDone", C_NothingDone), ("NoCrew", C_NoCrew), ("NotNow", C_NotNow), ("NoHand", C_NoHand), ("Full", C_Full), ("Clash", C_Clash), ("Tied", C_Tied), ("NoText", C_NoText)] = true)
    (tb_iNoHand : isxB K (.ref C_NoHand) (tbX "NoHand") [("BadHome", C_BadHome), ("NotBare", C_NotBare), ("BadCrews", C_BadCrews), ("Busy", C_Busy), ("Closes", C_Closes), ("TooMany", C_TooMany), ("NoLot", C_NoLot), ("NoStanding", C_NoStanding), ("NoThing", C_NoThing), ("NoThings", C_NoThings), ("NoOrder", C_NoOrder), ("NoArrow", C_NoArrow), ("NoHands", C_NoHands), ("NoNumber", C_NoNumber), ("NoTies", C_NoTies), ("NotSpined", C_NotSpined), ("NoSeen", C_NoSeen), ("NoFit", C_NoFit), ("NothingDone", C_NothingDone), ("NoCrew", C_NoCrew), ("NotNow", C_NotNow), ("NoHand", C_NoHand), ("Full", C_Full), ("Clash", C_Clash), ("Tied", C_Tied), ("NoText", C_NoText)] = true)
    (tb_iFull : isxB K (.ref C_Full) (tbX "Full") [("BadHome", C_BadHome), ("NotBare", C_NotBare), ("BadCrews", C_BadCrews), ("Busy", C_Busy), ("Closes", C_Closes), ("TooMany", C_TooMany), ("NoLot", C_NoLot), ("NoStanding", C_NoStanding), ("NoThing", C_NoThing), ("NoThings", C_NoThings), ("NoOrder", C_NoOrder), ("NoArrow", C_NoArrow), ("NoHands", C_NoHands), ("NoNumber", C_NoNumber), ("NoTies", C_NoTies), ("NotSpined", C_NotSpined), ("NoSeen", C_NoSeen), ("NoFit", C_NoFit), ("NothingDone", C_NothingDone), ("NoCrew", C_NoCrew), ("NotNow", C_NotNow), ("NoHand", C_NoHand), ("Full", C_Full), ("Clash", C_Clash), ("Tied", C_Tied), ("NoText", C_NoText)] = true)
    (tb_iClash : isxB K (.ref C_Clash) (tbX "Clash") [("BadHome", C_BadHome), ("NotBare", C_NotBare), ("BadCrews", C_BadCrews), ("Busy", C_Busy), ("Closes", C_Closes), ("TooMany", C_TooMany), ("NoLot", C_NoLot), ("NoStanding", C_NoStanding), ("NoThing", C_NoThing), ("NoThings", C_NoThings), ("NoOrder", C_NoOrder), ("NoArrow", C_NoArrow), ("NoHands", C_NoHands), ("NoNumber", C_NoNumber), ("NoTies", C_NoTies), ("NotSpined", C_NotSpined), ("NoSeen", C_NoSeen), ("NoFit", C_NoFit), ("NothingDone", C_NothingDone), ("NoCrew", C_NoCrew), ("NotNow", C_NotNow), ("NoHand", C_NoHand), ("Full", C_Full), ("Clash", C_Clash), ("Tied", C_Tied), ("NoText", C_NoText)] = true)
    (tb_iTied : isxB K (.ref C_Tied) (tbX "Tied") [("BadHome", C_BadHome), ("NotBare", C_NotBare), ("BadCrews", C_BadCrews), ("Busy", C_Busy), ("Closes", C_Closes), ("TooMany", C_TooMany), ("NoLot", C_NoLot), ("NoStanding", C_NoStanding), ("NoThing", C_NoThing), ("NoThings", C_NoThings), ("NoOrder", C_NoOrder), ("NoArrow", C_NoArrow), ("NoHands", C_NoHands), ("NoNumber", C_NoNumber), ("NoTies", C_NoTies), ("NotSpined", C_NotSpined), ("NoSeen", C_NoSeen), ("NoFit", C_NoFit), ("NothingDone", C_NothingDone), ("NoCrew", C_NoCrew), ("NotNow", C_NotNow), ("NoHand", C_NoHand), ("Full", C_Full), ("Clash", C_Clash), ("Tied", C_Tied), ("NoText", C_NoText)] = true)
    (tb_iNoText : isxB K (.ref C_NoText) (tbX "NoText") [("BadHome", C_BadHome), ("NotBare", C_NotBare), ("BadCrews", C_BadCrews), ("Busy", C_Busy), ("Closes", C_Closes), ("TooMany", C_TooMany), ("NoLot", C_NoLot), ("NoStanding", C_NoStanding), ("NoThing", C_NoThing), ("NoThings", C_NoThings), ("NoOrder", C_NoOrder), ("NoArrow", C_NoArrow), ("NoHands", C_NoHands), ("NoNumber", C_NoNumber), ("NoTies", C_NoTies), ("NotSpined", C_NotSpined), ("NoSeen", C_NoSeen), ("NoFit", C_NoFit), ("NothingDone", C_NothingDone), ("NoCrew", C_NoCrew), ("NotNow", C_NotNow), ("NoHand", C_NoHand), ("Full", C_Full), ("Clash", C_Clash), ("Tied", C_Tied), ("NoText", C_NoText)] = true)
    (tb_iTurnError : isxB K (.ref C_TurnError) (tbX "TurnError") [("BadHome", C_BadHome), ("NotBare", C_NotBare), ("BadCrews", C_BadCrews), ("Busy", C_Busy), ("Closes", C_Closes), ("TooMany", C_TooMany), ("NoLot", C_NoLot), ("NoStanding", C_NoStanding), ("NoThing", C_NoThing), ("NoThings", C_NoThings), ("NoOrder", C_NoOrder), ("NoArrow", C_NoArrow), ("NoHands", C_NoHands), ("NoNumber", C_NoNumber), ("NoTies", C_NoTies), ("NotSpined", C_NotSpined), ("NoSeen", C_NoSeen), ("NoFit", C_NoFit), ("NothingDone", C_NothingDone), ("NoCrew", C_NoCrew), ("NotNow", C_NotNow), ("NoHand", C_NoHand), ("Full", C_Full), ("Clash", C_Clash), ("Tied", C_Tied), ("NoText", C_NoText)] = true)
    (tb_iValueError : isxB K (.type "ValueError") (tbX "ValueError") [("BadHome", C_BadHome), ("NotBare", C_NotBare), ("BadCrews", C_BadCrews), ("Busy", C_Busy), ("Closes", C_Closes), ("TooMany", C_TooMany), ("NoLot", C_NoLot), ("NoStanding", C_NoStanding), ("NoThing", C_NoThing), ("NoThings", C_NoThings), ("NoOrder", C_NoOrder), ("NoArrow", C_NoArrow), ("NoHands", C_NoHands), ("NoNumber", C_NoNumber), ("NoTies", C_NoTies), ("NotSpined", C_NotSpined), ("NoSeen", C_NoSeen), ("NoFit", C_NoFit), ("NothingDone", C_NothingDone), ("NoCrew", C_NoCrew), ("NotNow", C_NotNow), ("NoHand", C_NoHand), ("Full", C_Full), ("Clash", C_Clash), ("Tied", C_Tied), ("NoText", C_NoText)] = true)
    (z_ValueError : PySem.W.nsIn K mainGlobals "ValueError" = some none)
    (z_abs : PySem.W.nsIn K mainGlobals "abs" = some none)
    (z_any : PySem.W.nsIn K mainGlobals "any" = some none)
    (z_bool : PySem.W.nsIn K mainGlobals "bool" = some none)
    (z_int : PySem.W.nsIn K mainGlobals "int" = some none)
    (z_isinstance : PySem.W.nsIn K mainGlobals "isinstance" = some none)
    (z_len : PySem.W.nsIn K mainGlobals "len" = some none)
    (z_range : PySem.W.nsIn K mainGlobals "range" = some none)
    : ∃ fd : FuncData, (∀ (s : Shared) (v : Value), BindsTo s fd ⟨[v], []⟩ [("_law_script", v)]) ∧ ∀ base : Heap, K.In base → base.Ns mainGlobals mg → FnOk P w K mg base (L2.CX P w) 3 fa fd ["_law_script"] (spLaw K) := by
  have T : Tx K mg := tx_mk X G a_BadCrews a_BadHome a_Busy a_Clash a_Closes a_Full a_NoArrow a_NoCrew a_NoFit a_NoHand a_NoHands a_NoLot a_NoNumber a_NoOrder a_NoSeen a_NoStanding a_NoText a_NoThing a_NoThings a_NoTies a_NotBare a_NotNow a_NotSpined a_NothingDone a_Tied a_TooMany a_TurnError a_BadHome___init__ i_BadHome___init__ l_BadHome___init__ c_BadHome___init__ k_BadHome___init__ a_NotBare___init__ i_NotBare___init__ l_NotBare___init__ c_NotBare___init__ k_NotBare___init__ a_BadCrews___init__ i_BadCrews___init__ l_BadCrews___init__ c_BadCrews___init__ k_BadCrews___init__ a_Busy___init__ i_Busy___init__ l_Busy___init__ c_Busy___init__ k_Busy___init__ a_Closes___init__ i_Closes___init__ l_Closes___init__ c_Closes___init__ k_Closes___init__ a_TooMany___init__ i_TooMany___init__ l_TooMany___init__ c_TooMany___init__ k_TooMany___init__ a__law_hand l__law_hand c__law_hand k__law_hand a__law_draw l__law_draw c__law_draw k__law_draw a__law_deep l__law_deep c__law_deep k__law_deep a_law l_law c_law k_law xi_Clash kp_Clash xi_Full kp_Full xi_NoArrow kp_NoArrow xi_NoCrew kp_NoCrew xi_NoFit kp_NoFit xi_NoHand kp_NoHand xi_NoHands kp_NoHands xi_NoLot kp_NoLot xi_NoNumber kp_NoNumber xi_NoOrder kp_NoOrder xi_NoSeen kp_NoSeen xi_NoStanding kp_NoStanding xi_NoText kp_NoText xi_NoThing kp_NoThing xi_NoThings kp_NoThings xi_NoTies kp_NoTies xi_NotNow kp_NotNow xi_NotSpined kp_NotSpined xi_NothingDone kp_NothingDone xi_Tied kp_Tied tb_oBadCrews tb_eBadCrews xh_BadCrews tb_oBadHome tb_eBadHome xh_BadHome tb_oBusy tb_eBusy xh_Busy tb_oCloses tb_eCloses xh_Closes tb_oNotBare tb_eNotBare xh_NotBare tb_oTooMany tb_eTooMany xh_TooMany tb_all tb_iBadHome tb_iNotBare tb_iBadCrews tb_iBusy tb_iCloses tb_iTooMany tb_iNoLot tb_iNoStanding tb_iNoThing tb_iNoThings tb_iNoOrder tb_iNoArrow tb_iNoHands tb_iNoNumber tb_iNoTies tb_iNotSpined tb_iNoSeen tb_iNoFit tb_iNothingDone tb_iNoCrew tb_iNotNow tb_iNoHand tb_iFull tb_iClash tb_iTied tb_iNoText tb_iTurnError tb_iValueError z_ValueError z_abs z_any z_bool z_int z_isinstance z_len z_range
  obtain rfl : fa = T.f_law := by
    have e := hfa.symm.trans T.g_law
    cases e; rfl
  obtain ⟨oc, od, kV, doc, pm, an, cdv, ct, osl, hfd, _⟩ := T.F_law.ex
  exact ⟨T.fd_law, fun s u => by rw [hfd]; exact .of_eq rfl, fun base _ _ => law_ok T⟩
end K00
open PySem PySem.W PyProof.Rows
set_option maxRecDepth 100000 in
set_option maxHeartbeats 0 in
theorem PySem.Challenge.cw_turnedapart_k00_errors_and_their_fields_holds : PySem.Challenge.rw_turnedapart_k00_errors_and_their_fields.Holds := by
  w_on; o_law; k_head; (case hw => w_witness2)
  k_fill
  refine L2.walk_of (l := PySem.Challenge.rw_turnedapart_k00_errors_and_their_fields) (n := 63) (k := 3) (x := "_law_script") (CX := fun w => L2.CX (PySem.Challenge.rw_turnedapart_k00_errors_and_their_fields).prog w) (sp := fun w => K00.spLaw _) rfl (by decide) rfl ⟨rfl, by decide, by decide⟩ (fun w h Y => PySem.W.kIn_of Y) ?F (fun _ _ a ns hl _ hS => ⟨a, ns, rfl, hS, hl, fun _ => rfl⟩) ?C
  case C => exact fun _ _ _ _ _ z => by obtain ⟨_, _, _, _, _, _, _, _, _, _, _, _, z⟩ := z; exact z
  case F =>
    intro w mg fa h KX G hmg
    refine' K00.all_mk KX G hmg ?a_BadCrews ?a_BadHome ?a_Busy ?a_Clash ?a_Closes ?a_Full ?a_NoArrow ?a_NoCrew ?a_NoFit ?a_NoHand ?a_NoHands ?a_NoLot ?a_NoNumber ?a_NoOrder ?a_NoSeen ?a_NoStanding ?a_NoText ?a_NoThing ?a_NoThings ?a_NoTies ?a_NotBare ?a_NotNow ?a_NotSpined ?a_NothingDone ?a_Tied ?a_TooMany ?a_TurnError ?a_BadHome___init__ ?i_BadHome___init__ ?l_BadHome___init__ ?c_BadHome___init__ ?k_BadHome___init__ ?a_NotBare___init__ ?i_NotBare___init__ ?l_NotBare___init__ ?c_NotBare___init__ ?k_NotBare___init__ ?a_BadCrews___init__ ?i_BadCrews___init__ ?l_BadCrews___init__ ?c_BadCrews___init__ ?k_BadCrews___init__ ?a_Busy___init__ ?i_Busy___init__ ?l_Busy___init__ ?c_Busy___init__ ?k_Busy___init__ ?a_Closes___init__ ?i_Closes___init__ ?l_Closes___init__ ?c_Closes___init__ ?k_Closes___init__ ?a_TooMany___init__ ?i_TooMany___init__ ?l_TooMany___init__ ?c_TooMany___init__ ?k_TooMany___init__ ?a__law_hand ?l__law_hand ?c__law_hand ?k__law_hand ?a__law_draw ?l__law_draw ?c__law_draw ?k__law_draw ?a__law_deep ?l__law_deep ?c__law_deep ?k__law_deep ?a_law ?l_law ?c_law ?k_law ?xi_Clash ?kp_Clash ?xi_Full ?kp_Full ?xi_NoArrow ?kp_NoArrow ?xi_NoCrew ?kp_NoCrew ?xi_NoFit ?kp_NoFit ?xi_NoHand ?kp_NoHand ?xi_NoHands ?kp_NoHands ?xi_NoLot ?kp_NoLot ?xi_NoNumber ?kp_NoNumber ?xi_NoOrder ?kp_NoOrder ?xi_NoSeen ?kp_NoSeen ?xi_NoStanding ?kp_NoStanding ?xi_NoText ?kp_NoText ?xi_NoThing ?kp_NoThing ?xi_NoThings ?kp_NoThings ?xi_NoTies ?kp_NoTies ?xi_NotNow ?kp_NotNow ?xi_NotSpined ?kp_NotSpined ?xi_NothingDone ?kp_NothingDone ?xi_Tied ?kp_Tied ?tb_oBadCrews ?tb_eBadCrews ?xh_BadCrews ?tb_oBadHome ?tb_eBadHome ?xh_BadHome ?tb_oBusy ?tb_eBusy ?xh_Busy ?tb_oCloses ?tb_eCloses ?xh_Closes ?tb_oNotBare ?tb_eNotBare ?xh_NotBare ?tb_oTooMany ?tb_eTooMany ?xh_TooMany ?tb_all ?tb_iBadHome ?tb_iNotBare ?tb_iBadCrews ?tb_iBusy ?tb_iCloses ?tb_iTooMany ?tb_iNoLot ?tb_iNoStanding ?tb_iNoThing ?tb_iNoThings ?tb_iNoOrder ?tb_iNoArrow ?tb_iNoHands ?tb_iNoNumber ?tb_iNoTies ?tb_iNotSpined ?tb_iNoSeen ?tb_iNoFit ?tb_iNothingDone ?tb_iNoCrew ?tb_iNotNow ?tb_iNoHand ?tb_iFull ?tb_iClash ?tb_iTied ?tb_iNoText ?tb_iTurnError ?tb_iValueError ?z_ValueError ?z_abs ?z_any ?z_bool ?z_int ?z_isinstance ?z_len ?z_range
    (case a_BadCrews => k_is)
    (case a_BadHome => k_is)
    (case a_Busy => k_is)
    (case a_Clash => k_is)
    (case a_Closes => k_is)
    (case a_Full => k_is)
    (case a_NoArrow => k_is)
    (case a_NoCrew => k_is)
    (case a_NoFit => k_is)
    (case a_NoHand => k_is)
    (case a_NoHands => k_is)
    (case a_NoLot => k_is)
    (case a_NoNumber => k_is)
    (case a_NoOrder => k_is)
    (case a_NoSeen => k_is)
    (case a_NoStanding => k_is)
    (case a_NoText => k_is)
    (case a_NoThing => k_is)
    (case a_NoThings => k_is)
    (case a_NoTies => k_is)
    (case a_NotBare => k_is)
    (case a_NotNow => k_is)
    (case a_NotSpined => k_is)
    (case a_NothingDone => k_is)
    (case a_Tied => k_is)
    (case a_TooMany => k_is)
    (case a_TurnError => k_is)
    (case a_BadHome___init__ => k_is)
    (case i_BadHome___init__ => k_is)
    (case l_BadHome___init__ => k_is)
    (case c_BadHome___init__ => k_is)
    (case k_BadHome___init__ => k_is)
    (case a_NotBare___init__ => k_is)
    (case i_NotBare___init__ => k_is)
    (case l_NotBare___init__ => k_is)
    (case c_NotBare___init__ => k_is)
    (case k_NotBare___init__ => k_is)
    (case a_BadCrews___init__ => k_is)
    (case i_BadCrews___init__ => k_is)
    (case l_BadCrews___init__ => k_is)
    (case c_BadCrews___init__ => k_is)
    (case k_BadCrews___init__ => k_is)
    (case a_Busy___init__ => k_is)
    (case i_Busy___init__ => k_is)
    (case l_Busy___init__ => k_is)
    (case c_Busy___init__ => k_is)
    (case k_Busy___init__ => k_is)
    (case a_Closes___init__ => k_is)
    (case i_Closes___init__ => k_is)
    (case l_Closes___init__ => k_is)
    (case c_Closes___init__ => k_is)
    (case k_Closes___init__ => k_is)
    (case a_TooMany___init__ => k_is)
    (case i_TooMany___init__ => k_is)
    (case l_TooMany___init__ => k_is)
    (case c_TooMany___init__ => k_is)
    (case k_TooMany___init__ => k_is)
    (case a__law_hand => k_is)
    (case l__law_hand => k_is)
    (case c__law_hand => k_is)
    (case k__law_hand => k_is)
    (case a__law_draw => k_is)
    (case l__law_draw => k_is)
    (case c__law_draw => k_is)
    (case k__law_draw => k_is)
    (case a__law_deep => k_is)
    (case l__law_deep => k_is)
    (case c__law_deep => k_is)
    (case k__law_deep => k_is)
    (case a_law => k_is)
    (case l_law => k_is)
    (case c_law => k_is)
    (case k_law => k_is)
    (case xi_Clash => k_exc)
    (case kp_Clash => k_is)
    (case xi_Full => k_exc)
    (case kp_Full => k_is)
    (case xi_NoArrow => k_exc)
    (case kp_NoArrow => k_is)
    (case xi_NoCrew => k_exc)
    (case kp_NoCrew => k_is)
    (case xi_NoFit => k_exc)
    (case kp_NoFit => k_is)
    (case xi_NoHand => k_exc)
    (case kp_NoHand => k_is)
    (case xi_NoHands => k_exc)
    (case kp_NoHands => k_is)
    (case xi_NoLot => k_exc)
    (case kp_NoLot => k_is)
    (case xi_NoNumber => k_exc)
    (case kp_NoNumber => k_is)
    (case xi_NoOrder => k_exc)
    (case kp_NoOrder => k_is)
    (case xi_NoSeen => k_exc)
    (case kp_NoSeen => k_is)
    (case xi_NoStanding => k_exc)
    (case kp_NoStanding => k_is)
    (case xi_NoText => k_exc)
    (case kp_NoText => k_is)
    (case xi_NoThing => k_exc)
    (case kp_NoThing => k_is)
    (case xi_NoThings => k_exc)
    (case kp_NoThings => k_is)
    (case xi_NoTies => k_exc)
    (case kp_NoTies => k_is)
    (case xi_NotNow => k_exc)
    (case kp_NotNow => k_is)
    (case xi_NotSpined => k_exc)
    (case kp_NotSpined => k_is)
    (case xi_NothingDone => k_exc)
    (case kp_NothingDone => k_is)
    (case xi_Tied => k_exc)
    (case kp_Tied => k_is)
    (case tb_oBadCrews => kernel_rfl)
    (case tb_eBadCrews => kernel_rfl)
    (case xh_BadCrews => k_is)
    (case tb_oBadHome => kernel_rfl)
    (case tb_eBadHome => kernel_rfl)
    (case xh_BadHome => k_is)
    (case tb_oBusy => kernel_rfl)
    (case tb_eBusy => kernel_rfl)
    (case xh_Busy => k_is)
    (case tb_oCloses => kernel_rfl)
    (case tb_eCloses => kernel_rfl)
    (case xh_Closes => k_is)
    (case tb_oNotBare => kernel_rfl)
    (case tb_eNotBare => kernel_rfl)
    (case xh_NotBare => k_is)
    (case tb_oTooMany => kernel_rfl)
    (case tb_eTooMany => kernel_rfl)
    (case xh_TooMany => k_is)
    (case tb_all => kernel_rfl)
    (case tb_iBadHome => kernel_rfl)
    (case tb_iNotBare => kernel_rfl)
    (case tb_iBadCrews => kernel_rfl)
    (case tb_iBusy => kernel_rfl)
    (case tb_iCloses => kernel_rfl)
    (case tb_iTooMany => kernel_rfl)
    (case tb_iNoLot => kernel_rfl)
    (case tb_iNoStanding => kernel_rfl)
    (case tb_iNoThing => kernel_rfl)
    (case tb_iNoThings => kernel_rfl)
    (case tb_iNoOrder => kernel_rfl)
    (case tb_iNoArrow => kernel_rfl)
    (case tb_iNoHands => kernel_rfl)
    (case tb_iNoNumber => kernel_rfl)
    (case tb_iNoTies => kernel_rfl)
    (case tb_iNotSpined => kernel_rfl)
    (case tb_iNoSeen => kernel_rfl)
    (case tb_iNoFit => kernel_rfl)
    (case tb_iNothingDone => kernel_rfl)
    (case tb_iNoCrew => kernel_rfl)
    (case tb_iNotNow => kernel_rfl)
    (case tb_iNoHand => kernel_rfl)
    (case tb_iFull => kernel_rfl)
    (case tb_iClash => kernel_rfl)
    (case tb_iTied => kernel_rfl)
    (case tb_iNoText => kernel_rfl)
    (case tb_iTurnError => kernel_rfl)
    (case tb_iValueError => kernel_rfl)
    (case z_ValueError => k_is)
    (case z_abs => k_is)
    (case z_any => k_is)
    (case z_bool => k_is)
    (case z_int => k_is)
    (case z_isinstance => k_is)
    (case z_len => k_is)
    (case z_range => k_is)
#print axioms PySem.Challenge.cw_turnedapart_k00_errors_and_their_fields_holds
