import PyProof.Rows.All
import Wide.All
import OpenK.AllK
import Wide.FinOn
import HandS.ForMost
import HandS.ForExc
import HandS.IsInst
import HandS.SortInts
import HandS.TupAny
import HandS.TupMul
import HandS.TupLen
import KE.GoesEnum
import HandS.Zip
import HandS.More
import KE.KSortedM
import HandS.SetBool
import HandS.Strs
import HandS.DictComp
import KE.DataEq
import HandS.SortRule
import HandS.TupLe
import PySem.Challenge.RW_lastdoors_k06_whole_free_and_bounded_dea
set_option Elab.async false
set_option linter.all false
set_option maxRecDepth 100000
namespace Sh
open PySem PySem.Spec PyProof.Rows L2

abbrev Sg := List (Option V)
/-! ### data -/
inductive D where
  | non | bl (b : Bool) | int (i : Int) | str (s : Str) | ref (a : Addr) | ty (n : String)
  | tup (xs : List D) | lst (xs : List D) | scr (xs : List D)
  | dK (kvs : List (Key × D)) | dT (kvs : List (List Key × D))
  | obj (C : Addr) (fs : List (Str × D))

mutual
inductive Ds (K : PySem.W.Frag) (G : Hp) : V → D → Prop
  | non : Ds K G .non .non
  | bl (b : Bool) : Ds K G (.bl b) (.bl b)
  | int (i : Int) : Ds K G (.int i) (.int i)
  | str (x : Str) : Ds K G (.str x) (.str x)
  | ref (a : Addr) : Ds K G (.ref a) (.ref a)
  | ty (n : String) : Ds K G (.ty n) (.ty n)
  | tup {a : Addr} {xs : List V} {ds : List D} : G a = some (.tup xs) → DsL K G xs ds → Ds K G (.ref a) (.tup ds)
  | lst {a : Addr} {xs : List V} {ds : List D} : G a = some (.lst xs) → DsL K G xs ds → Ds K G (.ref a) (.lst ds)
  | scr {a : Addr} {xs : List V} {ds : List D} : SqL K G a xs → DsL K G xs ds → Ds K G (.ref a) (.scr ds)
  | dK {a : Addr} {kvs : List (Key × V)} {ds : List (Key × D)} : G a = some (.dK kvs) → kvs.map (·.1) = ds.map (·.1) → DsL K G (kvs.map (·.2)) (ds.map (·.2)) → Ds K G (.ref a) (.dK ds)
  | dT {a : Addr} {kvs : List (List Key × V)} {ds : List (List Key × D)} : G a = some (.dT kvs) → kvs.map (·.1) = ds.map (·.1) → DsL K G (kvs.map (·.2)) (ds.map (·.2)) → Ds K G (.ref a) (.dT ds)
  | obj {a C dx : Addr} {fs : List (Str × V)} {ds : List (Str × D)} : G a = some (.ins C dx fs) → fs.map (·.1) = ds.map (·.1) → DsL K G (fs.map (·.2)) (ds.map (·.2)) → Ds K G (.ref a) (.obj C ds)
inductive DsL (K : PySem.W.Frag) (G : Hp) : List V → List D → Prop
  | nil : DsL K G [] []
  | cons {v : V} {vs : List V} {d : D} {ds : List D} : Ds K G v d → DsL K G vs ds → DsL K G (v :: vs) (d :: ds)
end

theorem Same.seqT {K : PySem.W.Frag} {H H' : Hp} {a : Addr} {xs : List V} (e : Same H H') (h : SqT K H a xs) : SqT K H' a xs := by
  rcases h with (h | ⟨o, h⟩) | h
  · exact .inl (.inl (e _ _ h))
  · exact .inl (.inr ⟨o, e _ _ h⟩)
  · exact .inr h
theorem Same.rd {H H' : Hp} {a : Addr} {u : HO} (e : Same H H') (h : Rd H a u) : Rd H' a u := by
  rcases h with h | ⟨o, h⟩
  · exact .inl (e _ _ h)
  · exact .inr ⟨o, e _ _ h⟩
mutual
theorem Ds.mono {K : PySem.W.Frag} {G G' : Hp} (S : Same G G') : ∀ {v : V} {d : D}, Ds K G v d → Ds K G' v d
  | _, _, .non => .non
  | _, _, .bl b => .bl b
  | _, _, .int i => .int i
  | _, _, .str x => .str x
  | _, _, .ref a => .ref a
  | _, _, .ty n => .ty n
  | _, _, .tup h t => .tup (S _ _ h) (DsL.mono S t)
  | _, _, .lst h t => .lst (S _ _ h) (DsL.mono S t)
  | _, _, .scr h t => .scr (S.seq h) (DsL.mono S t)
  | _, _, .dK h e t => .dK (S _ _ h) e (DsL.mono S t)
  | _, _, .dT h e t => .dT (S _ _ h) e (DsL.mono S t)
  | _, _, .obj h e t => .obj (S _ _ h) e (DsL.mono S t)
theorem DsL.mono {K : PySem.W.Frag} {G G' : Hp} (S : Same G G') : ∀ {vs : List V} {ds : List D}, DsL K G vs ds → DsL K G' vs ds
  | _, _, .nil => .nil
  | _, _, .cons h t => .cons (Ds.mono S h) (DsL.mono S t)
end
section
variable {K : PySem.W.Frag} {G H : Hp}
theorem DsL.length : ∀ {vs : List V} {ds : List D}, DsL K G vs ds → vs.length = ds.length
  | _, _, .nil => rfl
  | _, _, .cons _ t => by rw [List.length_cons, List.length_cons, DsL.length t]
theorem DsL.get : ∀ {vs : List V} {ds : List D} {i : Nat} {d : D}, DsL K G vs ds → ds[i]? = some d → ∃ v, vs[i]? = some v ∧ Ds K G v d
  | _, _, _, _, .nil, e => by simp at e
  | _, _, 0, _, .cons h _, e => by simp at e; subst e; exact ⟨_, rfl, h⟩
  | _, _, i + 1, d, .cons _ t, e => by
    obtain ⟨v, h1, h2⟩ := DsL.get (i := i) (d := d) t (by simpa using e)
    exact ⟨v, by simpa using h1, h2⟩
theorem DsL.get' : ∀ {vs : List V} {ds : List D} {i : Nat} {v : V}, DsL K G vs ds → vs[i]? = some v → ∃ d, ds[i]? = some d ∧ Ds K G v d
  | _, _, _, _, .nil, e => by simp at e
  | _, _, 0, _, .cons h _, e => by simp at e; subst e; exact ⟨_, rfl, h⟩
  | _, _, i + 1, d, .cons _ t, e => by
    obtain ⟨v, h1, h2⟩ := DsL.get' (i := i) (v := d) t (by simpa using e)
    exact ⟨v, by simpa using h1, h2⟩
theorem DsL.append : ∀ {vs ws : List V} {ds es : List D}, DsL K G vs ds → DsL K G ws es → DsL K G (vs ++ ws) (ds ++ es)
  | _, _, _, _, .nil, h => h
  | _, _, _, _, .cons a t, h => .cons a (DsL.append t h)
theorem DsL.snoc {vs : List V} {v : V} {ds : List D} {d : D} (h : DsL K G vs ds) (h2 : Ds K G v d) : DsL K G (vs ++ [v]) (ds ++ [d]) := h.append (.cons h2 .nil)
theorem DsL.take : ∀ {vs : List V} {ds : List D} (n : Nat), DsL K G vs ds → DsL K G (vs.take n) (ds.take n)
  | _, _, 0, _ => by simp; exact .nil
  | _, _, n + 1, .nil => .nil
  | _, _, n + 1, .cons a t => .cons a (DsL.take n t)
theorem DsL.drop : ∀ {vs : List V} {ds : List D} (n : Nat), DsL K G vs ds → DsL K G (vs.drop n) (ds.drop n)
  | _, _, 0, h => h
  | _, _, n + 1, .nil => .nil
  | _, _, n + 1, .cons a t => DsL.drop n t
theorem DsL.set {v : V} {d : D} (h2 : Ds K G v d) : ∀ {vs : List V} {ds : List D} (i : Nat), DsL K G vs ds → DsL K G (vs.set i v) (ds.set i d)
  | _, _, _, .nil => .nil
  | _, _, 0, .cons _ t => .cons h2 t
  | _, _, i + 1, .cons a t => .cons a (DsL.set h2 i t)
theorem DsL.reverse : ∀ {vs : List V} {ds : List D}, DsL K G vs ds → DsL K G vs.reverse ds.reverse
  | _, _, .nil => .nil
  | _, _, .cons a t => by rw [List.reverse_cons, List.reverse_cons]; exact (DsL.reverse t).snoc a
theorem DsL.none_of {vs : List V} {ds : List D} {i : Nat} (h : DsL K G vs ds) (e : ds[i]? = none) : vs[i]? = none := by
  have h1 := h.length
  have h2 : ds.length ≤ i := List.getElem?_eq_none_iff.mp e
  exact List.getElem?_eq_none_iff.mpr (by omega)
end

/-! ### slots -/
/-- what an own (mutable) object holds -/
inductive Mu where
  | l (xs : List D) | dK (kvs : List (Key × D)) | dT (kvs : List (List Key × D))
/-- a slot: nothing known; a value that nobody changes; an own object, pin: not made by this def -/
inductive Sl where
  | un | v (d : D) | o (pin : Bool) (m : Mu)
def MuOk (K : PySem.W.Frag) (G : Hp) : Mu → HO → Prop
  | .l ds, .lst vs => DsL K G vs ds
  | .dK ds, .dK kvs => kvs.map (·.1) = ds.map (·.1) ∧ DsL K G (kvs.map (·.2)) (ds.map (·.2))
  | .dT ds, .dT kvs => kvs.map (·.1) = ds.map (·.1) ∧ DsL K G (kvs.map (·.2)) (ds.map (·.2))
  | _, _ => False
theorem MuOk.mono {K : PySem.W.Frag} {G G' : Hp} (S : Same G G') {m : Mu} {o : HO} (h : MuOk K G m o) : MuOk K G' m o := by
  cases m <;> cases o <;> first | exact (False.elim h) | exact DsL.mono S h | exact ⟨h.1, DsL.mono S h.2⟩
theorem MuOk.mut {K : PySem.W.Frag} {G : Hp} {m : Mu} {o : HO} (h : MuOk K G m o) : Mut (some o) := by
  cases m <;> cases o <;> first | exact (False.elim h) | trivial
def SlOk (K : PySem.W.Frag) (G H : Hp) : Sl → Option (Option V) → Prop
  | .un, _ => True
  | .v d, x => ∃ v, x = some (some v) ∧ Ds K G v d
  | .o _ m, x => ∃ a o, x = some (some (.ref a)) ∧ G a = none ∧ H a = some o ∧ MuOk K G m o
structure Rel (K : PySem.W.Frag) (ρ : List Sl) (σ : Sg) (G H : Hp) : Prop where
  len : ρ.length = σ.length
  same : Same G H
  sl : ∀ (i : Nat) (s : Sl), ρ[i]? = some s → SlOk K G H s σ[i]?
  inj : ∀ (i j : Nat) (a : Addr) (p q : Bool) (m n : Mu), ρ[i]? = some (.o p m) → ρ[j]? = some (.o q n) → σ[i]? = some (some (.ref a)) → σ[j]? = some (some (.ref a)) → i = j
/-- the addresses of own objects -/
def Own (ρ : List Sl) (σ : Sg) (a : Addr) : Prop := ∃ (i : Nat) (p : Bool) (m : Mu), ρ[i]? = some (.o p m) ∧ σ[i]? = some (some (.ref a))
structure Grow (M : Addr → Prop) (G H G' H' : Hp) : Prop where
  gg : Same G G'
  fr : ∀ a, G a = none → H a ≠ none → ¬ M a → G' a = none
  keep : ∀ a o, G a = none → H a = some o → ¬ M a → H' a = some o
  stay : ∀ a, H a ≠ none → H' a ≠ none
theorem Grow.refl {M : Addr → Prop} {G H : Hp} : Grow M G H G H := ⟨Same.refl _, fun _ h _ _ => h, fun _ _ _ h _ => h, fun _ h => h⟩
theorem Grow.trans {M M1 : Addr → Prop} {G H G1 H1 G2 H2 : Hp} (a : Grow M G H G1 H1) (hM : ∀ a, M1 a → M a ∨ H a = none) (b : Grow M1 G1 H1 G2 H2) : Grow M G H G2 H2 where
  gg := a.gg.trans b.gg
  fr := fun c hG hH hm => by
    refine b.fr c (a.fr c hG hH hm) (a.stay c hH) fun z => ?_
    rcases hM c z with q | q
    · exact hm q
    · exact hH q
  keep := fun c o hG hH hm => by
    have hH' : H c ≠ none := by rw [hH]; exact fun z => nomatch z
    refine b.keep c o (a.fr c hG hH' hm) (a.keep c o hG hH hm) fun z => ?_
    rcases hM c z with q | q
    · exact hm q
    · exact hH' q
  stay := fun c h => b.stay c (a.stay c h)
structure Step (K : PySem.W.Frag) (ρ : List Sl) (σ : Sg) (G H : Hp) (ρ' : List Sl) (σ' : Sg) (G' H' : Hp) : Prop where
  rel : Rel K ρ' σ' G' H'
  grow : Grow (Own ρ σ) G H G' H'
  own : ∀ a, Own ρ' σ' a → Own ρ σ a ∨ H a = none
  pin : ∀ (i : Nat) (m : Mu), ρ[i]? = some (.o true m) → σ'[i]? = σ[i]? ∧ ∃ m', ρ'[i]? = some (.o true m')
  len : ρ'.length = ρ.length
theorem Step.refl {K : PySem.W.Frag} {ρ : List Sl} {σ : Sg} {G H : Hp} (r : Rel K ρ σ G H) : Step K ρ σ G H ρ σ G H :=
  ⟨r, Grow.refl, fun _ h => .inl h, fun _ m h => ⟨rfl, m, h⟩, rfl⟩
theorem Step.trans {K : PySem.W.Frag} {ρ ρ1 ρ2 : List Sl} {σ σ1 σ2 : Sg} {G H G1 H1 G2 H2 : Hp} (a : Step K ρ σ G H ρ1 σ1 G1 H1) (b : Step K ρ1 σ1 G1 H1 ρ2 σ2 G2 H2) : Step K ρ σ G H ρ2 σ2 G2 H2 where
  rel := b.rel
  grow := a.grow.trans a.own b.grow
  own := fun c h => by
    rcases b.own c h with q | q
    · exact a.own c q
    · refine .inr ?_
      cases e : H c with
      | none => rfl
      | some o => exact absurd q (a.grow.stay c (by rw [e]; exact fun z => nomatch z))
  pin := fun i m h => by
    obtain ⟨e1, m1, h1⟩ := a.pin i m h
    obtain ⟨e2, m2, h2⟩ := b.pin i m1 h1
    exact ⟨e2.trans e1, m2, h2⟩
  len := b.len.trans a.len
/-- nothing of this def's changes: objects come beside -/
theorem Rel.grow {K : PySem.W.Frag} {ρ : List Sl} {σ : Sg} {G H G' H' : Hp} (r : Rel K ρ σ G H) (g : Grow (fun _ => False) G H G' H') (s : Same G' H') : Rel K ρ σ G' H' where
  len := r.len
  same := s
  sl := fun i x e => by
    have q := r.sl i x e
    cases x with
    | un => trivial
    | v d => obtain ⟨v, h1, h2⟩ := q; exact ⟨v, h1, h2.mono g.gg⟩
    | o p m =>
      obtain ⟨a, o, h1, h2, h3, h4⟩ := q
      exact ⟨a, o, h1, g.fr a h2 (by rw [h3]; exact fun z => nomatch z) id, g.keep a o h2 h3 id, h4.mono g.gg⟩
  inj := r.inj
theorem Rel.step {K : PySem.W.Frag} {ρ : List Sl} {σ : Sg} {G H G' H' : Hp} (r : Rel K ρ σ G H) (g : Grow (fun _ => False) G H G' H') (s : Same G' H') : Step K ρ σ G H ρ σ G' H' :=
  ⟨r.grow g s, ⟨g.gg, fun a h1 h2 _ => g.fr a h1 h2 id, fun a o h1 h2 _ => g.keep a o h1 h2 id, g.stay⟩, fun _ h => .inl h, fun _ m h => ⟨rfl, m, h⟩, rfl⟩
/-- a new object that nobody changes -/
theorem Grow.new {G H : Hp} {p : Addr} {o : HO} (s : Same G H) (hp : H p = none) : Grow (fun _ => False) G H (upd G p o) (upd H p o) where
  gg := fun b u e => by rw [upd_ne (ne_of_none (s b u e) hp)]; exact e
  fr := fun a h1 h2 _ => by rw [upd_ne (fun z => h2 (by rw [z]; exact hp))]; exact h1
  keep := fun a u h1 h2 _ => by rw [upd_ne (ne_of_none h2 hp)]; exact h2
  stay := fun a h => by
    by_cases e : a = p
    · subst e; rw [upd_same]; exact fun z => nomatch z
    · rw [upd_ne e]; exact h
theorem Same.new {G H : Hp} {p : Addr} {o : HO} (s : Same G H) : Same (upd G p o) (upd H p o) := fun b u e => by
  by_cases q : b = p
  · subst q; rw [upd_same] at e ⊢; exact e
  · rw [upd_ne q] at e ⊢; exact s b u e
theorem Same.at {G H : Hp} {p : Addr} {o : HO} (s : Same G H) (hp : H p = none) : Same G (upd G p o) := fun b u e => by rw [upd_ne (ne_of_none (s b u e) hp)]; exact e

/-! ### results -/
/-- an exception: its class, its fields -/
structure Ex where
  cls : Addr
  fs : List (Str × D)
inductive Res (α : Type) where
  | ok (a : α) (ρ : List Sl) | exc (x : Ex) (ρ : List Sl) | bad
def Res.bind {α β : Type} (r : Res α) (k : α → List Sl → Res β) : Res β := match r with
  | .ok a ρ => k a ρ
  | .exc x ρ => .exc x ρ
  | .bad => .bad
@[simp] theorem Res.bind_ok {α β : Type} (a : α) (ρ : List Sl) (k : α → List Sl → Res β) : (Res.ok a ρ).bind k = k a ρ := rfl
@[simp] theorem Res.bind_exc {α β : Type} (x : Ex) (ρ : List Sl) (k : α → List Sl → Res β) : (Res.exc x ρ : Res α).bind k = .exc x ρ := rfl
@[simp] theorem Res.bind_bad {α β : Type} (k : α → List Sl → Res β) : (Res.bad : Res α).bind k = .bad := rfl
/-- an exception as it lies in the heap -/
def ExOk (K : PySem.W.Frag) (G : Hp) (x : Ex) (cls : Value) (dx : Option Addr) : Prop :=
  cls = .ref x.cls ∧ ((x.fs = [] ∧ dx = none) ∨ ∃ d fs, dx = some d ∧ G d = some (.xd fs) ∧ fs.map (·.1) = x.fs.map (·.1) ∧ DsL K G (fs.map (·.2)) (x.fs.map (·.2)))
abbrev SemE (α : Type) := List Sl → Res α
/-- what a result asks of what is wanted -/
def Asks {α : Type} (K : PySem.W.Frag) (ρ : List Sl) (σ : Sg) (G H : Hp) (W : WX) (r : Res α) (q : α → List Sl → Hp → Hp → Prop) : Prop :=
  match r with
  | .ok a ρ' => ∀ G' H', Step K ρ σ G H ρ' σ G' H' → q a ρ' G' H'
  | .exc x ρ' => ∀ G' H' cls dx, Step K ρ σ G H ρ' σ G' H' → ExOk K G' x cls dx → W cls dx σ H'
  | .bad => False
/-- an expression computes f -/
def SE (X : Cx) (W : WX) (e : Expr) (f : SemE D) : Prop :=
  ∃ te, PE X e te ∧ ∀ ρ σ G H Q, Rel X.K ρ σ G H → Asks X.K ρ σ G H W (f ρ) (fun d _ G' H' => ∀ v, Ds X.K G' v d → Q v H') → te σ H Q
def ST (X : Cx) (W : WX) (e : Expr) (f : SemE Bool) : Prop :=
  ∃ te, PT X e te ∧ ∀ ρ σ G H Q, Rel X.K ρ σ G H → Asks X.K ρ σ G H W (f ρ) (fun b _ _ H' => Q b H') → te σ H Q
def SA (X : Cx) (W : WX) (es : List Expr) (f : SemE (List D)) : Prop :=
  ∃ ta, PA X es ta ∧ ∀ ρ σ G H Q, Rel X.K ρ σ G H → Asks X.K ρ σ G H W (f ρ) (fun ds _ G' H' => ∀ vs, DsL X.K G' vs ds → Q vs H') → ta σ H Q
/-- one after another -/
theorem Asks.bind {α β : Type} {K : PySem.W.Frag} {ρ : List Sl} {σ : Sg} {G H : Hp} {W : WX} {r : Res α} {k : α → List Sl → Res β} {q : β → List Sl → Hp → Hp → Prop}
    (h : Asks K ρ σ G H W (r.bind k) q) : Asks K ρ σ G H W r (fun a ρ1 G1 H1 => Asks K ρ1 σ G1 H1 W (k a ρ1) q) := by
  cases r with
  | bad => exact h
  | exc x ρ' => exact h
  | ok a ρ1 =>
    intro G1 H1 st
    have h : Asks K ρ σ G H W (k a ρ1) q := h
    show Asks K ρ1 σ G1 H1 W (k a ρ1) q
    cases e : k a ρ1 with
    | bad => rw [e] at h; exact h
    | exc x ρ2 => rw [e] at h; exact fun G' H' cls dx st2 x2 => h G' H' cls dx (st.trans st2) x2
    | ok b ρ2 => rw [e] at h; exact fun G' H' st2 => h G' H' (st.trans st2)
theorem Asks.imp {α : Type} {K : PySem.W.Frag} {ρ : List Sl} {σ : Sg} {G H : Hp} {W : WX} {r : Res α} {q q' : α → List Sl → Hp → Hp → Prop}
    (h : Asks K ρ σ G H W r q) (k : ∀ a ρ' G' H', r = .ok a ρ' → Step K ρ σ G H ρ' σ G' H' → q a ρ' G' H' → q' a ρ' G' H') : Asks K ρ σ G H W r q' := by
  cases r with
  | bad => exact h
  | exc x ρ' => exact h
  | ok a ρ1 => exact fun G' H' st => k a ρ1 G' H' rfl st (h G' H' st)
theorem Asks.pure {α : Type} {K : PySem.W.Frag} {ρ : List Sl} {σ : Sg} {G H : Hp} {W : WX} {a : α} {q : α → List Sl → Hp → Hp → Prop} (r : Rel K ρ σ G H) (h : Asks K ρ σ G H W (.ok a ρ) q) : q a ρ G H := h G H (Step.refl r)

/-! ### expressions -/
section
variable {X : Cx} {W : WX} {e a b c : Expr} {f g : SemE D} {pos : Pos}
def sC (d : D) : SemE D := fun ρ => .ok d ρ
def sVar (i : Nat) : SemE D := fun ρ => match ρ[i]? with
  | some (.v d) => .ok d ρ
  | _ => .bad
theorem se_of {te : TE} {d : D} {v : V} (h : PE X e te) (k : ∀ σ H Q, Q v H → te σ H Q) (hd : ∀ G, Ds X.K G v d) : SE X W e (sC d) :=
  ⟨te, h, fun ρ σ G H Q r q => k σ H Q (Asks.pure r q v (hd G))⟩
theorem se_int {i j} : SE X W (.Constant (.int i) j pos) (sC (.int i)) := se_of pe_int (fun _ _ _ q => q) fun _ => .int i
theorem se_bl {i j} : SE X W (.Constant (.bool i) j pos) (sC (.bl i)) := se_of pe_bl (fun _ _ _ q => q) fun _ => .bl i
theorem se_non {j} : SE X W (.Constant .none j pos) (sC .non) := se_of pe_non (fun _ _ _ q => q) fun _ => .non
theorem se_str {i j} : SE X W (.Constant (.str i) j pos) (sC (.str i)) := se_of pe_str (fun _ _ _ q => q) fun _ => .str i
theorem se_var (i : Nat) (h : PE X e (tVar i)) : SE X W e (sVar i) := by
  refine ⟨_, h, fun ρ σ G H Q r q => ?_⟩
  unfold sVar at q
  cases e1 : ρ[i]? with
  | none => rw [e1] at q; exact q.elim
  | some s =>
    rw [e1] at q
    cases s with
    | un => exact q.elim
    | o _ _ => exact q.elim
    | v d =>
      obtain ⟨v, h1, h2⟩ := r.sl i _ e1
      exact ⟨v, h1, Asks.pure r q v h2⟩
/-! operators -/
def RBin (K : PySem.W.Frag) (r : R2) (op : D → D → Option D) : Prop :=
  ∀ G H x y dx dy d Q, Same G H → Ds K G x dx → Ds K G y dy → op dx dy = some d → (∀ v G' H', Grow (fun _ => False) G H G' H' → Same G' H' → Ds K G' v d → Q v H') → r x y H Q
def lift2 (op : D → D → Option D) (x y : D) (ρ : List Sl) : Res D := match op x y with
  | some d => .ok d ρ
  | none => .bad
def sBin (op : D → D → Option D) (f g : SemE D) : SemE D := fun ρ => (f ρ).bind fun x ρ1 => (g ρ1).bind fun y ρ2 => lift2 op x y ρ2
theorem tOp_of {K : PySem.W.Frag} {W : WX} {r : R2} {op : D → D → Option D} {ta tb : TE} {f g : SemE D} (hr : RBin K r op)
    (ha : ∀ ρ σ G H Q, Rel K ρ σ G H → Asks K ρ σ G H W (f ρ) (fun d _ G' H' => ∀ v, Ds K G' v d → Q v H') → ta σ H Q)
    (hb : ∀ ρ σ G H Q, Rel K ρ σ G H → Asks K ρ σ G H W (g ρ) (fun d _ G' H' => ∀ v, Ds K G' v d → Q v H') → tb σ H Q) :
    ∀ ρ σ G H Q, Rel K ρ σ G H → Asks K ρ σ G H W (sBin op f g ρ) (fun d _ G' H' => ∀ v, Ds K G' v d → Q v H') → tOp r ta tb σ H Q := by
  intro ρ σ G H Q rl q
  refine ha ρ σ G H _ rl ((Asks.bind q).imp fun x ρ1 G1 H1 e1 s1 q1 v hv => ?_)
  refine hb ρ1 σ G1 H1 _ s1.rel ((Asks.bind q1).imp fun y ρ2 G2 H2 e2 s2 q2 u hu => ?_)
  unfold lift2 at q2
  cases e : op x y with
  | none => rw [e] at q2; exact q2.elim
  | some d =>
    rw [e] at q2
    exact hr G2 H2 v u x y d Q s2.rel.same (hv.mono s2.grow.gg) hu e fun w G' H' g s dw => q2 G' H' (s2.rel.step g s) w dw
theorem se_op {op : Operator} {r : R2} {fo : D → D → Option D} (ho : OpR X (binaryOp op) r) (hr : RBin X.K r fo) (ha : SE X W a f) (hb : SE X W b g) : SE X W (.BinOp a op b pos) (sBin fo f g) := by
  obtain ⟨ta, pa, qa⟩ := ha
  obtain ⟨tb, pb, qb⟩ := hb
  exact ⟨_, pe_op ho pa pb, tOp_of hr qa qb⟩
end
end Sh

namespace Sh
open PySem PySem.Spec PyProof.Rows L2

/-! ### tests -/
section
variable {X : Cx} {W : WX} {e a b c : Expr} {es : List Expr} {f g : SemE D} {p q : SemE Bool} {pos : Pos}
def toB (r : Res D) : Res Bool := r.bind fun d ρ => match d with
  | .bl b => .ok b ρ
  | _ => .bad
def ofB (r : Res Bool) : Res D := r.bind fun b ρ => .ok (.bl b) ρ
def sT (f : SemE D) : SemE Bool := fun ρ => toB (f ρ)
theorem tB_of {K : PySem.W.Frag} {t : TE} {f : SemE D}
    (ha : ∀ ρ σ G H Q, Rel K ρ σ G H → Asks K ρ σ G H W (f ρ) (fun d _ G' H' => ∀ v, Ds K G' v d → Q v H') → t σ H Q) :
    ∀ ρ σ G H Q, Rel K ρ σ G H → Asks K ρ σ G H W (sT f ρ) (fun b _ _ H' => Q b H') → tB t σ H Q := by
  intro ρ σ G H Q rl q
  refine ha ρ σ G H _ rl ((Asks.bind q).imp fun x ρ1 G1 H1 e1 s1 q1 v hv => ?_)
  cases x with
  | bl b =>
    cases hv
    exact ⟨b, rfl, Asks.pure s1.rel q1⟩
  | _ => exact q1.elim
/-- an expression whose value is a bool, as a test -/
theorem st_val (h : SE X W e f) (he : ∀ whole, isTrue e X.env whole = (do let v ← whole; standAt e.pos; holding [v] (truthy v)) := by intro _; rfl) : ST X W e (sT f) := by
  obtain ⟨t, pt, qt⟩ := h
  exact ⟨_, pt_val pt he, tB_of qt⟩
/-! comparisons -/
theorem se_cmp {op : CmpOp} {r : R2} {fo : D → D → Option D} (ho : OpR X (compareOp op) r) (hr : RBin X.K r fo) (ha : SE X W a f) (hb : SE X W b g) (hm : behindInMarks op b = false := by first | exact nomark _ | rfl) :
    SE X W (.Compare a [op] [b] pos) (sBin fo f g) := by
  obtain ⟨ta, pa, qa⟩ := ha
  obtain ⟨tb, pb, qb⟩ := hb
  exact ⟨_, pe_cmpR ho pa pb hm, tOp_of hr qa qb⟩
theorem st_cmp {op : CmpOp} {r : R2} {fo : D → D → Option D} (ho : OpR X (compareOp op) r) (hr : RBin X.K r fo) (ha : SE X W a f) (hb : SE X W b g) (hm : behindInMarks op b = false := by first | exact nomark _ | rfl) :
    ST X W (.Compare a [op] [b] pos) (sT (sBin fo f g)) := by
  obtain ⟨ta, pa, qa⟩ := ha
  obtain ⟨tb, pb, qb⟩ := hb
  exact ⟨_, pt_cmpR ho pa pb hm, tB_of (tOp_of hr qa qb)⟩
/-! and, or, not -/
def sAnd (p q : SemE Bool) : SemE Bool := fun ρ => (p ρ).bind fun b ρ1 => if b = true then q ρ1 else .ok false ρ1
def sOr (p q : SemE Bool) : SemE Bool := fun ρ => (p ρ).bind fun b ρ1 => if b = true then .ok true ρ1 else q ρ1
def sNot (p : SemE Bool) : SemE Bool := fun ρ => (p ρ).bind fun b ρ1 => .ok (!b) ρ1
def SW (X : Cx) (W : WX) (e : Expr) (f : SemE Bool) : Prop :=
  ∃ te, PW X e te ∧ ∀ ρ σ G H Q, Rel X.K ρ σ G H → Asks X.K ρ σ G H W (f ρ) (fun b _ _ H' => Q b H') → te σ H Q
theorem SW.st (h : SW X W e p) : ST X W e p := by
  obtain ⟨t, h1, h2⟩ := h
  exact ⟨t, h1.pt, h2⟩
theorem sw_and1 (h : ST X W a p) : SW X W (.BoolOp .And [a] pos) p := by
  obtain ⟨t, h1, h2⟩ := h
  exact ⟨t, pw_and1 h1, h2⟩
theorem sw_or1 (h : ST X W a p) : SW X W (.BoolOp .Or [a] pos) p := by
  obtain ⟨t, h1, h2⟩ := h
  exact ⟨t, pw_or1 h1, h2⟩
theorem sw_and {rest : List Expr} (ha : ST X W a p) (hb : SW X W (.BoolOp .And (b :: rest) pos) q) : SW X W (.BoolOp .And (a :: b :: rest) pos) (sAnd p q) := by
  obtain ⟨t, h1, h2⟩ := ha
  obtain ⟨u, h3, h4⟩ := hb
  refine ⟨_, pw_and h1 h3, fun ρ σ G H Q rl hq => h2 ρ σ G H _ rl ((Asks.bind hq).imp fun x ρ1 G1 H1 e1 s1 q1 => ?_)⟩
  cases x with
  | true => exact h4 ρ1 σ G1 H1 Q s1.rel q1
  | false => exact Asks.pure s1.rel q1
theorem sw_or {rest : List Expr} (ha : ST X W a p) (hb : SW X W (.BoolOp .Or (b :: rest) pos) q) : SW X W (.BoolOp .Or (a :: b :: rest) pos) (sOr p q) := by
  obtain ⟨t, h1, h2⟩ := ha
  obtain ⟨u, h3, h4⟩ := hb
  refine ⟨_, pw_or h1 h3, fun ρ σ G H Q rl hq => h2 ρ σ G H _ rl ((Asks.bind hq).imp fun x ρ1 G1 H1 e1 s1 q1 => ?_)⟩
  cases x with
  | true => exact Asks.pure s1.rel q1
  | false => exact h4 ρ1 σ G1 H1 Q s1.rel q1
theorem st_not (ha : ST X W a p) : ST X W (.UnaryOp .Not a pos) (sNot p) := by
  obtain ⟨t, h1, h2⟩ := ha
  exact ⟨_, pt_not h1, fun ρ σ G H Q rl hq => h2 ρ σ G H _ rl ((Asks.bind hq).imp fun x ρ1 G1 H1 e1 s1 q1 => Asks.pure s1.rel q1)⟩
/-- .. as values (bools) -/
def sAndV (f g : SemE D) : SemE D := fun ρ => (toB (f ρ)).bind fun b ρ1 => if b = true then g ρ1 else .ok (.bl false) ρ1
def sOrV (f g : SemE D) : SemE D := fun ρ => (toB (f ρ)).bind fun b ρ1 => if b = true then .ok (.bl true) ρ1 else g ρ1
def sNotV (f : SemE D) : SemE D := fun ρ => (toB (f ρ)).bind fun b ρ1 => .ok (.bl !b) ρ1
theorem toB_ask {K : PySem.W.Frag} {ρ : List Sl} {σ : Sg} {G H : Hp} {r : Res D} {q : Bool → List Sl → Hp → Hp → Prop} (h : Asks K ρ σ G H W (toB r) q) :
    Asks K ρ σ G H W r fun d ρ' G' H' => ∃ b, d = .bl b ∧ q b ρ' G' H' := by
  refine (Asks.bind h).imp fun x ρ1 G1 H1 e1 s1 q1 => ?_
  cases x with
  | bl b => exact ⟨b, rfl, Asks.pure s1.rel q1⟩
  | _ => exact q1.elim
theorem se_one {op} (h : SE X W a f) : SE X W (.BoolOp op [a] pos) f := by
  obtain ⟨t, h1, h2⟩ := h
  exact ⟨t, pe_one h1, h2⟩
theorem se_and {rest : List Expr} (ha : SE X W a f) (hb : SE X W (.BoolOp .And (b :: rest) pos) g) : SE X W (.BoolOp .And (a :: b :: rest) pos) (sAndV f g) := by
  obtain ⟨t, h1, h2⟩ := ha
  obtain ⟨u, h3, h4⟩ := hb
  refine ⟨_, pe_and h1 h3, fun ρ σ G H Q rl hq => h2 ρ σ G H _ rl ((toB_ask (Asks.bind hq)).imp fun x ρ1 G1 H1 e1 s1 q1 v hv => ?_)⟩
  obtain ⟨k, rfl, q1⟩ := q1
  cases hv
  refine ⟨k, rfl, ?_⟩
  cases k with
  | true => exact h4 ρ1 σ G1 H1 Q s1.rel q1
  | false => exact Asks.pure s1.rel q1 _ (.bl _)
theorem se_or {rest : List Expr} (ha : SE X W a f) (hb : SE X W (.BoolOp .Or (b :: rest) pos) g) : SE X W (.BoolOp .Or (a :: b :: rest) pos) (sOrV f g) := by
  obtain ⟨t, h1, h2⟩ := ha
  obtain ⟨u, h3, h4⟩ := hb
  refine ⟨_, pe_or h1 h3, fun ρ σ G H Q rl hq => h2 ρ σ G H _ rl ((toB_ask (Asks.bind hq)).imp fun x ρ1 G1 H1 e1 s1 q1 v hv => ?_)⟩
  obtain ⟨k, rfl, q1⟩ := q1
  cases hv
  refine ⟨k, rfl, ?_⟩
  cases k with
  | true => exact Asks.pure s1.rel q1 _ (.bl _)
  | false => exact h4 ρ1 σ G1 H1 Q s1.rel q1
theorem se_not (ha : SE X W a f) : SE X W (.UnaryOp .Not a pos) (sNotV f) := by
  obtain ⟨t, h1, h2⟩ := ha
  refine ⟨_, pe_not h1, fun ρ σ G H Q rl hq => h2 ρ σ G H _ rl ((toB_ask (Asks.bind hq)).imp fun x ρ1 G1 H1 e1 s1 q1 v hv => ?_)⟩
  obtain ⟨k, rfl, q1⟩ := q1
  cases hv
  exact ⟨k, rfl, Asks.pure s1.rel q1 _ (.bl _)⟩
def sIf (p : SemE Bool) (f g : SemE D) : SemE D := fun ρ => (p ρ).bind fun b ρ1 => if b = true then f ρ1 else g ρ1
theorem se_if (hc : ST X W c p) (ha : SE X W a f) (hb : SE X W b g) : SE X W (.IfExp c a b pos) (sIf p f g) := by
  obtain ⟨t, h1, h2⟩ := hc
  obtain ⟨u, h3, h4⟩ := ha
  obtain ⟨w, h5, h6⟩ := hb
  refine ⟨_, pe_ifExp h1 h3 h5, fun ρ σ G H Q rl hq => h2 ρ σ G H _ rl ((Asks.bind hq).imp fun x ρ1 G1 H1 e1 s1 q1 => ?_)⟩
  cases x with
  | true => exact h4 ρ1 σ G1 H1 Q s1.rel q1
  | false => exact h6 ρ1 σ G1 H1 Q s1.rel q1
/-! one-place operators -/
def RUn (K : PySem.W.Frag) (r : V → Hp → VK → Prop) (op : D → Option D) : Prop :=
  ∀ G H x dx d Q, Same G H → Ds K G x dx → op dx = some d → (∀ v G' H', Grow (fun _ => False) G H G' H' → Same G' H' → Ds K G' v d → Q v H') → r x H Q
def lift1 (op : D → Option D) (x : D) (ρ : List Sl) : Res D := match op x with
  | some d => .ok d ρ
  | none => .bad
def sUn (op : D → Option D) (f : SemE D) : SemE D := fun ρ => (f ρ).bind fun x ρ1 => lift1 op x ρ1
theorem se_un {op : UnaryOp} {r : V → Hp → VK → Prop} {fo : D → Option D} (ho : UnR X (unaryOp op) r) (hr : RUn X.K r fo) (ha : SE X W a f) : SE X W (.UnaryOp op a pos) (sUn fo f) := by
  obtain ⟨ta, pa, qa⟩ := ha
  refine ⟨_, pe_un ho pa, fun ρ σ G H Q rl q => qa ρ σ G H _ rl ((Asks.bind q).imp fun x ρ1 G1 H1 e1 s1 q1 v hv => ?_)⟩
  unfold lift1 at q1
  cases e : fo x with
  | none => rw [e] at q1; exact q1.elim
  | some d => rw [e] at q1; exact hr G1 H1 v x d Q s1.rel.same hv e fun w G' H' g s dw => q1 G' H' (s1.rel.step g s) w dw

/-! ### lists of expressions -/
def sNil : SemE (List D) := fun ρ => .ok [] ρ
def sCons (f : SemE D) (g : SemE (List D)) : SemE (List D) := fun ρ => (f ρ).bind fun x ρ1 => (g ρ1).bind fun xs ρ2 => .ok (x :: xs) ρ2
variable {fs : SemE (List D)}
theorem sa_nil : SA X W [] sNil := ⟨tNil, pa_nil, fun ρ σ G H Q rl q => Asks.pure rl q [] .nil⟩
theorem sa_cons (ha : SE X W e f) (hr : SA X W es fs) (hs : starEach (e :: es) X.env = (false, eval e X.env) :: starEach es X.env := by rfl) : SA X W (e :: es) (sCons f fs) := by
  obtain ⟨t, h1, h2⟩ := ha
  obtain ⟨u, h3, h4⟩ := hr
  refine ⟨_, pa_cons h1 h3 hs, fun ρ σ G H Q rl q => h2 ρ σ G H _ rl ((Asks.bind q).imp fun x ρ1 G1 H1 e1 s1 q1 v hv => ?_)⟩
  refine h4 ρ1 σ G1 H1 _ s1.rel ((Asks.bind q1).imp fun xs ρ2 G2 H2 e2 s2 q2 vs hvs => ?_)
  exact Asks.pure s2.rel q2 (v :: vs) (.cons (hv.mono s2.grow.gg) hvs)
/-- a tuple, a list of written items -/
def sTup (fs : SemE (List D)) : SemE D := fun ρ => (fs ρ).bind fun xs ρ1 => if xs.length ≤ 10000000 then .ok (.tup xs) ρ1 else .bad
def sLst (fs : SemE (List D)) : SemE D := fun ρ => (fs ρ).bind fun xs ρ1 => if xs.length ≤ 10000000 then .ok (.lst xs) ρ1 else .bad
theorem tenM : (10000000 : Nat) ≤ sizeLine := by rw [sizeLine_eq]; omega
theorem se_tup {k} (h : SA X W es fs) : SE X W (.Tuple es k pos) (sTup fs) := by
  obtain ⟨t, h1, h2⟩ := h
  refine ⟨_, pe_tup h1, fun ρ σ G H Q rl q => h2 ρ σ G H _ rl ((Asks.bind q).imp fun xs ρ1 G1 H1 e1 s1 q1 vs hvs => ?_)⟩
  split at q1
  · rename_i hl
    refine ⟨Nat.le_trans (by rw [hvs.length]; exact hl) tenM, fun p hp => ?_⟩
    refine q1 _ _ (s1.rel.step (Grow.new s1.rel.same hp) (Same.new s1.rel.same)) _ (.tup upd_same (hvs.mono (Same.at s1.rel.same hp)))
  · exact q1.elim
theorem se_lst (h : SA X W es fs) : SE X W (.List es pos) (sLst fs) := by
  obtain ⟨t, h1, h2⟩ := h
  refine ⟨_, pe_lst h1, fun ρ σ G H Q rl q => h2 ρ σ G H _ rl ((Asks.bind q).imp fun xs ρ1 G1 H1 e1 s1 q1 vs hvs => ?_)⟩
  split at q1
  · rename_i hl
    refine ⟨Nat.le_trans (by rw [hvs.length]; exact hl) tenM, fun p hp => ?_⟩
    refine q1 _ _ (s1.rel.step (Grow.new s1.rel.same hp) (Same.new s1.rel.same)) _ (.lst upd_same (hvs.mono (Same.at s1.rel.same hp)))
  · exact q1.elim
/-! a call of a builtin by values -/
def RCall (K : PySem.W.Frag) (r : List V → Hp → VK → Prop) (fn : List D → Option D) : Prop :=
  ∀ G H xs ds d Q, Same G H → DsL K G xs ds → fn ds = some d → (∀ v G' H', Grow (fun _ => False) G H G' H' → Same G' H' → Ds K G' v d → Q v H') → r xs H Q
def sFn (fn : List D → Option D) (fs : SemE (List D)) : SemE D := fun ρ => (fs ρ).bind fun xs ρ1 => match fn xs with
  | some d => .ok d ρ1
  | none => .bad
theorem tFn_of {K : PySem.W.Frag} {r : List V → Hp → VK → Prop} {fn : List D → Option D} {ta : TA} {fs : SemE (List D)} (hr : RCall K r fn)
    (h2 : ∀ ρ σ G H Q, Rel K ρ σ G H → Asks K ρ σ G H W (fs ρ) (fun ds _ G' H' => ∀ vs, DsL K G' vs ds → Q vs H') → ta σ H Q) :
    ∀ ρ σ G H Q, Rel K ρ σ G H → Asks K ρ σ G H W (sFn fn fs ρ) (fun d _ G' H' => ∀ v, Ds K G' v d → Q v H') → ta σ H fun vs H1 => r vs H1 Q := by
  intro ρ σ G H Q rl q
  refine h2 ρ σ G H _ rl ((Asks.bind q).imp fun xs ρ1 G1 H1 e1 s1 q1 vs hvs => ?_)
  cases e : fn xs with
  | none => rw [e] at q1; exact q1.elim
  | some d => rw [e] at q1; exact hr G1 H1 vs xs d Q s1.rel.same hvs e fun w G' H' g s dw => q1 G' H' (s1.rel.step g s) w dw
end

/-! ### statements -/
inductive SR where
  | nx (ρ : List Sl) | rt (d : D) (ρ : List Sl) | bk (ρ : List Sl) | ct (ρ : List Sl) | exc (x : Ex) (ρ : List Sl) | bad
abbrev SemS := List Sl → SR
def AskS (K : PySem.W.Frag) (ρ : List Sl) (σ : Sg) (G H : Hp) (W : WX) (r : SR) (E : Ends) : Prop := match r with
  | .nx ρ' => ∀ σ' G' H', Step K ρ σ G H ρ' σ' G' H' → E.nx σ' H'
  | .rt d ρ' => ∀ v σ' G' H', Step K ρ σ G H ρ' σ' G' H' → Ds K G' v d → E.rt v H'
  | .bk ρ' => ∀ σ' G' H', Step K ρ σ G H ρ' σ' G' H' → E.bk σ' H'
  | .ct ρ' => ∀ σ' G' H', Step K ρ σ G H ρ' σ' G' H' → E.ct σ' H'
  | .exc x ρ' => ∀ σ' G' H' cls dx, Step K ρ σ G H ρ' σ' G' H' → ExOk K G' x cls dx → W cls dx σ' H'
  | .bad => False
def SS (X : Cx) (W : WX) (st : Stmt) (f : SemS) : Prop :=
  ∃ ts, PS X st ts ∧ ∀ ρ σ G H E, Rel X.K ρ σ G H → AskS X.K ρ σ G H W (f ρ) E → ts E σ H
def SSs (X : Cx) (W : WX) (st : List Stmt) (f : SemS) : Prop :=
  ∃ ts, PSs X st ts ∧ ∀ ρ σ G H E, Rel X.K ρ σ G H → AskS X.K ρ σ G H W (f ρ) E → ts E σ H
def SR.then (r : SR) (k : SemS) : SR := match r with
  | .nx ρ => k ρ
  | r => r
@[simp] theorem SR.then_nx (ρ : List Sl) (k : SemS) : (SR.nx ρ).then k = k ρ := rfl
@[simp] theorem SR.then_rt (d : D) (ρ : List Sl) (k : SemS) : (SR.rt d ρ).then k = .rt d ρ := rfl
@[simp] theorem SR.then_exc (d : Ex) (ρ : List Sl) (k : SemS) : (SR.exc d ρ).then k = .exc d ρ := rfl
@[simp] theorem SR.then_bk (ρ : List Sl) (k : SemS) : (SR.bk ρ).then k = .bk ρ := rfl
@[simp] theorem SR.then_ct (ρ : List Sl) (k : SemS) : (SR.ct ρ).then k = .ct ρ := rfl
@[simp] theorem SR.then_bad (k : SemS) : SR.bad.then k = .bad := rfl
/-- behind a step -/
theorem AskS.step {K : PySem.W.Frag} {ρ ρ1 : List Sl} {σ σ1 : Sg} {G H G1 H1 : Hp} {W : WX} {r : SR} {E : Ends} (s : Step K ρ σ G H ρ1 σ1 G1 H1) (h : AskS K ρ σ G H W r E) : AskS K ρ1 σ1 G1 H1 W r E := by
  cases r with
  | nx ρ' => exact fun σ' G' H' s' => h σ' G' H' (s.trans s')
  | rt d ρ' => exact fun v σ' G' H' s' => h v σ' G' H' (s.trans s')
  | bk ρ' => exact fun σ' G' H' s' => h σ' G' H' (s.trans s')
  | ct ρ' => exact fun σ' G' H' s' => h σ' G' H' (s.trans s')
  | exc x ρ' => exact fun σ' G' H' cls dx s' => h σ' G' H' cls dx (s.trans s')
  | bad => exact h
theorem AskS.bind {K : PySem.W.Frag} {ρ : List Sl} {σ : Sg} {G H : Hp} {W : WX} {r : SR} {k : SemS} {E : Ends} {ts : TS} (h : AskS K ρ σ G H W (r.then k) E)
    (hk : ∀ ρ1 σ1 G1 H1 E, Rel K ρ1 σ1 G1 H1 → AskS K ρ1 σ1 G1 H1 W (k ρ1) E → ts E σ1 H1) : AskS K ρ σ G H W r { E with nx := ts E } := by
  cases r with
  | nx ρ1 => exact fun σ1 G1 H1 s => hk ρ1 σ1 G1 H1 E s.rel (AskS.step s h)
  | rt d ρ' => exact h
  | bk ρ' => exact h
  | ct ρ' => exact h
  | exc x ρ' => exact h
  | bad => exact h
/-- an expression, then the rest of a statement -/
theorem Asks.stmt {α : Type} {K : PySem.W.Frag} {ρ : List Sl} {σ : Sg} {G H : Hp} {W : WX} {r : Res α} {k : α → List Sl → SR} {E : Ends}
    (h : AskS K ρ σ G H W (match r with | .ok a ρ1 => k a ρ1 | .exc x ρ1 => .exc x ρ1 | .bad => .bad) E) : Asks K ρ σ G H W r fun a ρ1 G1 H1 => AskS K ρ1 σ G1 H1 W (k a ρ1) E := by
  cases r with
  | ok a ρ1 => exact fun G1 H1 s => AskS.step s h
  | exc x ρ1 => exact fun G' H' cls dx s x => h σ G' H' cls dx s x
  | bad => exact h
theorem AskS.pure {K : PySem.W.Frag} {ρ : List Sl} {σ : Sg} {G H : Hp} {W : WX} {E : Ends} (r : Rel K ρ σ G H) (h : AskS K ρ σ G H W (.nx ρ) E) : E.nx σ H := h σ G H (Step.refl r)
def Res.st {α : Type} (r : Res α) (k : α → List Sl → SR) : SR := match r with
  | .ok a ρ1 => k a ρ1
  | .exc x ρ1 => .exc x ρ1
  | .bad => .bad
@[simp] theorem Res.st_ok {α : Type} (a : α) (ρ : List Sl) (k : α → List Sl → SR) : (Res.ok a ρ).st k = k a ρ := rfl
@[simp] theorem Res.st_exc {α : Type} (x : Ex) (ρ : List Sl) (k : α → List Sl → SR) : (Res.exc x ρ : Res α).st k = .exc x ρ := rfl
@[simp] theorem Res.st_bad {α : Type} (k : α → List Sl → SR) : (Res.bad : Res α).st k = .bad := rfl
section
variable {X : Cx} {W : WX} {e a b c : Expr} {st : Stmt} {sts : List Stmt} {f g : SemE D} {p : SemE Bool} {u v : SemS} {pos : Pos}
def sSeq (u v : SemS) : SemS := fun ρ => (u ρ).then v
def sNext : SemS := fun ρ => .nx ρ
theorem ss_nil : SSs X W [] sNext := ⟨tNext, pss_nil, fun ρ σ G H E rl q => AskS.pure rl q⟩
theorem ss_cons (h : SS X W st u) (k : SSs X W sts v) : SSs X W (st :: sts) (sSeq u v) := by
  obtain ⟨t, h1, h2⟩ := h
  obtain ⟨w, h3, h4⟩ := k
  exact ⟨_, pss_cons h1 h3, fun ρ σ G H E rl q => h2 ρ σ G H _ rl (AskS.bind q h4)⟩
theorem ss_one (h : SS X W st u) : SSs X W [st] u := by
  obtain ⟨t, h1, h2⟩ := h
  exact ⟨_, pss_one h1, h2⟩
theorem ss_pass : SS X W (.Pass pos) sNext := ⟨tNext, ps_pass, fun ρ σ G H E rl q => AskS.pure rl q⟩
theorem ss_doc {x j} {pos' : Pos} : SS X W (.Expr (.Constant (.str x) j pos) pos') sNext := ⟨tNext, ps_doc, fun ρ σ G H E rl q => AskS.pure rl q⟩
def sBreak : SemS := fun ρ => .bk ρ
def sCont : SemS := fun ρ => .ct ρ
theorem ss_break : SS X W (.Break pos) sBreak := ⟨tBreak, ps_break, fun ρ σ G H E rl q => q σ G H (Step.refl rl)⟩
theorem ss_cont : SS X W (.Continue pos) sCont := ⟨tCont, ps_continue, fun ρ σ G H E rl q => q σ G H (Step.refl rl)⟩
def sRet (f : SemE D) : SemS := fun ρ => (f ρ).st fun d ρ1 => .rt d ρ1
theorem ss_ret (h : SE X W e f) : SS X W (.Return (some e) pos) (sRet f) := by
  obtain ⟨t, h1, h2⟩ := h
  refine ⟨_, ps_ret h1, fun ρ σ G H E rl q => h2 ρ σ G H _ rl ((Asks.stmt (k := fun d ρ1 => .rt d ρ1) q).imp fun d ρ1 G1 H1 e1 s1 q1 v hv => ?_)⟩
  exact q1 v σ G1 H1 (Step.refl s1.rel) hv
def sRetN : SemS := fun ρ => .rt .non ρ
theorem ss_retN : SS X W (.Return none pos) sRetN := ⟨tRetN, ps_retN, fun ρ σ G H E rl q => q .non σ G H (Step.refl rl) .non⟩
def sDrop (f : SemE D) : SemS := fun ρ => (f ρ).st fun _ ρ1 => .nx ρ1
theorem ss_expr (h : SE X W e f) (hs : swapsWith e none pos.line X.env = pure false := by rfl) : SS X W (.Expr e pos) (sDrop f) := by
  obtain ⟨t, h1, h2⟩ := h
  refine ⟨_, ps_expr h1 hs, fun ρ σ G H E rl q => h2 ρ σ G H _ rl ((Asks.stmt (k := fun d ρ1 => .nx ρ1) q).imp fun d ρ1 G1 H1 e1 s1 q1 v hv => ?_)⟩
  exact AskS.pure s1.rel q1
def sIfS (p : SemE Bool) (u v : SemS) : SemS := fun ρ => (p ρ).st fun b ρ1 => if b = true then u ρ1 else v ρ1
theorem ss_if {sa sb : List Stmt} (hc : ST X W c p) (ha : SSs X W sa u) (hb : SSs X W sb v) : SS X W (.If c sa sb pos) (sIfS p u v) := by
  obtain ⟨t, h1, h2⟩ := hc
  obtain ⟨t2, h3, h4⟩ := ha
  obtain ⟨t3, h5, h6⟩ := hb
  refine ⟨_, ps_if h1 h3 h5, fun ρ σ G H E rl q => h2 ρ σ G H _ rl ((Asks.stmt (k := fun b ρ1 => if b = true then u ρ1 else v ρ1) q).imp fun d ρ1 G1 H1 e1 s1 q1 => ?_)⟩
  cases d with
  | true => exact h4 ρ1 σ G1 H1 E s1.rel q1
  | false => exact h6 ρ1 σ G1 H1 E s1.rel q1

/-! ### targets -/
/-- a value stored into a slot -/
def put (i : Nat) (d : D) (ρ : List Sl) : Option (List Sl) := match ρ[i]? with
  | some (.o true _) => none
  | none => none
  | some _ => some (ρ.set i (.v d))
theorem Rel.put {K : PySem.W.Frag} {ρ ρ' : List Sl} {σ : Sg} {G H : Hp} {i : Nat} {v : V} {d : D} (r : Rel K ρ σ G H) (h : Ds K G v d) (e : Sh.put i d ρ = some ρ') : Step K ρ σ G H ρ' (σ.set i (some v)) G H := by
  unfold Sh.put at e
  have hi : ∃ s, ρ[i]? = some s ∧ (∀ m, s ≠ .o true m) ∧ ρ' = ρ.set i (.v d) := by
    cases q : ρ[i]? with
    | none => rw [q] at e; cases e
    | some s =>
      rw [q] at e
      cases s with
      | un => exact ⟨_, rfl, (fun m z => nomatch z), (Option.some.inj e).symm⟩
      | v _ => exact ⟨_, rfl, (fun m z => nomatch z), (Option.some.inj e).symm⟩
      | o p m =>
        cases p with
        | true => cases e
        | false => exact ⟨_, rfl, (fun m z => nomatch z), (Option.some.inj e).symm⟩
  obtain ⟨s0, q0, np, rfl⟩ := hi
  have hil : i < ρ.length := (List.getElem?_eq_some_iff.mp q0).1
  have hiσ : i < σ.length := by rw [← r.len]; exact hil
  have own : ∀ (j : Nat) (p : Bool) (m : Mu), (ρ.set i (.v d))[j]? = some (Sl.o p m) → j ≠ i ∧ ρ[j]? = some (.o p m) := by
    intro j p m hj
    by_cases z : j = i
    · subst z; rw [List.getElem?_set_self hil] at hj; cases hj
    · rw [List.getElem?_set_ne (Ne.symm z)] at hj; exact ⟨z, hj⟩
  refine ⟨⟨by rw [List.length_set, List.length_set]; exact r.len, r.same, fun j s hj => ?_, fun j k a p q m n hj hk h1 h2 => ?_⟩, Grow.refl, fun a ⟨j, p, m, hj, ha⟩ => ?_, fun j m hj => ?_, by rw [List.length_set]⟩
  · by_cases z : j = i
    · subst z
      rw [List.getElem?_set_self hil] at hj
      cases hj
      exact ⟨v, by rw [List.getElem?_set_self hiσ], h⟩
    · rw [List.getElem?_set_ne (Ne.symm z)] at hj ⊢
      exact r.sl j s hj
  · obtain ⟨z1, hj⟩ := own j p m hj
    obtain ⟨z2, hk⟩ := own k q n hk
    rw [List.getElem?_set_ne (Ne.symm z1)] at h1
    rw [List.getElem?_set_ne (Ne.symm z2)] at h2
    exact r.inj j k a p q m n hj hk h1 h2
  · obtain ⟨z, hj⟩ := own j p m hj
    rw [List.getElem?_set_ne (Ne.symm z)] at ha
    exact .inl ⟨j, p, m, hj, ha⟩
  · have z : j ≠ i := fun z => by subst z; rw [q0] at hj; exact np m (Option.some.inj hj)
    exact ⟨List.getElem?_set_ne (Ne.symm z), m, by rw [List.getElem?_set_ne (Ne.symm z)]; exact hj⟩
def TgAsk (is : List Nat) (K : PySem.W.Frag) (ρ : List Sl) (σ : Sg) (G H : Hp) (Q : Sg → Prop) : Option (List Sl) → Prop
  | some ρ' => ∀ σ', Step K ρ σ G H ρ' σ' G H → (∀ j, j ∉ is → σ'[j]? = σ[j]?) → Q σ'
  | none => False
abbrev SemG := D → List Sl → Option (List Sl)
def SG (X : Cx) (tg : Expr) (is : List Nat) (t : SemG) : Prop :=
  ∃ gt, PG X tg gt ∧ ∀ ρ σ G H v d Q, Rel X.K ρ σ G H → Ds X.K G v d → TgAsk is X.K ρ σ G H (fun σ' => Q σ' H) (t d ρ) → gt v σ H Q
abbrev SemGs := List D → List Sl → Option (List Sl)
def SGs (X : Cx) (ts : List Expr) (is : List Nat) (t : SemGs) : Prop :=
  ∃ gt, PGs X ts gt ∧ ∀ ρ σ G H vs ds Q, Rel X.K ρ σ G H → DsL X.K G vs ds → TgAsk is X.K ρ σ G H (fun σ' => Q σ' H) (t ds ρ) → gt vs σ H Q
def gPut (i : Nat) : SemG := fun d ρ => put i d ρ
theorem sg_name (i : Nat) {x : Str} (hN : X.N.Nodup) (hi : X.N[i]? = some x := by rfl) (hx : Loc X.env.scope x := by first | exact Or.inl rfl | exact Or.inr rfl) (hf : X.fn x = true ∨ X.env.scope.names.lookup x = some .local := by first | exact .inl rfl | exact .inr rfl | assumption) :
    SG X (.Name x pos) [i] (gPut i) := by
  refine ⟨gName i, pg_name hN hi hx hf, fun ρ σ G H v d Q rl hd q => ?_⟩
  unfold gPut at q
  cases e : put i d ρ with
  | none => rw [e] at q; exact q.elim
  | some ρ' =>
    rw [e] at q
    exact q _ (rl.put hd e) fun j hj => List.getElem?_set_ne fun z => hj (by rw [z]; exact List.mem_cons_self)
def gsNil : SemGs := fun ds ρ => match ds with
  | [] => some ρ
  | _ => none
def gsCons (t : SemG) (u : SemGs) : SemGs := fun ds ρ => match ds with
  | [] => none
  | d :: ds => (t d ρ).bind fun ρ1 => u ds ρ1
theorem sgs_nil : SGs X [] [] gsNil := by
  refine ⟨gNil, pgs_nil, fun ρ σ G H vs ds Q rl hd q => ?_⟩
  cases hd with
  | nil => exact ⟨rfl, q σ (Step.refl rl) fun _ _ => rfl⟩
  | cons _ _ => exact q.elim
theorem sgs_cons {es : List Expr} {is js : List Nat} {t : SemG} {w : SemGs} (h1 : SG X e is t) (h2 : SGs X es js w) (hs : (assignEach (e :: es) X.env).map (·.2) = assign e X.env :: (assignEach es X.env).map (·.2) := by rfl) : SGs X (e :: es) (is ++ js) (gsCons t w) := by
  obtain ⟨g1, p1, q1⟩ := h1
  obtain ⟨g2, p2, q2⟩ := h2
  refine ⟨_, pgs_cons p1 p2 hs, fun ρ σ G H vs ds Q rl hd q => ?_⟩
  cases hd with
  | nil => exact q.elim
  | @cons v vs d ds hv hvs =>
    refine ⟨v, vs, rfl, q1 ρ σ G H v d _ rl hv ?_⟩
    have q : TgAsk (is ++ js) X.K ρ σ G H (fun σ' => Q σ' H) ((t d ρ).bind fun ρ1 => w ds ρ1) := q
    cases e1 : t d ρ with
    | none => rw [e1] at q; exact q.elim
    | some ρ1 =>
      rw [e1] at q
      intro σ1 s1 n1
      refine q2 ρ1 σ1 G H vs ds Q s1.rel hvs ?_
      have q : TgAsk (is ++ js) X.K ρ σ G H (fun σ' => Q σ' H) (w ds ρ1) := q
      cases e2 : w ds ρ1 with
      | none => rw [e2] at q; exact q
      | some ρ2 => rw [e2] at q; exact fun σ2 s2 n2 => q σ2 (s1.trans s2) fun j hj => (n2 j fun z => hj (List.mem_append_right _ z)).trans (n1 j fun z => hj (List.mem_append_left _ z))
/-- (a, b, ..) = a tuple of that length -/
def gTupS (n : Nat) (t : SemGs) : SemG := fun d ρ => match d with
  | .tup ds => if ds.length = n then t ds ρ else none
  | _ => none
theorem sg_tup {es : List Expr} {k n : Nat} {is : List Nat} {t : SemGs} (hc : X.calm = true) (h : SGs X es is t) (hn : (assignEach es X.env).length = n := by rfl) (hst : (assignEach es X.env).findIdx? (·.1) = none := by rfl) :
    SG X (.Tuple es k pos) is (gTupS n t) := by
  obtain ⟨g, p, q⟩ := h
  refine ⟨_, pg_tup hc p hn hst, fun ρ σ G H v d Q rl hd qq => ?_⟩
  cases hd with
  | @tup a xs ds hs hl =>
    have qq : TgAsk is X.K ρ σ G H (fun σ' => Q σ' H) (if ds.length = n then t ds ρ else none) := qq
    by_cases hn' : ds.length = n
    · rw [if_pos hn'] at qq
      exact ⟨a, xs, rfl, SqT.of (rl.same _ _ hs), by rw [hl.length]; exact hn', q ρ σ G H xs ds Q rl hl qq⟩
    · rw [if_neg hn'] at qq
      exact qq.elim
  | _ => exact qq.elim
/-- target = value -/
def ofPut (r : Option (List Sl)) : SR := match r with
  | some ρ2 => .nx ρ2
  | none => .bad
def sAsg (f : SemE D) (t : SemG) : SemS := fun ρ => (f ρ).st fun d ρ1 => ofPut (t d ρ1)
theorem ask_tg {is : List Nat} {K : PySem.W.Frag} {ρ : List Sl} {σ : Sg} {G H : Hp} {r : Option (List Sl)} {E : Ends} (h : AskS K ρ σ G H W (ofPut r) E) :
    TgAsk is K ρ σ G H (fun σ' => E.nx σ' H) r := by
  cases r with
  | none => exact h
  | some ρ' => exact fun σ' s _ => h σ' G H s
theorem ss_set (i : Nat) {x : Str} {pos' : Pos} (hN : X.N.Nodup) (he : SE X W e f) (hi : X.N[i]? = some x := by rfl) (hx : Loc X.env.scope x := by first | exact Or.inl rfl | exact Or.inr rfl) (hs : swapsWith e (some (.Name x pos')) pos.line X.env = pure false := by rfl) (hf : X.fn x = true ∨ X.env.scope.names.lookup x = some .local := by first | exact .inl rfl | exact .inr rfl | assumption) :
    SS X W (.Assign [.Name x pos'] e pos) (sAsg f (gPut i)) := by
  obtain ⟨t, h1, h2⟩ := he
  refine ⟨_, ps_set hN hi hx h1 hs hf, fun ρ σ G H E rl q => h2 ρ σ G H _ rl ((Asks.stmt (k := fun d ρ1 => ofPut (gPut i d ρ1)) q).imp fun d ρ1 G1 H1 e1 s1 q1 v hv => ?_)⟩
  have q2 := ask_tg (is := [i]) q1
  unfold gPut at q2
  cases e2 : put i d ρ1 with
  | none => rw [e2] at q2; exact q2.elim
  | some ρ' => rw [e2] at q2; exact q2 _ (s1.rel.put hv e2) fun j hj => List.getElem?_set_ne fun z => hj (by rw [z]; exact List.mem_cons_self)
theorem ss_asg {tg : Expr} {is : List Nat} {t : SemG} (he : SE X W e f) (hg : SG X tg is t) (hs : swapsWithSole [tg] e pos.line X.env = pure false := by rfl) (hw : swappedStores [tg] e X.env = pure none := by rfl)
    (h1 : (assignEach [tg] X.env).map (·.2) = [assign tg X.env] := by rfl) : SS X W (.Assign [tg] e pos) (sAsg f t) := by
  obtain ⟨te, p1, q1⟩ := he
  obtain ⟨g, p2, q2⟩ := hg
  refine ⟨_, ps_asg p1 p2 hs hw h1, fun ρ σ G H E rl q => q1 ρ σ G H _ rl ((Asks.stmt (k := fun d ρ1 => ofPut (t d ρ1)) q).imp fun d ρ1 G1 H1 e1 s1 q3 v hv => ?_)⟩
  exact q2 ρ1 σ G1 H1 v d _ s1.rel hv (ask_tg q3)
end
end Sh

namespace Sh
open PySem PySem.Spec PyProof.Rows L2

/-! ### what a def promises: it computes F -/
def FnP (K : PySem.W.Frag) (n : Nat) (F : List Sl → Res D) : Sp := fun vs H Q E => ∃ (args : List Sl) (G : Hp), args.length = n ∧ Rel K args (vs.map some) G H ∧ (∀ (i : Nat) (p : Bool) (m : Mu), args[i]? = some (.o p m) → p = true) ∧
  Asks K args (vs.map some) G H (fun cls dx _ H' => E cls dx H') (F args) (fun d _ G' H' => ∀ v, Ds K G' v d → Q v H')
theorem FnP.len {K : PySem.W.Frag} {n : Nat} {F : List Sl → Res D} {vs : List V} {H : Hp} {Q : VK} {E : XK} (h : FnP K n F vs H Q E) : vs.length = n := by
  obtain ⟨args, G, hn, rl, _⟩ := h
  have e := rl.len
  rw [List.length_map] at e
  omega
/-- the arguments behind the body: what is own is as the body leaves it -/
def pick : Sl → Sl → Sl
  | .o _ _, r => r
  | s, _ => s
def back (args ρ : List Sl) : List Sl := List.zipWith pick args ρ
def runFn (k : Nat) (body : SemS) (args : List Sl) : Res D := match body (args ++ List.replicate k .un) with
  | .rt d ρ => .ok d (back args ρ)
  | .nx ρ => .ok .non (back args ρ)
  | .exc x ρ => .exc x (back args ρ)
  | _ => .bad
section
variable {K : PySem.W.Frag}
theorem ext_get {args : List Sl} {k i : Nat} {s : Sl} (h : (args ++ List.replicate k Sl.un)[i]? = some s) : args[i]? = some s ∨ s = .un := by
  by_cases hi : i < args.length
  · rw [List.getElem?_append_left hi] at h; exact .inl h
  · rw [List.getElem?_append_right (by omega)] at h
    exact .inr (List.eq_of_mem_replicate (List.mem_of_getElem? h))
theorem Rel.ext {args : List Sl} {σ : Sg} {G H : Hp} (r : Rel K args σ G H) (k : Nat) : Rel K (args ++ List.replicate k .un) (σ ++ List.replicate k none) G H := by
  refine ⟨by rw [List.length_append, List.length_append, List.length_replicate, List.length_replicate, r.len], r.same, fun i s hi => ?_, fun i j a p q m n hi hj h1 h2 => ?_⟩
  · by_cases hl : i < args.length
    · rw [List.getElem?_append_left hl] at hi
      rw [List.getElem?_append_left (by rw [← r.len]; exact hl)]
      exact r.sl i s hi
    · rw [List.getElem?_append_right (by omega)] at hi
      have e := List.eq_of_mem_replicate (List.mem_of_getElem? hi)
      subst e
      trivial
  · have hi' : args[i]? = some (.o p m) := (ext_get hi).resolve_right fun z => nomatch z
    have hj' : args[j]? = some (.o q n) := (ext_get hj).resolve_right fun z => nomatch z
    have l1 : i < σ.length := by rw [← r.len]; exact (List.getElem?_eq_some_iff.mp hi').1
    have l2 : j < σ.length := by rw [← r.len]; exact (List.getElem?_eq_some_iff.mp hj').1
    rw [List.getElem?_append_left l1] at h1
    rw [List.getElem?_append_left l2] at h2
    exact r.inj i j a p q m n hi' hj' h1 h2
theorem back_get {args ρ : List Sl} {i : Nat} {s : Sl} (h : (back args ρ)[i]? = some s) : ∃ a r, args[i]? = some a ∧ ρ[i]? = some r ∧ s = pick a r := by
  unfold back at h
  rw [List.getElem?_zipWith_eq_some] at h
  obtain ⟨a, r, h1, h2, h3⟩ := h
  exact ⟨a, r, h1, h2, h3.symm⟩
/-- the body's step, seen from the caller -/
theorem Step.back {args ρ' : List Sl} {σ σ' : Sg} {G H G' H' : Hp} {k : Nat} (s : Step K (args ++ List.replicate k .un) (σ ++ List.replicate k none) G H ρ' σ' G' H') (r : Rel K args σ G H)
    (hp : ∀ (i : Nat) (p : Bool) (m : Mu), args[i]? = some (.o p m) → p = true) : Step K args σ G H (Sh.back args ρ') σ G' H' := by
  have pn : ∀ (i : Nat) (p : Bool) (m : Mu), args[i]? = some (.o p m) → p = true ∧ σ'[i]? = σ[i]? ∧ ∃ m', ρ'[i]? = some (.o true m') := fun i p m h => by
    have e := hp i p m h
    subst e
    have l0 : i < args.length := (List.getElem?_eq_some_iff.mp h).1
    obtain ⟨h1, m', h2⟩ := s.pin i m (by rw [List.getElem?_append_left l0]; exact h)
    rw [List.getElem?_append_left (by rw [← r.len]; exact l0)] at h1
    exact ⟨rfl, h1, m', h2⟩
  have ow : ∀ a, Own (args ++ List.replicate k .un) (σ ++ List.replicate k none) a ↔ Own args σ a := fun a => by
    constructor
    · rintro ⟨i, p, m, h1, h2⟩
      have h1' := (ext_get h1).resolve_right fun z => nomatch z
      have l0 : i < args.length := (List.getElem?_eq_some_iff.mp h1').1
      rw [List.getElem?_append_left (by rw [← r.len]; exact l0)] at h2
      exact ⟨i, p, m, h1', h2⟩
    · rintro ⟨i, p, m, h1, h2⟩
      have l0 : i < args.length := (List.getElem?_eq_some_iff.mp h1).1
      exact ⟨i, p, m, by rw [List.getElem?_append_left l0]; exact h1, by rw [List.getElem?_append_left (by rw [← r.len]; exact l0)]; exact h2⟩
  have lρ : args.length ≤ ρ'.length := by
    have h1 := s.len
    rw [List.length_append] at h1
    omega
  refine ⟨⟨by unfold Sh.back; rw [List.length_zipWith, ← r.len]; omega, s.rel.same, fun i x hx => ?_, fun i j a p q m n hi hj h1 h2 => ?_⟩, ?_, fun a ⟨i, p, m, h1, h2⟩ => ?_, fun i m h => ?_, by unfold Sh.back; rw [List.length_zipWith]; omega⟩
  · obtain ⟨a, b, h1, h2, rfl⟩ := back_get hx
    cases a with
    | un => trivial
    | v d => obtain ⟨v, h3, h4⟩ := r.sl i _ h1; exact ⟨v, h3, h4.mono s.grow.gg⟩
    | o p m =>
      obtain ⟨rfl, e1, m', e2⟩ := pn i p m h1
      rw [h2] at e2
      have e3 : b = .o true m' := Option.some.inj e2
      subst e3
      have q := s.rel.sl i _ h2
      rw [e1] at q
      exact q
  · obtain ⟨a1, b1, g1, g2, g3⟩ := back_get hi
    obtain ⟨a2, b2, k1, k2, k3⟩ := back_get hj
    cases a1 with
    | un => cases g3
    | v d => cases g3
    | o p1 m1 =>
      cases a2 with
      | un => cases k3
      | v d => cases k3
      | o p2 m2 => exact r.inj i j a p1 p2 m1 m2 g1 k1 h1 h2
  · exact ⟨s.grow.gg, fun a h1 h2 h3 => s.grow.fr a h1 h2 fun z => h3 ((ow a).mp z), fun a o h1 h2 h3 => s.grow.keep a o h1 h2 fun z => h3 ((ow a).mp z), s.grow.stay⟩
  · obtain ⟨a1, b1, g1, g2, g3⟩ := back_get h1
    cases a1 with
    | un => cases g3
    | v d => cases g3
    | o p1 m1 => exact .inl ⟨i, p1, m1, g1, h2⟩
  · obtain ⟨_, e1, m', e2⟩ := pn i true m h
    refine ⟨rfl, m', ?_⟩
    unfold Sh.back
    rw [List.getElem?_zipWith_eq_some]
    exact ⟨_, _, h, e2, rfl⟩
/-- a def, by its body -/
theorem fn_sh {P : Program} {w : World} {mg : Str → Option Value} {base : Heap} {x qual : Str} {st : Stmt} {f : Addr} {fd : FuncData} {N ps : List Str} {k : Nat} {sem : SemS} (F : Fun K x qual st f fd) (S : FnScope N ps (defScope st))
    (hb : ∀ (cdv : Value) (A : Around) (outer : List Env) (s : Shared) (H : Hp) (E : XK), Room k (A.deeper (envOfC qual (defScope st) s.heap.objs.size f cdv)) →
      SSs (cxOf (L2.CX P w) P w K mg base N qual (defScope st) f cdv A outer s H E) (fun cls d _ H' => E cls d H') (defBody st) sem) :
    FnOk P w K mg base (L2.CX P w) (k + 1) f fd ps (FnP K ps.length (runFn (N.length - ps.length) sem)) := by
  refine F.okX S (fun vs H Q E h => h.len) (fun cdv A outer s H vs Q E hr h => ?_)
  obtain ⟨ts, h1, h2⟩ := hb cdv A outer s H E hr
  refine ⟨ts, h1, ?_⟩
  obtain ⟨args, G, hn, rl, pin, q⟩ := h
  have hl := rl.len
  rw [List.length_map] at hl
  have e0 : L2.start N vs = vs.map some ++ List.replicate (N.length - ps.length) none := by unfold L2.start; rw [show vs.length = ps.length by omega]
  rw [e0]
  refine h2 (args ++ List.replicate (N.length - ps.length) Sl.un) _ G H _ (Rel.ext rl (N.length - ps.length)) ?_
  unfold runFn at q
  cases e : sem (args ++ List.replicate (N.length - ps.length) .un) with
  | nx ρ' => rw [e] at q; exact fun σ' G' H' s => q G' H' (s.back rl pin) .non .non
  | rt d ρ' => rw [e] at q; exact fun v σ' G' H' s hv => q G' H' (s.back rl pin) v hv
  | exc x ρ' => rw [e] at q; exact fun σ' G' H' cls dx s hx => q G' H' cls dx (s.back rl pin) hx
  | bk ρ' => rw [e] at q; exact q.elim
  | ct ρ' => rw [e] at q; exact q.elim
  | bad => rw [e] at q; exact q.elim

end
/-! ### calls of own defs -/
inductive AE where
  | e (f : SemE D) | o (j : Nat)
inductive AV where
  | d (d : D) | o (j : Nat)
def evA : List AE → SemE (List AV)
  | [] => fun ρ => .ok [] ρ
  | .e f :: r => fun ρ => (f ρ).bind fun d ρ1 => (evA r ρ1).bind fun as ρ2 => .ok (.d d :: as) ρ2
  | .o j :: r => fun ρ => match ρ[j]? with
    | some (.o _ _) => (evA r ρ).bind fun as ρ1 => .ok (.o j :: as) ρ1
    | _ => .bad
def mkArg (ρ : List Sl) : AV → Option Sl
  | .d d => some (.v d)
  | .o j => match ρ[j]? with
    | some (.o _ m) => some (.o true m)
    | _ => none
def mkArgs (ρ : List Sl) : List AV → Option (List Sl)
  | [] => some []
  | a :: r => (mkArg ρ a).bind fun s => (mkArgs ρ r).bind fun ss => some (s :: ss)
/-- an own object's content behind a call -/
def setOwn (ρ : List Sl) (j : Nat) (s : Sl) : List Sl := match ρ[j]?, s with
  | some (.o p _), .o _ m => ρ.set j (.o p m)
  | _, _ => ρ
def backs (ρ : List Sl) : List AV → List Sl → List Sl
  | .o j :: r, s :: ss => backs (setOwn ρ j s) r ss
  | .d _ :: r, _ :: ss => backs ρ r ss
  | _, _ => ρ
def owns : List AV → List Nat
  | [] => []
  | .o j :: r => j :: owns r
  | .d _ :: r => owns r
def nodupB : List Nat → Bool
  | [] => true
  | a :: r => (!r.elem a) && nodupB r
theorem nodupB_ok : ∀ {l : List Nat}, nodupB l = true → l.Nodup
  | [], _ => List.nodup_nil
  | a :: r, h => by
    unfold nodupB at h
    rw [Bool.and_eq_true] at h
    refine List.nodup_cons.mpr ⟨fun m => ?_, nodupB_ok h.2⟩
    have h1 := h.1
    rw [List.elem_eq_true_of_mem m] at h1
    cases h1
def callF (F : List Sl → Res D) (as : List AV) (ρ : List Sl) : Res D := match mkArgs ρ as with
  | none => .bad
  | some args => if nodupB (owns as) = true then (match F args with
    | .ok d args' => .ok d (backs ρ as args')
    | .exc x args' => .exc x (backs ρ as args')
    | .bad => .bad) else .bad
def sCall (F : List Sl → Res D) (as : List AE) : SemE D := fun ρ => (evA as ρ).bind fun vs ρ1 => callF F vs ρ1
/-- the arguments' values -/
inductive AvOk (K : PySem.W.Frag) (G : Hp) (σ : Sg) : List V → List AV → Prop
  | nil : AvOk K G σ [] []
  | d {v : V} {vs : List V} {d : D} {as : List AV} : Ds K G v d → AvOk K G σ vs as → AvOk K G σ (v :: vs) (.d d :: as)
  | o {v : V} {vs : List V} {j : Nat} {as : List AV} : σ[j]? = some (some v) → AvOk K G σ vs as → AvOk K G σ (v :: vs) (.o j :: as)
def SAv (X : Cx) (W : WX) (es : List Expr) (fs : List AE) : Prop :=
  ∃ ta, PA X es ta ∧ ∀ ρ σ G H Q, Rel X.K ρ σ G H → Asks X.K ρ σ G H W (evA fs ρ) (fun as _ G' H' => ∀ vs, AvOk X.K G' σ vs as → Q vs H') → ta σ H Q
section
variable {X : Cx} {W : WX} {e : Expr} {es : List Expr} {f : SemE D} {fs : List AE} {pos : Pos}
theorem AvOk.mono {K : PySem.W.Frag} {G G' : Hp} {σ : Sg} (S : Same G G') : ∀ {vs : List V} {as : List AV}, AvOk K G σ vs as → AvOk K G' σ vs as
  | _, _, .nil => .nil
  | _, _, .d h t => .d (h.mono S) (AvOk.mono S t)
  | _, _, .o h t => .o h (AvOk.mono S t)
theorem sv_nil : SAv X W [] [] := ⟨tNil, pa_nil, fun ρ σ G H Q rl q => Asks.pure rl q [] .nil⟩
theorem sv_e (ha : SE X W e f) (hr : SAv X W es fs) (hs : starEach (e :: es) X.env = (false, eval e X.env) :: starEach es X.env := by rfl) : SAv X W (e :: es) (.e f :: fs) := by
  obtain ⟨t, h1, h2⟩ := ha
  obtain ⟨u, h3, h4⟩ := hr
  refine ⟨_, pa_cons h1 h3 hs, fun ρ σ G H Q rl q => h2 ρ σ G H _ rl ((Asks.bind q).imp fun x ρ1 G1 H1 e1 s1 q1 v hv => ?_)⟩
  refine h4 ρ1 σ G1 H1 _ s1.rel ((Asks.bind q1).imp fun xs ρ2 G2 H2 e2 s2 q2 vs hvs => ?_)
  exact Asks.pure s2.rel q2 (v :: vs) (.d (hv.mono s2.grow.gg) hvs)
/-- an own object, lent to the callee -/
theorem sv_o (j : Nat) (ha : PE X e (tVar j)) (hr : SAv X W es fs) (hs : starEach (e :: es) X.env = (false, eval e X.env) :: starEach es X.env := by rfl) : SAv X W (e :: es) (.o j :: fs) := by
  obtain ⟨u, h3, h4⟩ := hr
  refine ⟨_, pa_cons ha h3 hs, fun ρ σ G H Q rl q => ?_⟩
  unfold evA at q
  cases e0 : ρ[j]? with
  | none => rw [e0] at q; exact q.elim
  | some s0 =>
    rw [e0] at q
    cases s0 with
    | un => exact q.elim
    | v d => exact q.elim
    | o p m =>
      obtain ⟨a, o, hv, _⟩ := rl.sl j _ e0
      refine ⟨.ref a, hv, h4 ρ σ G H _ rl ((Asks.bind q).imp fun as ρ1 G1 H1 e1 s1 q1 vs hvs => ?_)⟩
      exact Asks.pure s1.rel q1 (.ref a :: vs) (.o hv hvs)
end
theorem AvOk.get {K : PySem.W.Frag} {G : Hp} {σ : Sg} : ∀ {vs : List V} {as : List AV} {i : Nat} {a : AV}, AvOk K G σ vs as → as[i]? = some a →
    ∃ v, vs[i]? = some v ∧ ((∃ d, a = .d d ∧ Ds K G v d) ∨ ∃ j, a = .o j ∧ σ[j]? = some (some v))
  | _, _, _, _, .nil, e => by simp at e
  | _, _, 0, _, .d h _, e => by simp at e; subst e; exact ⟨_, rfl, .inl ⟨_, rfl, h⟩⟩
  | _, _, 0, _, .o h _, e => by simp at e; subst e; exact ⟨_, rfl, .inr ⟨_, rfl, h⟩⟩
  | _, _, i + 1, a, .d _ t, e => by
    obtain ⟨v, h1, h2⟩ := AvOk.get (i := i) (a := a) t (by simpa using e)
    exact ⟨v, by simpa using h1, h2⟩
  | _, _, i + 1, a, .o _ t, e => by
    obtain ⟨v, h1, h2⟩ := AvOk.get (i := i) (a := a) t (by simpa using e)
    exact ⟨v, by simpa using h1, h2⟩
theorem AvOk.length {K : PySem.W.Frag} {G : Hp} {σ : Sg} : ∀ {vs : List V} {as : List AV}, AvOk K G σ vs as → vs.length = as.length
  | _, _, .nil => rfl
  | _, _, .d _ t => by rw [List.length_cons, List.length_cons, AvOk.length t]
  | _, _, .o _ t => by rw [List.length_cons, List.length_cons, AvOk.length t]
theorem mkArgs_len {ρ : List Sl} : ∀ {as : List AV} {args : List Sl}, mkArgs ρ as = some args → args.length = as.length
  | [], _, h => by cases h; rfl
  | a :: r, args, h => by
    unfold mkArgs at h
    cases e1 : mkArg ρ a with
    | none => rw [e1] at h; cases h
    | some s =>
      rw [e1] at h
      cases e2 : mkArgs ρ r with
      | none => rw [e2] at h; cases h
      | some ss =>
        rw [e2] at h
        cases h
        rw [List.length_cons, List.length_cons, mkArgs_len e2]
theorem mkArgs_get {ρ : List Sl} : ∀ {as : List AV} {args : List Sl} {i : Nat} {s : Sl}, mkArgs ρ as = some args → args[i]? = some s → ∃ a, as[i]? = some a ∧ mkArg ρ a = some s
  | [], _, i, s, h, e => by cases h; simp at e
  | a :: r, args, i, s, h, e => by
    unfold mkArgs at h
    cases e1 : mkArg ρ a with
    | none => rw [e1] at h; cases h
    | some s1 =>
      rw [e1] at h
      cases e2 : mkArgs ρ r with
      | none => rw [e2] at h; cases h
      | some ss =>
        rw [e2] at h
        cases h
        cases i with
        | zero => simp at e; subst e; exact ⟨a, rfl, e1⟩
        | succ i =>
          obtain ⟨a', h1, h2⟩ := mkArgs_get (i := i) e2 (by simpa using e)
          exact ⟨a', by simpa using h1, h2⟩
theorem mem_owns : ∀ {as : List AV} {i j : Nat}, as[i]? = some (.o j) → j ∈ owns as
  | [], i, j, h => by simp at h
  | .d _ :: r, 0, j, h => by simp at h
  | .o k :: r, 0, j, h => by simp at h; subst h; exact List.mem_cons_self
  | .d _ :: r, i + 1, j, h => mem_owns (as := r) (i := i) (by simpa using h)
  | .o k :: r, i + 1, j, h => List.mem_cons_of_mem _ (mem_owns (as := r) (i := i) (by simpa using h))
theorem of_owns : ∀ {as : List AV} {j : Nat}, j ∈ owns as → ∃ i : Nat, as[i]? = some (.o j)
  | [], j, h => by simp [owns] at h
  | .d _ :: r, j, h => by
    obtain ⟨i, e⟩ := of_owns (as := r) h
    exact ⟨i + 1, by simpa using e⟩
  | .o k :: r, j, h => by
    rcases List.mem_cons.mp h with rfl | h
    · exact ⟨0, rfl⟩
    · obtain ⟨i, e⟩ := of_owns (as := r) h
      exact ⟨i + 1, by simpa using e⟩
theorem owns_inj : ∀ {as : List AV} {i k j : Nat}, (owns as).Nodup → as[i]? = some (.o j) → as[k]? = some (.o j) → i = k
  | [], i, k, j, _, h, _ => by simp at h
  | .d _ :: r, 0, k, j, _, h, _ => by simp at h
  | .d _ :: r, i + 1, 0, j, _, _, h => by simp at h
  | .d _ :: r, i + 1, k + 1, j, n, h1, h2 => congrArg (· + 1) (owns_inj (as := r) (i := i) (k := k) n (by simpa using h1) (by simpa using h2))
  | .o t :: r, 0, 0, j, _, _, _ => rfl
  | .o t :: r, 0, k + 1, j, n, h1, h2 => by
    simp at h1; subst h1
    exact absurd (mem_owns (as := r) (i := k) (by simpa using h2)) (List.nodup_cons.mp n).1
  | .o t :: r, i + 1, 0, j, n, h1, h2 => by
    simp at h2; subst h2
    exact absurd (mem_owns (as := r) (i := i) (by simpa using h1)) (List.nodup_cons.mp n).1
  | .o t :: r, i + 1, k + 1, j, n, h1, h2 => congrArg (· + 1) (owns_inj (as := r) (i := i) (k := k) (List.nodup_cons.mp n).2 (by simpa using h1) (by simpa using h2))
theorem setOwn_len (ρ : List Sl) (j : Nat) (s : Sl) : (setOwn ρ j s).length = ρ.length := by
  unfold setOwn
  split
  · rw [List.length_set]
  · rfl
theorem setOwn_ne {ρ : List Sl} {j t : Nat} {s : Sl} (h : t ≠ j) : (setOwn ρ j s)[t]? = ρ[t]? := by
  unfold setOwn
  split
  · rw [List.getElem?_set_ne (Ne.symm h)]
  · rfl
theorem backs_len : ∀ (as : List AV) (ρ ss : List Sl), (backs ρ as ss).length = ρ.length
  | [], ρ, ss => by simp [backs]
  | .d _ :: r, ρ, [] => rfl
  | .o _ :: r, ρ, [] => rfl
  | .d _ :: r, ρ, s :: ss => backs_len r ρ ss
  | .o j :: r, ρ, s :: ss => (backs_len r (setOwn ρ j s) ss).trans (setOwn_len ρ j s)
theorem backs_no : ∀ {as : List AV} {ρ ss : List Sl} {t : Nat}, t ∉ owns as → (backs ρ as ss)[t]? = ρ[t]?
  | [], ρ, ss, t, _ => by simp [backs]
  | .d _ :: r, ρ, [], t, _ => rfl
  | .o _ :: r, ρ, [], t, _ => rfl
  | .d _ :: r, ρ, s :: ss, t, h => backs_no (as := r) h
  | .o j :: r, ρ, s :: ss, t, h => by
    have h1 : t ≠ j := fun z => h (by rw [z]; exact List.mem_cons_self)
    have h2 : t ∉ owns r := fun z => h (List.mem_cons_of_mem _ z)
    exact (backs_no (as := r) h2).trans (setOwn_ne h1)
theorem backs_yes : ∀ {as : List AV} {ρ ss : List Sl} {t k : Nat} {p q : Bool} {m m' : Mu}, (owns as).Nodup → as[k]? = some (.o t) → ρ[t]? = some (.o p m) → ss[k]? = some (.o q m') → (backs ρ as ss)[t]? = some (.o p m')
  | [], ρ, ss, t, k, p, q, m, m', _, h, _, _ => by simp at h
  | _ :: r, ρ, [], t, k, p, q, m, m', _, _, _, h => by simp at h
  | .d _ :: r, ρ, s :: ss, t, 0, p, q, m, m', _, h, _, _ => by simp at h
  | .d _ :: r, ρ, s :: ss, t, k + 1, p, q, m, m', n, h1, h2, h3 => backs_yes (as := r) (k := k) n (by simpa using h1) h2 (by simpa using h3)
  | .o j :: r, ρ, s :: ss, t, 0, p, q, m, m', n, h1, h2, h3 => by
    simp at h1; subst h1
    simp at h3; subst h3
    refine (backs_no (as := r) (List.nodup_cons.mp n).1).trans ?_
    unfold setOwn
    rw [h2]
    exact List.getElem?_set_self (List.getElem?_eq_some_iff.mp h2).1
  | .o j :: r, ρ, s :: ss, t, k + 1, p, q, m, m', n, h1, h2, h3 => by
    have h1' : r[k]? = some (.o t) := by simpa using h1
    have hj : t ≠ j := fun z => by subst z; exact (List.nodup_cons.mp n).1 (mem_owns h1')
    exact backs_yes (as := r) (k := k) (List.nodup_cons.mp n).2 h1' ((setOwn_ne hj).trans h2) (by simpa using h3)
theorem mkArg_own {ρ : List Sl} {a : AV} {p : Bool} {m : Mu} (h : mkArg ρ a = some (.o p m)) : p = true ∧ ∃ j q, a = .o j ∧ ρ[j]? = some (.o q m) := by
  cases a with
  | d d => unfold mkArg at h; cases h
  | o j =>
    unfold mkArg at h
    simp only at h
    split at h
    · rename_i q m1 e
      cases h
      exact ⟨rfl, j, q, rfl, e⟩
    · cases h
section
variable {K : PySem.W.Frag} {ρ args : List Sl} {σ : Sg} {G H : Hp} {vs : List V} {as : List AV}
theorem map_some_get {α : Type} {vs : List α} {i : Nat} {x : Option α} : (vs.map some)[i]? = some x ↔ ∃ v, vs[i]? = some v ∧ x = some v := by
  rw [List.getElem?_map]
  cases vs[i]? with
  | none => simp
  | some v => simp [eq_comm]
theorem args_rel (rl : Rel K ρ σ G H) (av : AvOk K G σ vs as) (e : mkArgs ρ as = some args) (n : (owns as).Nodup) : Rel K args (vs.map some) G H := by
  refine ⟨by rw [mkArgs_len e, List.length_map, av.length], rl.same, fun i s hi => ?_, fun i j a p q m1 m2 hi hj h1 h2 => ?_⟩
  · obtain ⟨a, h1, h2⟩ := mkArgs_get e hi
    obtain ⟨v, h3, h4⟩ := av.get h1
    have h5 : (vs.map some)[i]? = some (some v) := map_some_get.mpr ⟨v, h3, rfl⟩
    rw [h5]
    rcases h4 with ⟨d, rfl, hd⟩ | ⟨j, rfl, hj⟩
    · unfold mkArg at h2
      cases h2
      exact ⟨v, rfl, hd⟩
    · cases s with
      | un => trivial
      | v d => exfalso; unfold mkArg at h2; simp only at h2; split at h2 <;> cases h2
      | o p m =>
        obtain ⟨_, j', q, e1, e2⟩ := mkArg_own h2
        cases e1
        have z := rl.sl j _ e2
        rw [hj] at z
        exact z
  · obtain ⟨a1, g1, g2⟩ := mkArgs_get e hi
    obtain ⟨a2, g3, g4⟩ := mkArgs_get e hj
    obtain ⟨_, j1, q1, rfl, r1⟩ := mkArg_own g2
    obtain ⟨_, j2, q2, rfl, r2⟩ := mkArg_own g4
    obtain ⟨v1, k1, k2⟩ := av.get g1
    obtain ⟨v2, k3, k4⟩ := av.get g3
    obtain ⟨w1, x1, x2⟩ := map_some_get.mp h1
    obtain ⟨w2, x3, x4⟩ := map_some_get.mp h2
    have hz1 : σ[j1]? = some (some (.ref a)) := by
      rcases k2 with ⟨d, z, _⟩ | ⟨j, z, hj⟩
      · cases z
      · cases z; rw [hj]; rw [k1] at x1; cases x1; cases x2; rfl
    have hz2 : σ[j2]? = some (some (.ref a)) := by
      rcases k4 with ⟨d, z, _⟩ | ⟨j, z, hj⟩
      · cases z
      · cases z; rw [hj]; rw [k3] at x3; cases x3; cases x4; rfl
    have ej := rl.inj j1 j2 a q1 q2 m1 m2 r1 r2 hz1 hz2
    subst ej
    exact owns_inj n g1 g3
theorem args_pin (e : mkArgs ρ as = some args) : ∀ (i : Nat) (p : Bool) (m : Mu), args[i]? = some (.o p m) → p = true := fun i p m h => by
  obtain ⟨a, h1, h2⟩ := mkArgs_get e h
  exact (mkArg_own h2).1
/-- a call's step, seen from the caller -/
theorem args_step {args' : List Sl} {G' H' : Hp} (rl : Rel K ρ σ G H) (av : AvOk K G σ vs as) (e : mkArgs ρ as = some args) (n : (owns as).Nodup) (s : Step K args (vs.map some) G H args' (vs.map some) G' H') :
    Step K ρ σ G H (backs ρ as args') σ G' H' := by
  -- a slot that was lent
  have lent : ∀ t : Nat, t ∈ owns as → ∃ (k : Nat) (p : Bool) (m m' : Mu) (a : Addr), as[k]? = some (.o t) ∧ ρ[t]? = some (.o p m) ∧ args[k]? = some (.o true m) ∧ args'[k]? = some (.o true m') ∧ (backs ρ as args')[t]? = some (.o p m') ∧ (vs.map some)[k]? = some (some (.ref a)) ∧ σ[t]? = some (some (.ref a)) := by
    intro t ht
    obtain ⟨k, hk⟩ := of_owns ht
    have hl : k < args.length := by rw [mkArgs_len e]; exact (List.getElem?_eq_some_iff.mp hk).1
    obtain ⟨a0, h1, h2⟩ := mkArgs_get e (List.getElem?_eq_getElem hl)
    rw [hk] at h1
    cases h1
    have h2' := h2
    unfold mkArg at h2'
    simp only at h2'
    split at h2'
    · rename_i p m e1
      have e2 : args[k]? = some (.o true m) := by rw [List.getElem?_eq_getElem hl]; exact h2'.symm
      obtain ⟨_, m', e3⟩ := s.pin k m e2
      obtain ⟨v, h3, h4⟩ := av.get hk
      rcases h4 with ⟨d, z, _⟩ | ⟨j, z, hj⟩
      · cases z
      · cases z
        obtain ⟨a, o, z1, _⟩ := rl.sl t _ e1
        rw [hj] at z1
        cases z1
        exact ⟨k, p, m, m', a, hk, e1, e2, e3, backs_yes n hk e1 e3, map_some_get.mpr ⟨_, h3, rfl⟩, hj⟩
    · cases h2'
  have ownA : ∀ a, Own args (vs.map some) a → ∃ (t : Nat) (p : Bool) (m : Mu), t ∈ owns as ∧ ρ[t]? = some (.o p m) ∧ σ[t]? = some (some (.ref a)) := by
    rintro a ⟨i, p, m, h1, h2⟩
    obtain ⟨a0, g1, g2⟩ := mkArgs_get e h1
    obtain ⟨_, j, q, rfl, r1⟩ := mkArg_own g2
    obtain ⟨v, k1, k2⟩ := av.get g1
    obtain ⟨w, x1, x2⟩ := map_some_get.mp h2
    rcases k2 with ⟨d, z, _⟩ | ⟨j', z, hj⟩
    · cases z
    · cases z
      rw [k1] at x1
      cases x1
      cases x2
      exact ⟨j, q, m, mem_owns g1, r1, hj⟩
  have slot : ∀ (t : Nat) (p : Bool) (m' : Mu), (backs ρ as args')[t]? = some (.o p m') → ∃ m, ρ[t]? = some (.o p m) := by
    intro t p m' h
    by_cases ht : t ∈ owns as
    · obtain ⟨k, p0, m, m1, a, _, g1, _, _, g2, _, _⟩ := lent t ht
      rw [g2] at h
      cases h
      exact ⟨m, g1⟩
    · rw [backs_no ht] at h
      exact ⟨m', h⟩
  refine ⟨⟨by rw [backs_len]; exact rl.len, s.rel.same, fun t x hx => ?_, fun i j a p q m1 m2 hi hj h1 h2 => ?_⟩, ⟨s.grow.gg, fun a h1 h2 h3 => ?_, fun a o h1 h2 h3 => ?_, s.grow.stay⟩, fun a ⟨i, p, m, h1, h2⟩ => ?_, fun i m h => ?_, backs_len _ _ _⟩
  · by_cases ht : t ∈ owns as
    · obtain ⟨k, p0, m, m1, a, _, g1, _, g3, g2, g4, g5⟩ := lent t ht
      rw [g2] at hx
      cases hx
      have z := s.rel.sl k _ g3
      rw [g4] at z
      rw [g5]
      exact z
    · rw [backs_no ht] at hx
      have z := rl.sl t x hx
      cases x with
      | un => trivial
      | v d => obtain ⟨v, z1, z2⟩ := z; exact ⟨v, z1, z2.mono s.grow.gg⟩
      | o p m =>
        obtain ⟨a, o, z1, z2, z3, z4⟩ := z
        have no : ¬ Own args (vs.map some) a := fun q => by
          obtain ⟨t', p', m', g1, g2, g3⟩ := ownA a q
          exact ht (by rw [rl.inj t t' a p p' m m' hx g2 z1 g3]; exact g1)
        exact ⟨a, o, z1, s.grow.fr a z2 (by rw [z3]; exact fun y => nomatch y) no, s.grow.keep a o z2 z3 no, z4.mono s.grow.gg⟩
  · obtain ⟨n1, e1⟩ := slot i p m1 hi
    obtain ⟨n2, e2⟩ := slot j q m2 hj
    exact rl.inj i j a p q n1 n2 e1 e2 h1 h2
  · refine s.grow.fr a h1 h2 fun z => h3 ?_
    obtain ⟨t, p, m, _, g2, g3⟩ := ownA a z
    exact ⟨t, p, m, g2, g3⟩
  · refine s.grow.keep a o h1 h2 fun z => h3 ?_
    obtain ⟨t, p, m, _, g2, g3⟩ := ownA a z
    exact ⟨t, p, m, g2, g3⟩
  · obtain ⟨n1, e1⟩ := slot i p m h1
    exact .inl ⟨i, p, n1, e1, h2⟩
  · refine ⟨rfl, ?_⟩
    by_cases ht : i ∈ owns as
    · obtain ⟨k, p0, m0, m1, a, _, g1, _, g3, g2, g4, g5⟩ := lent i ht
      rw [h] at g1
      cases g1
      exact ⟨m1, g2⟩
    · exact ⟨m, by rw [backs_no ht]; exact h⟩
end
section
variable {X : Cx} {W : WX} {e : Expr} {es : List Expr} {fs : List AE} {pos : Pos}
theorem call_ask {K : PySem.W.Frag} {ρ : List Sl} {σ : Sg} {G H : Hp} {Q : VK} {n : Nat} {F : List Sl → Res D} {vs : List V} {as : List AV} (hn : as.length = n) (rl : Rel K ρ σ G H) (av : AvOk K G σ vs as)
    (q : Asks K ρ σ G H W (callF F as ρ) (fun d _ G' H' => ∀ v, Ds K G' v d → Q v H')) : FnP K n F vs H Q (WE W σ) := by
  unfold callF at q
  cases e : mkArgs ρ as with
  | none => rw [e] at q; exact q.elim
  | some args =>
    rw [e] at q
    simp only at q
    split at q
    · rename_i nb
      have nd := nodupB_ok nb
      refine ⟨args, G, by rw [mkArgs_len e]; exact hn, args_rel rl av e nd, args_pin e, ?_⟩
      cases r : F args with
      | bad => rw [r] at q; exact q.elim
      | ok d args' => rw [r] at q; exact fun G' H' s => q G' H' (args_step rl av e nd s)
      | exc x args' => rw [r] at q; exact fun G' H' cls dx s hx => q G' H' cls dx (args_step rl av e nd s) hx
    · exact q.elim
theorem evA_len : ∀ {fs : List AE} {ρ ρ' : List Sl} {as : List AV}, evA fs ρ = .ok as ρ' → as.length = fs.length
  | [], _, _, _, h => by cases h; rfl
  | .e f :: r, ρ, ρ', as, h => by
    unfold evA at h
    cases e1 : f ρ with
    | bad => rw [e1] at h; cases h
    | exc _ _ => rw [e1] at h; cases h
    | ok d ρ1 =>
      rw [e1, Res.bind_ok] at h
      cases e2 : evA r ρ1 with
      | bad => rw [e2] at h; cases h
      | exc _ _ => rw [e2] at h; cases h
      | ok as2 ρ2 =>
        rw [e2] at h
        cases h
        rw [List.length_cons, List.length_cons, evA_len e2]
  | .o j :: r, ρ, ρ', as, h => by
    unfold evA at h
    split at h
    · cases e2 : evA r ρ with
      | bad => rw [e2] at h; cases h
      | exc _ _ => rw [e2] at h; cases h
      | ok as2 ρ2 =>
        rw [e2] at h
        cases h
        rw [List.length_cons, List.length_cons, evA_len e2]
    · cases h
/-- f(..), an own def -/
theorem se_call {k n : Nat} {fa : Addr} {fd : FuncData} {ps : List Str} {F : List Sl → Res D} {x : Str} {p : Pos} (FO : FnOk X.prog X.w X.K X.mg X.base (L2.CX X.prog X.w) k fa fd ps (FnP X.K n F)) (hr : Room k X.A) (hm : X.mg x = some (.ref fa)) (hk : PySem.W.keepIn X.K (.ref fa) = true)
    (hb : Binds X.K fd ps []) (tk : Takes X W) (ha : SAv X W (e :: es) fs) (hn : (e :: es).length = n := by rfl) (hg : Gl X x := by rfl) (hl : fs.length = (e :: es).length := by rfl) (hdb : (x == ("__debug__" : Str)) = false := by decide)
    (he : starEach (e :: es) X.env = (false, eval e X.env) :: starEach es X.env := by rfl) (hpl : (backTo pos (starEach es X.env)).any (·.1) = false := by rfl) : SE X W (.Call (.Name x p) (e :: es) [] pos) (sCall F fs) := by
  obtain ⟨ta, h1, h2⟩ := ha
  refine ⟨_, pe_callS FO hr hg hm hk hb (fun σ => passAt tk σ) h1 hdb he hpl, fun ρ σ G H Q rl q => ?_⟩
  refine h2 ρ σ G H _ rl ((Asks.bind q).imp fun as ρ1 G1 H1 e1 s1 q1 vs hvs => ?_)
  exact call_ask (by rw [evA_len e1, hl]; exact hn) s1.rel hvs q1
end
end Sh

namespace Sh
open PySem PySem.Spec PyProof.Rows L2

/-! ### what is walked -/
structure ItOk (K : PySem.W.Frag) (G : Hp) (J : It) (ds : List D) : Prop where
  stop : ∀ (i : Nat) (G1 H1 : Hp), Same G G1 → Same G1 H1 → ds.length ≤ i → J.stop i H1
  go : ∀ (i : Nat) (G1 H1 : Hp) (d : D), Same G G1 → Same G1 H1 → ds[i]? = some d → J.go i H1 ∧ ∀ x H2, J.yld i H1 x H2 → ∃ G2, Grow (fun _ => False) G1 H1 G2 H2 ∧ Same G2 H2 ∧ Ds K G2 x d
def SI (X : Cx) (W : WX) (tg iter : Expr) (f : SemE (List D)) : Prop :=
  ∃ wi, PI X tg iter wi ∧ ∀ ρ σ G H R, Rel X.K ρ σ G H → Asks X.K ρ σ G H W (f ρ) (fun ds _ G' H' => ∀ J, ItOk X.K G' J ds → R J H') → wi σ H R
section
variable {K : PySem.W.Frag} {G : Hp}
theorem itok_list {a : Addr} {vs : List V} {ds : List D} (h : SqL K G a vs) (hl : DsL K G vs ds) : ItOk K G (Itl K a) ds := by
  refine ⟨fun i G1 H1 s1 s2 hi => ⟨vs, s2.seq (s1.seq h), by rw [hl.length]; exact hi⟩, fun i G1 H1 d s1 s2 hd => ?_⟩
  obtain ⟨v, h1, h2⟩ := hl.get hd
  refine ⟨⟨vs, v, s2.seq (s1.seq h), h1⟩, fun x H2 ⟨e, y⟩ => ?_⟩
  subst e
  have e2 := y vs (s2.seq (s1.seq h))
  rw [h1] at e2
  cases e2
  exact ⟨G1, Grow.refl, s2, h2.mono s1⟩
theorem itok_tup {a : Addr} {vs : List V} {ds : List D} (h : SqT K G a vs) (hl : DsL K G vs ds) : ItOk K G (Itt K a) ds := by
  refine ⟨fun i G1 H1 s1 s2 hi => ⟨vs, Same.seqT s2 (Same.seqT s1 h), by rw [hl.length]; exact hi⟩, fun i G1 H1 d s1 s2 hd => ?_⟩
  obtain ⟨v, h1, h2⟩ := hl.get hd
  refine ⟨⟨vs, v, Same.seqT s2 (Same.seqT s1 h), h1⟩, fun x H2 ⟨e, y⟩ => ?_⟩
  subst e
  have e2 := y vs (Same.seqT s2 (Same.seqT s1 h))
  rw [h1] at e2
  cases e2
  exact ⟨G1, Grow.refl, s2, h2.mono s1⟩
def rangeD (lo : Int) (n : Nat) : List D := (List.range n).map fun (i : Nat) => D.int (lo + (i : Int))
theorem itok_range {lo : Int} {n : Nat} : ItOk K G (Itr lo n) (rangeD lo n) := by
  refine ⟨fun i G1 H1 _ _ hi => (by have h : (rangeD lo n).length ≤ i := hi; simp [rangeD] at h; exact h), fun i G1 H1 d s1 s2 hd => ?_⟩
  have hi : i < n := by
    have := (List.getElem?_eq_some_iff.mp hd).1
    simpa [rangeD] using this
  refine ⟨hi, fun x H2 ⟨e1, e2⟩ => ?_⟩
  subst e1 e2
  have e : d = .int (lo + (i : Nat)) := by
    unfold rangeD at hd
    rw [List.getElem?_map, List.getElem?_range hi] at hd
    exact (Option.some.inj hd).symm
  subst e
  exact ⟨G1, Grow.refl, s2, .int _⟩
def enumD (i : Nat) : List D → List D
  | [] => []
  | d :: ds => .tup [.int (i : Nat), d] :: enumD (i + 1) ds
theorem enumD_get : ∀ (ds : List D) (k i : Nat), (enumD k ds)[i]? = (ds[i]?).map fun d => .tup [.int ((k + i : Nat) : Int), d]
  | [], k, i => by simp [enumD]
  | d :: ds, k, 0 => by simp [enumD]
  | d :: ds, k, i + 1 => by
    have h := enumD_get ds (k + 1) i
    simp only [enumD, List.getElem?_cons_succ, h]
    rw [show k + 1 + i = k + (i + 1) by omega]
theorem enumD_len (ds : List D) (k : Nat) : (enumD k ds).length = ds.length := by
  induction ds generalizing k with
  | nil => rfl
  | cons d ds ih => simp [enumD, ih]
theorem itok_enum {a : Addr} {vs : List V} {ds : List D} (h : SqL K G a vs) (hl : DsL K G vs ds) : ItOk K G (Ite K a) (enumD 0 ds) := by
  refine ⟨fun i G1 H1 s1 s2 hi => ⟨vs, s2.seq (s1.seq h), by rw [hl.length]; simpa [enumD_len] using hi⟩, fun i G1 H1 d s1 s2 hd => ?_⟩
  rw [enumD_get] at hd
  cases e : ds[i]? with
  | none => rw [e] at hd; cases hd
  | some d0 =>
    rw [e] at hd
    cases hd
    obtain ⟨v, h1, h2⟩ := hl.get e
    refine ⟨⟨vs, v, s2.seq (s1.seq h), h1⟩, fun x H2 ⟨T, y, e1, nT, e2, e3⟩ => ?_⟩
    have e4 := e3 vs (s2.seq (s1.seq h))
    rw [h1] at e4
    cases e4
    subst e1 e2
    refine ⟨upd G1 T (.tup [.int (i : Nat), v]), Grow.new s2 nT, Same.new s2, .tup upd_same (.cons ?_ (.cons ((h2.mono s1).mono (Same.at s2 nT)) .nil))⟩
    simpa using Ds.int (K := K) (G := upd G1 T (.tup [.int (i : Nat), v])) ((i : Nat) : Int)
def zipD (a b : List D) : List D := List.zipWith (fun x y => D.tup [x, y]) a b
end
section
variable {X : Cx} {W : WX} {tg e a b : Expr} {es : List Expr} {f g : SemE D} {fs : SemE (List D)} {pos : Pos}
/-- a list or a tuple is walked -/
def sIter (f : SemE D) : SemE (List D) := fun ρ => (f ρ).bind fun d ρ1 => match d with
  | .lst ds => .ok ds ρ1
  | .scr ds => .ok ds ρ1
  | .tup ds => .ok ds ρ1
  | _ => .bad
theorem PI.or {w1 w2 : TI} (h1 : PI X tg e w1) (h2 : PI X tg e w2) : PI X tg e (fun σ H R => w1 σ H R ∨ w2 σ H R) :=
  ⟨fun pins s σ H R I h => h.elim (h1.run pins s σ H R I) (h2.run pins s σ H R I)⟩
theorem si_seq (h : SE X W e f) : SI X W tg e (sIter f) := by
  obtain ⟨t, h1, h2⟩ := h
  refine ⟨_, PI.or (pi_list h1) (pi_tup h1), fun ρ σ G H R rl q => ?_⟩
  have q := Asks.bind q
  cases r : f ρ with
  | bad => rw [r] at q; exact q.elim
  | exc x ρ1 => exact .inl (h2 ρ σ G H _ rl (by rw [r] at q ⊢; exact q))
  | ok d ρ1 =>
    cases d with
    | lst ds =>
      refine .inl (h2 ρ σ G H _ rl (q.imp fun d ρ2 G1 H1 e1 s1 q1 v hv => ?_))
      rw [r] at e1
      cases e1
      cases hv with
      | lst hs hl => exact ⟨_, rfl, ⟨_, s1.rel.same.seq (SqL.of hs)⟩, Asks.pure s1.rel q1 _ (itok_list (SqL.of hs) hl)⟩
    | scr ds =>
      refine .inl (h2 ρ σ G H _ rl (q.imp fun d ρ2 G1 H1 e1 s1 q1 v hv => ?_))
      rw [r] at e1
      cases e1
      cases hv with
      | scr hs hl => exact ⟨_, rfl, ⟨_, s1.rel.same.seq hs⟩, Asks.pure s1.rel q1 _ (itok_list hs hl)⟩
    | tup ds =>
      refine .inr (h2 ρ σ G H _ rl (q.imp fun d ρ2 G1 H1 e1 s1 q1 v hv => ?_))
      rw [r] at e1
      cases e1
      cases hv with
      | tup hs hl => exact ⟨_, rfl, ⟨_, SqT.of (s1.rel.same _ _ hs)⟩, Asks.pure s1.rel q1 _ (itok_tup (SqT.of hs) hl)⟩
    | _ =>
      refine .inl (h2 ρ σ G H _ rl (q.imp fun d ρ2 G1 H1 e1 s1 q1 => ?_))
      rw [r] at e1
      cases e1
      exact q1.elim
def sRng1 (fs : SemE (List D)) : SemE (List D) := fun ρ => (fs ρ).bind fun ds ρ1 => match ds with
  | [.int n] => if n < 2 ^ 62 ∧ -(2 ^ 62) ≤ n then .ok (rangeD 0 n.toNat) ρ1 else .bad
  | _ => .bad
def sRng2 (fs : SemE (List D)) : SemE (List D) := fun ρ => (fs ρ).bind fun ds ρ1 => match ds with
  | [.int m, .int n] => if -(2 ^ 62) ≤ m ∧ m < 2 ^ 62 ∧ -(2 ^ 62) ≤ n ∧ n < 2 ^ 62 then .ok (rangeD m (n - m).toNat) ρ1 else .bad
  | _ => .bad
theorem si_range1 {p : Pos} (hm : X.mg "range" = none) (ha : SA X W [a] fs) (hg : Gl X "range" := by rfl) (hs : starEach [a] X.env = [(false, eval a X.env)] := by rfl) : SI X W tg (.Call (.Name "range" p) [a] [] pos) (sRng1 fs) := by
  obtain ⟨t, h1, h2⟩ := ha
  refine ⟨_, pi_range1 hg hm h1 hs, fun ρ σ G H R rl q => h2 ρ σ G H _ rl ((Asks.bind q).imp fun ds ρ1 G1 H1 e1 s1 q1 vs hv => ?_)⟩
  split at q1
  · cases hv with
    | cons hd ht =>
      cases ht
      cases hd
      split at q1
      · rename_i hc
        exact ⟨_, rfl, hc.2, hc.1, Asks.pure s1.rel q1 _ itok_range⟩
      · exact q1.elim
  · exact q1.elim
theorem si_range2 {p : Pos} (hm : X.mg "range" = none) (ha : SA X W [a, b] fs) (hg : Gl X "range" := by rfl) (hs : starEach [a, b] X.env = [(false, eval a X.env), (false, eval b X.env)] := by rfl) (hs2 : starEach [b] X.env = [(false, eval b X.env)] := by rfl) :
    SI X W tg (.Call (.Name "range" p) [a, b] [] pos) (sRng2 fs) := by
  obtain ⟨t, h1, h2⟩ := ha
  refine ⟨_, pi_range2 hg hm h1 hs hs2, fun ρ σ G H R rl q => h2 ρ σ G H _ rl ((Asks.bind q).imp fun ds ρ1 G1 H1 e1 s1 q1 vs hv => ?_)⟩
  split at q1
  · cases hv with
    | cons hd ht =>
      cases ht with
      | cons hd2 ht =>
        cases ht
        cases hd
        cases hd2
        split at q1
        · rename_i hc
          exact ⟨_, _, rfl, hc, Asks.pure s1.rel q1 _ itok_range⟩
        · exact q1.elim
  · exact q1.elim

/-! ### for -/
def turn (r : SR) (k : SemS) : SR := match r with
  | .nx ρ => k ρ
  | .ct ρ => k ρ
  | .bk ρ => .nx ρ
  | .rt d ρ => .rt d ρ
  | .exc x ρ => .exc x ρ
  | .bad => .bad
@[simp] theorem turn_nx (ρ : List Sl) (k : SemS) : turn (.nx ρ) k = k ρ := rfl
@[simp] theorem turn_ct (ρ : List Sl) (k : SemS) : turn (.ct ρ) k = k ρ := rfl
@[simp] theorem turn_bk (ρ : List Sl) (k : SemS) : turn (.bk ρ) k = .nx ρ := rfl
@[simp] theorem turn_rt (d : D) (ρ : List Sl) (k : SemS) : turn (.rt d ρ) k = .rt d ρ := rfl
@[simp] theorem turn_exc (x : Ex) (ρ : List Sl) (k : SemS) : turn (.exc x ρ) k = .exc x ρ := rfl
@[simp] theorem turn_bad (k : SemS) : turn .bad k = .bad := rfl
def tgRun (r : Option (List Sl)) (k : SemS) : SR := match r with
  | some ρ => k ρ
  | none => .bad
@[simp] theorem tgRun_some (ρ : List Sl) (k : SemS) : tgRun (some ρ) k = k ρ := rfl
@[simp] theorem tgRun_none (k : SemS) : tgRun none k = .bad := rfl
def loopS (t : SemG) (b : SemS) : List D → SemS
  | [] => fun ρ => .nx ρ
  | d :: ds => fun ρ => tgRun (t d ρ) fun ρ1 => turn (b ρ1) (loopS t b ds)
def sFor (it : SemE (List D)) (t : SemG) (b : SemS) : SemS := fun ρ => (it ρ).st fun ds ρ1 => loopS t b ds ρ1
theorem ask_turn {K : PySem.W.Frag} {ρ : List Sl} {σ : Sg} {G H : Hp} {r : SR} {k : SemS} {E : Ends} {N : L2.St → Hp → Prop} (h : AskS K ρ σ G H W (turn r k) E)
    (hk : ∀ ρ1 σ1 G1 H1, Step K ρ σ G H ρ1 σ1 G1 H1 → AskS K ρ1 σ1 G1 H1 W (k ρ1) E → N σ1 H1) : AskS K ρ σ G H W r { E with nx := N, ct := N, bk := E.nx } := by
  cases r with
  | nx ρ1 => exact fun σ1 G1 H1 s => hk ρ1 σ1 G1 H1 s (AskS.step s h)
  | ct ρ1 => exact fun σ1 G1 H1 s => hk ρ1 σ1 G1 H1 s (AskS.step s h)
  | bk ρ1 => exact h
  | rt d ρ1 => exact h
  | exc x ρ1 => exact h
  | bad => exact h
theorem ss_for {is : List Nat} {body : List Stmt} {t : SemG} {u : SemS} {it : SemE (List D)} (hp : PassesOwn (model X.prog X.w) X.A X.env X.xe) (hc : X.calm = true) (hi : SI X W tg e it) (hg : SG X tg is t) (hb : SSs X W body u)
    (hs : ∀ x, foldedSetIterable e X.env x = pure x := by intro _; rfl) : SS X W (.For tg e body [] pos) (sFor it t u) := by
  obtain ⟨wi, i1, i2⟩ := hi
  obtain ⟨gt, g1, g2⟩ := hg
  obtain ⟨tb, b1, b2⟩ := hb
  refine ⟨_, ps_for hp hc i1 g1 b1 hs, fun ρ σ G H E rl q => i2 ρ σ G H _ rl ((Asks.stmt (k := fun ds ρ1 => loopS t u ds ρ1) q).imp fun ds ρ1 G1 H1 e1 s1 q1 J hJ => ?_)⟩
  refine ⟨fun i m σ' H' => ∃ ρ' G', m = ds.length - i ∧ i ≤ ds.length ∧ Rel X.K ρ' σ' G' H' ∧ Same G1 G' ∧ AskS X.K ρ' σ' G' H' W (loopS t u (ds.drop i) ρ') E,
    ⟨ds.length, ρ1, G1, by simp, Nat.zero_le _, s1.rel, Same.refl _, by simpa using q1⟩, ?_⟩
  rintro i m σ' H' ⟨ρ', G', rfl, hi, rl', sm, qq⟩
  by_cases hlt : i < ds.length
  · have hd : ds[i]? = some ds[i] := List.getElem?_eq_getElem hlt
    have hdr : ds.drop i = ds[i] :: ds.drop (i + 1) := List.drop_eq_getElem_cons hlt
    rw [hdr] at qq
    obtain ⟨go, yl⟩ := hJ.go i G' H' _ sm rl'.same hd
    refine .inr ⟨go, fun σ2 H2 => ∃ ρ2 G2, i + 1 ≤ ds.length ∧ Rel X.K ρ2 σ2 G2 H2 ∧ Same G1 G2 ∧ AskS X.K ρ2 σ2 G2 H2 W (loopS t u (ds.drop (i + 1)) ρ2) E, fun σ2 H2 ⟨ρ2, G2, h1, h2, h3, h4⟩ => ⟨ds.length - (i + 1), by omega, ρ2, G2, rfl, h1, h2, h3, h4⟩, fun x H2 hy => ?_⟩
    obtain ⟨G2, gr, sm2, hx⟩ := yl x H2 hy
    have st2 := rl'.step gr sm2
    refine g2 ρ' σ' G2 H2 x _ _ st2.rel hx ?_
    unfold loopS at qq
    cases e2 : t ds[i] ρ' with
    | none => rw [e2] at qq; exact qq.elim
    | some ρ3 =>
      rw [e2] at qq
      intro σ3 s3 _
      refine b2 ρ3 σ3 G2 H2 _ s3.rel ?_
      refine ask_turn (AskS.step (st2.trans s3) qq) fun ρ4 σ4 G4 H4 s4 q4 => ?_
      exact ⟨ρ4, G4, hlt, s4.rel, (sm.trans gr.gg).trans s4.grow.gg, q4⟩
  · have e : i = ds.length := by omega
    subst e
    rw [List.drop_length] at qq
    exact .inl ⟨hJ.stop _ G' H' sm rl'.same (Nat.le_refl _), AskS.pure rl' qq⟩

/-! ### while -/
def whileF (c : SemE Bool) (b : SemS) : Nat → SemS
  | 0 => fun _ => .bad
  | n + 1 => fun ρ => (c ρ).st fun k ρ1 => if k = true then turn (b ρ1) (whileF c b n) else .nx ρ1
open Classical in
noncomputable def sWhile (c : SemE Bool) (b : SemS) : SemS := fun ρ => if h : ∃ n, whileF c b n ρ ≠ .bad then whileF c b (choose h) ρ else .bad
theorem whileF_succ {c : SemE Bool} {b : SemS} : ∀ (n : Nat) (ρ : List Sl), whileF c b n ρ ≠ .bad → whileF c b (n + 1) ρ = whileF c b n ρ
  | 0, ρ, h => (h rfl).elim
  | n + 1, ρ, h => by
    show ((c ρ).st fun k ρ1 => if k = true then turn (b ρ1) (whileF c b (n + 1)) else .nx ρ1) = ((c ρ).st fun k ρ1 => if k = true then turn (b ρ1) (whileF c b n) else .nx ρ1)
    have h : ((c ρ).st fun k ρ1 => if k = true then turn (b ρ1) (whileF c b n) else .nx ρ1) ≠ .bad := h
    cases e : c ρ with
    | bad => rfl
    | exc x ρ1 => rfl
    | ok k ρ1 =>
      rw [e] at h
      show (if k = true then turn (b ρ1) (whileF c b (n + 1)) else .nx ρ1) = (if k = true then turn (b ρ1) (whileF c b n) else .nx ρ1)
      have h : (if k = true then turn (b ρ1) (whileF c b n) else SR.nx ρ1) ≠ .bad := h
      cases k with
      | false => rfl
      | true =>
        rw [if_pos rfl] at h ⊢
        rw [if_pos rfl]
        cases e2 : b ρ1 with
        | nx ρ2 => rw [e2] at h; exact whileF_succ n ρ2 h
        | ct ρ2 => rw [e2] at h; exact whileF_succ n ρ2 h
        | bk ρ2 => rfl
        | rt d ρ2 => rfl
        | exc x ρ2 => rfl
        | bad => rfl
theorem whileF_le {c : SemE Bool} {b : SemS} {n m : Nat} {ρ : List Sl} (h : whileF c b n ρ ≠ .bad) (hm : n ≤ m) : whileF c b m ρ = whileF c b n ρ := by
  induction hm with
  | refl => rfl
  | step hm ih => rw [whileF_succ _ _ (by rw [ih]; exact h), ih]
theorem sWhile_eq {c : SemE Bool} {b : SemS} {n : Nat} {ρ : List Sl} {r : SR} (e : whileF c b n ρ = r) (h : r ≠ .bad) : sWhile c b ρ = r := by
  have hx : ∃ n, whileF c b n ρ ≠ .bad := ⟨n, by rw [e]; exact h⟩
  unfold sWhile
  rw [dif_pos hx]
  have h2 := Classical.choose_spec hx
  by_cases hl : n ≤ Classical.choose hx
  · rw [whileF_le (by rw [e]; exact h) hl, e]
  · rw [← whileF_le h2 (Nat.le_of_lt (Nat.lt_of_not_le hl)), e]
theorem ss_while {c : Expr} {body : List Stmt} {p : SemE Bool} {u : SemS} (hp : PassesOwn (model X.prog X.w) X.A X.env X.xe) (hc : ST X W c p) (hb : SSs X W body u) : SS X W (.While c body [] pos) (sWhile p u) := by
  obtain ⟨tc, c1, c2⟩ := hc
  obtain ⟨tb, b1, b2⟩ := hb
  refine ⟨_, ps_while hp c1 b1, fun ρ σ G H E rl q => ?_⟩
  unfold sWhile at q
  split at q
  · rename_i hx
    refine ⟨fun m σ' H' => ∃ ρ' G', Rel X.K ρ' σ' G' H' ∧ AskS X.K ρ' σ' G' H' W (whileF p u m ρ') E, ⟨_, ρ, G, rl, q⟩, ?_⟩
    rintro m σ' H' ⟨ρ', G', rl', q'⟩
    cases m with
    | zero => exact q'.elim
    | succ m =>
      refine c2 ρ' σ' G' H' _ rl' ((Asks.stmt (k := fun k ρ1 => if k = true then turn (u ρ1) (whileF p u m) else .nx ρ1) q').imp fun k ρ1 G1 H1 e1 s1 q1 => ?_)
      cases k with
      | false =>
        rw [if_neg Bool.false_ne_true] at q1 ⊢
        exact AskS.pure s1.rel q1
      | true =>
        rw [if_pos rfl] at q1 ⊢
        refine ⟨fun σ2 H2 => ∃ ρ2 G2, Rel X.K ρ2 σ2 G2 H2 ∧ AskS X.K ρ2 σ2 G2 H2 W (whileF p u m ρ2) E, fun σ2 H2 h => ⟨m, by omega, h⟩, ?_⟩
        exact b2 ρ1 σ' G1 H1 _ s1.rel (ask_turn q1 fun ρ4 σ4 G4 H4 s4 q4 => ⟨ρ4, G4, s4.rel, q4⟩)
  · exact q.elim
end
end Sh

namespace Sh
open PySem PySem.Spec PyProof.Rows L2

/-! ### new lists -/
/-- an expression makes a new list -/
def SN (X : Cx) (W : WX) (e : Expr) (f : SemE (List D)) : Prop :=
  ∃ te, PE X e te ∧ ∀ ρ σ G H Q, Rel X.K ρ σ G H → Asks X.K ρ σ G H W (f ρ) (fun ds _ G' H' => ∀ p vs, H' p = none → DsL X.K G' vs ds → Q (.ref p) (upd H' p (.lst vs))) → te σ H Q
def sL (f : SemE (List D)) : SemE D := fun ρ => (f ρ).bind fun ds ρ1 => .ok (.lst ds) ρ1
section
variable {X : Cx} {W : WX} {tg e a b elt : Expr} {es : List Expr} {f g : SemE D} {fs : SemE (List D)} {pos : Pos}
theorem SN.se (h : SN X W e fs) : SE X W e (sL fs) := by
  obtain ⟨t, h1, h2⟩ := h
  refine ⟨t, h1, fun ρ σ G H Q rl q => h2 ρ σ G H _ rl ((Asks.bind q).imp fun ds ρ1 G1 H1 e1 s1 q1 p vs hp hv => ?_)⟩
  have q1 := q1 _ _ (s1.rel.step (Grow.new (o := .lst vs) s1.rel.same hp) (Same.new s1.rel.same))
  exact q1 _ (.lst upd_same (hv.mono (Same.at s1.rel.same hp)))
def sLim (f : SemE (List D)) : SemE (List D) := fun ρ => (f ρ).bind fun ds ρ1 => if ds.length ≤ 10000000 then .ok ds ρ1 else .bad
theorem sn_lst (h : SA X W es fs) : SN X W (.List es pos) (sLim fs) := by
  obtain ⟨t, h1, h2⟩ := h
  refine ⟨_, pe_lst h1, fun ρ σ G H Q rl q => h2 ρ σ G H _ rl ((Asks.bind q).imp fun xs ρ1 G1 H1 e1 s1 q1 vs hvs => ?_)⟩
  split at q1
  · rename_i hl
    exact ⟨Nat.le_trans (by rw [hvs.length]; exact hl) tenM, fun p hp => Asks.pure s1.rel q1 p vs hp hvs⟩
  · exact q1.elim

/-! ### comprehensions -/
/-- the tests of a clause -/
def SPt (X : Cx) (ifs : List Expr) (f : SemE Bool) : Prop :=
  ∃ te, PTs X ifs te ∧ ∀ ρ σ G H Q, Rel X.K ρ σ G H → Asks X.K ρ σ G H (fun _ _ _ _ => False) (f ρ) (fun b _ _ H' => Q b H') → te σ H Q
def sYes : SemE Bool := fun ρ => .ok true ρ
theorem spt_nil : SPt X [] sYes := ⟨tYes, pts_nil, fun ρ σ G H Q rl q => Asks.pure rl q⟩
theorem spt_one {c : Expr} {p : SemE Bool} (h : ST X (fun _ _ _ _ => False) c p) : SPt X [c] p := by
  obtain ⟨t, h1, h2⟩ := h
  exact ⟨t, pts_one h1, h2⟩
/-- the slots of a comprehension's own names -/
def blank (is : List Nat) (ρ : List Sl) : List Sl := ρ.mapIdx fun i s => if is.contains i then .un else s
/-- behind a comprehension: its own names' slots as they were, all else as it is -/
def merge (is : List Nat) (ρ ρ' : List Sl) : List Sl := ρ'.mapIdx fun i s => if is.contains i then ρ.getD i .un else s
def noOwn (is : List Nat) (ρ : List Sl) : Bool := is.all fun i => match ρ[i]? with
  | some (.o _ _) => false
  | none => false
  | _ => true
def noexc {α : Type} (r : Res α) (k : α → List Sl → Res (List D)) : Res (List D) := match r with
  | .ok a ρ => k a ρ
  | _ => .bad
@[simp] theorem noexc_ok {α : Type} (a : α) (ρ : List Sl) (k : α → List Sl → Res (List D)) : noexc (.ok a ρ) k = k a ρ := rfl
@[simp] theorem noexc_exc {α : Type} (x : Ex) (ρ : List Sl) (k : α → List Sl → Res (List D)) : noexc (.exc x ρ) k = .bad := rfl
@[simp] theorem noexc_bad {α : Type} (k : α → List Sl → Res (List D)) : noexc .bad k = .bad := rfl
def tgComp (r : Option (List Sl)) (k : List Sl → Res (List D)) : Res (List D) := match r with
  | some ρ => k ρ
  | none => .bad
@[simp] theorem tgComp_some (ρ : List Sl) (k : List Sl → Res (List D)) : tgComp (some ρ) k = k ρ := rfl
@[simp] theorem tgComp_none (k : List Sl → Res (List D)) : tgComp none k = .bad := rfl
def compL (is : List Nat) (t : SemG) (tt : SemE Bool) (f : SemE D) : List D → List D → List Sl → Res (List D)
  | [], acc, ρ => .ok acc ρ
  | d :: ds, acc, ρ => tgComp (t d ρ) fun ρ1 => noexc (tt ρ1) fun k ρ2 =>
      if k = true then noexc (f ρ2) fun y ρ3 => if acc.length < 10000000 then compL is t tt f ds (acc ++ [y]) (blank is ρ3) else .bad
      else compL is t tt f ds acc (blank is ρ2)
def sLc (is : List Nat) (it : SemE (List D)) (t : SemG) (tt : SemE Bool) (f : SemE D) : SemE (List D) := fun ρ => (it ρ).bind fun ds ρ1 =>
  if noOwn is ρ1 = true then noexc (compL is t tt f ds [] (blank is ρ1)) fun acc ρ2 => .ok acc (merge is ρ1 ρ2) else .bad
theorem blank_len (is : List Nat) (ρ : List Sl) : (blank is ρ).length = ρ.length := by simp [blank]
theorem merge_len (is : List Nat) (ρ ρ' : List Sl) : (merge is ρ ρ').length = ρ'.length := by simp [merge]
theorem blank_in {is : List Nat} {ρ : List Sl} {i : Nat} {s : Sl} (h : i ∈ is) (e : (blank is ρ)[i]? = some s) : s = .un := by
  unfold blank at e
  rw [List.getElem?_mapIdx] at e
  cases q : ρ[i]? with
  | none => rw [q] at e; cases e
  | some x =>
    rw [q] at e
    simp only [Option.map_some, List.contains_iff_mem.mpr h, if_true] at e
    exact (Option.some.inj e).symm
theorem blank_out {is : List Nat} {ρ : List Sl} {i : Nat} (h : i ∉ is) : (blank is ρ)[i]? = ρ[i]? := by
  unfold blank
  rw [List.getElem?_mapIdx]
  have hc : is.contains i = false := by
    cases q : is.contains i with
    | false => rfl
    | true => exact absurd (List.contains_iff_mem.mp q) h
  cases q : ρ[i]? with
  | none => rfl
  | some x => simp [h]
theorem merge_out {is : List Nat} {ρ ρ' : List Sl} {i : Nat} (h : i ∉ is) : (merge is ρ ρ')[i]? = ρ'[i]? := by
  unfold merge
  rw [List.getElem?_mapIdx]
  have hc : is.contains i = false := by
    cases q : is.contains i with
    | false => rfl
    | true => exact absurd (List.contains_iff_mem.mp q) h
  cases q : ρ'[i]? with
  | none => rfl
  | some x => simp [h]
theorem merge_in {is : List Nat} {ρ ρ' : List Sl} {i : Nat} {s : Sl} (h : i ∈ is) (hl : ρ'.length = ρ.length) (e : (merge is ρ ρ')[i]? = some s) : ρ[i]? = some s := by
  unfold merge at e
  rw [List.getElem?_mapIdx] at e
  cases q : ρ'[i]? with
  | none => rw [q] at e; cases e
  | some x =>
    rw [q] at e
    simp only [Option.map_some, List.contains_iff_mem.mpr h, if_true] at e
    have hi : i < ρ.length := by rw [← hl]; exact (List.getElem?_eq_some_iff.mp q).1
    rw [← Option.some.inj e, List.getD_eq_getElem?_getD, List.getElem?_eq_getElem hi]
    rfl
theorem wipe_in {σ : Sg} {i : Nat} : ∀ {vs : List Nat}, i ∈ vs → i < σ.length → (wipe σ vs)[i]? = some none
  | [], h, _ => by cases h
  | v :: vs, h, hi => by
    unfold wipe
    by_cases e : v = i
    · subst e
      exact List.getElem?_set_self (by rw [wipe_length]; exact hi)
    · rw [List.getElem?_set_ne e]
      exact wipe_in ((List.mem_cons.mp h).resolve_left fun z => e z.symm) hi
theorem wipe_eq {σ σ' : Sg} {is vs : List Nat} (hv : ∀ i ∈ is, i ∈ vs) (hl : σ'.length = σ.length) (h : ∀ j : Nat, j ∉ is → σ'[j]? = (wipe σ vs)[j]?) : wipe σ' vs = wipe σ vs := by
  apply List.ext_getElem?
  intro i
  by_cases hi : i ∈ vs
  · by_cases hl2 : i < σ.length
    · rw [wipe_in hi hl2, wipe_in hi (by rw [hl]; exact hl2)]
    · rw [List.getElem?_eq_none (by rw [wipe_length]; omega), List.getElem?_eq_none (by rw [wipe_length]; omega)]
  · rw [wipe_out hi, h i fun z => hi (hv i z)]
/-- the slots blanked: the block's start -/
theorem Rel.blank {K : PySem.W.Frag} {ρ : List Sl} {σ σ' : Sg} {G H : Hp} {is : List Nat} (r : Rel K ρ σ G H) (hl : σ'.length = σ.length) (h : ∀ j : Nat, j ∉ is → σ'[j]? = σ[j]?) : Rel K (Sh.blank is ρ) σ' G H := by
  have own : ∀ (i : Nat) (p : Bool) (m : Mu), (Sh.blank is ρ)[i]? = some (.o p m) → i ∉ is ∧ ρ[i]? = some (.o p m) := fun i p m e => by
    by_cases hi : i ∈ is
    · cases blank_in hi e
    · rw [blank_out hi] at e; exact ⟨hi, e⟩
  refine ⟨by rw [blank_len, hl]; exact r.len, r.same, fun i s e => ?_, fun i j a p q m n hi hj h1 h2 => ?_⟩
  · by_cases hi : i ∈ is
    · cases blank_in hi e; trivial
    · rw [blank_out hi] at e
      rw [h i hi]
      exact r.sl i s e
  · obtain ⟨n1, e1⟩ := own i p m hi
    obtain ⟨n2, e2⟩ := own j q n hj
    rw [h i n1] at h1
    rw [h j n2] at h2
    exact r.inj i j a p q m n e1 e2 h1 h2
/-- what may stand at D while the block runs: neither frozen nor own -/
theorem Step.other {K : PySem.W.Frag} {ρ ρ' : List Sl} {σ σ' : Sg} {G H G' H' : Hp} {p : Addr} {o : HO} (s : Step K ρ σ G H ρ' σ' G' H') (h1 : G p = none) (h2 : H p = some o) (h3 : ¬ Own ρ σ p) : G' p = none ∧ H' p = some o ∧ ¬ Own ρ' σ' p :=
  ⟨s.grow.fr p h1 (by rw [h2]; exact fun z => nomatch z) h3, s.grow.keep p o h1 h2 h3, fun z => (s.own p z).elim h3 fun q => by rw [h2] at q; cases q⟩
/-- an object that is neither frozen nor own changes -/
theorem Rel.beside {K : PySem.W.Frag} {ρ : List Sl} {σ : Sg} {G H : Hp} {p : Addr} {o : HO} (r : Rel K ρ σ G H) (h1 : G p = none) (h3 : ¬ Own ρ σ p) : Rel K ρ σ G (upd H p o) := by
  refine ⟨r.len, fun b u e => by rw [upd_ne (fun z => by rw [z, h1] at e; cases e)]; exact r.same b u e, fun i s e => ?_, r.inj⟩
  have q := r.sl i s e
  cases s with
  | un => trivial
  | v d => exact q
  | o pn m =>
    obtain ⟨a, ho, e1, e2, e3, e4⟩ := q
    exact ⟨a, ho, e1, e2, by rw [upd_ne (fun z => h3 (by rw [← z]; exact ⟨i, pn, m, e, e1⟩))]; exact e3, e4⟩
theorem Rel.nOwn {K : PySem.W.Frag} {ρ : List Sl} {σ : Sg} {G H : Hp} {vs : List Nat} (r : Rel K ρ (wipe σ vs) G H) {i : Nat} {p : Bool} {m : Mu} (e : ρ[i]? = some (.o p m)) : i ∉ vs := fun hi => by
  obtain ⟨a, o, h1, _⟩ := r.sl i _ e
  have hl : i < σ.length := by
    have := (List.getElem?_eq_some_iff.mp h1).1
    rw [wipe_length] at this
    exact this
  rw [wipe_in hi hl] at h1
  cases h1
/-- a block's turn, seen with the new list hidden and the block's names blanked -/
theorem Step.block {K : PySem.W.Frag} {ρ ρ' : List Sl} {σ σ' : Sg} {G H G' H' : Hp} {vs : List Nat} {p : Addr} {o u : HO} (s : Step K ρ (wipe σ vs) G H ρ' σ' G' H') (r : Rel K ρ (wipe σ vs) G H) (hw : wipe σ' vs = wipe σ vs)
    (hl : σ'.length = σ.length) (h1 : G p = none) (h2 : H p = some o) (h3 : ¬ Own ρ (wipe σ vs) p) : Step K ρ (wipe σ vs) G (upd H p u) (Sh.blank vs ρ') (wipe σ vs) G' (upd H' p u) := by
  obtain ⟨g1, g2, g3⟩ := s.other h1 h2 h3
  have hσ : ∀ j : Nat, j ∉ vs → (wipe σ vs)[j]? = σ'[j]? := fun j hj => by rw [← hw, wipe_out hj]
  have r1 : Rel K (Sh.blank vs ρ') (wipe σ vs) G' H' := s.rel.blank (by rw [wipe_length, hl]) hσ
  have ow : ∀ a, Own (Sh.blank vs ρ') (wipe σ vs) a → Own ρ' σ' a := fun a ⟨i, q, m, e1, e2⟩ => by
    have hi := r1.nOwn e1
    rw [blank_out hi] at e1
    rw [hσ i hi] at e2
    exact ⟨i, q, m, e1, e2⟩
  refine ⟨r1.beside g1 fun z => g3 (ow p z), ⟨s.grow.gg, fun a e1 e2 e3 => ?_, fun a x e1 e2 e3 => ?_, fun a e => ?_⟩, fun a z => ?_, fun i m e => ?_, by rw [blank_len]; exact s.len⟩
  · by_cases q : a = p
    · rw [q]; exact g1
    · rw [upd_ne q] at e2; exact s.grow.fr a e1 e2 e3
  · by_cases q : a = p
    · subst q; rw [upd_same] at e2 ⊢; exact e2
    · rw [upd_ne q] at e2 ⊢; exact s.grow.keep a x e1 e2 e3
  · by_cases q : a = p
    · subst q; rw [upd_same]; exact fun z => nomatch z
    · rw [upd_ne q] at e ⊢; exact s.grow.stay a e
  · rcases s.own a (ow a z) with q | q
    · exact .inl q
    · refine .inr ?_
      rw [upd_ne (fun y => by rw [y, h2] at q; cases q)]
      exact q
  · have hi := r.nOwn e
    obtain ⟨_, m', e2⟩ := s.pin i m e
    exact ⟨rfl, m', by rw [blank_out hi]; exact e2⟩
/-- the invariant of a comprehension's loop -/
structure CompI (K : PySem.W.Frag) (ρ0 : List Sl) (σ : Sg) (G0 H0 : Hp) (p : Addr) (vs : List Nat) (ρ : List Sl) (G H : Hp) (acc : List V) (ds : List D) : Prop where
  rel : Rel K ρ (wipe σ vs) G H
  step : Step K (blank vs ρ0) (wipe σ vs) G0 (upd H0 p (.lst [])) ρ (wipe σ vs) G (upd H p (.lst []))
  gD : G p = none
  hD : H p = some (.lst acc)
  nD : ¬ Own ρ (wipe σ vs) p
  acc : DsL K G acc ds
theorem noOwn_get {is : List Nat} {ρ : List Sl} (h : noOwn is ρ = true) {i : Nat} (hi : i ∈ is) : ∃ s, ρ[i]? = some s ∧ ∀ p m, s ≠ .o p m := by
  have q := List.all_eq_true.mp h i hi
  cases e : ρ[i]? with
  | none => rw [e] at q; cases q
  | some s =>
    rw [e] at q
    cases s with
    | un => exact ⟨_, rfl, fun _ _ z => nomatch z⟩
    | v d => exact ⟨_, rfl, fun _ _ z => nomatch z⟩
    | o p m => cases q
def hide (p : Addr) (H : Hp) : Hp := fun a => if a = p then none else H a
/-- the comprehension's end, seen from the def -/
theorem CompI.fin {K : PySem.W.Frag} {ρ0 ρ : List Sl} {σ : Sg} {G0 H0 G H : Hp} {p : Addr} {vs : List Nat} {acc : List V} {ds : List D} (c : CompI K ρ0 σ G0 H0 p vs ρ G H acc ds) (r0 : Rel K ρ0 σ G0 H0) (hp : H0 p = none) (no : noOwn vs ρ0 = true) :
    Step K ρ0 σ G0 H0 (merge vs ρ0 ρ) σ G (hide p H) ∧ upd (hide p H) p (.lst acc) = H := by
  have hl : ρ.length = ρ0.length := by rw [c.step.len, blank_len]
  have notin : ∀ (i : Nat) (q : Bool) (m : Mu), ρ0[i]? = some (.o q m) → i ∉ vs := fun i q m e hi => by
    obtain ⟨s, e1, e2⟩ := noOwn_get no hi
    rw [e] at e1
    exact e2 q m (Option.some.inj e1).symm
  have mo : ∀ (i : Nat) (q : Bool) (m : Mu), (merge vs ρ0 ρ)[i]? = some (.o q m) → i ∉ vs ∧ ρ[i]? = some (.o q m) := fun i q m e => by
    by_cases hi : i ∈ vs
    · exact absurd hi (notin i q m (merge_in hi hl e))
    · rw [merge_out hi] at e; exact ⟨hi, e⟩
  have H'ne : ∀ a, a ≠ p → hide p H a = H a := fun a e => if_neg e
  have nep : ∀ a x, H0 a = some x → a ≠ p := fun a x e z => by rw [z, hp] at e; cases e
  have ow0 : ∀ a, Own (blank vs ρ0) (wipe σ vs) a → Own ρ0 σ a := fun a ⟨i, q, m, e1, e2⟩ => by
    by_cases hi : i ∈ vs
    · cases blank_in hi e1
    · rw [blank_out hi] at e1; rw [wipe_out hi] at e2; exact ⟨i, q, m, e1, e2⟩
  refine ⟨⟨⟨by rw [merge_len, hl]; exact r0.len, fun b u e => ?_, fun i s e => ?_, fun i j a q q' m n e1 e2 f1 f2 => ?_⟩, ⟨c.step.grow.gg, fun a e1 e2 e3 => ?_, fun a x e1 e2 e3 => ?_, fun a e => ?_⟩, fun a ⟨i, q, m, e1, e2⟩ => ?_, fun i m e => ?_, by rw [merge_len]; exact hl⟩, ?_⟩
  · have hb : b ≠ p := fun z => by rw [z, c.gD] at e; cases e
    rw [H'ne b hb]
    exact c.rel.same b u e
  · by_cases hi : i ∈ vs
    · have e' := merge_in hi hl e
      cases s with
      | un => trivial
      | v d => obtain ⟨v, f1, f2⟩ := r0.sl i _ e'; exact ⟨v, f1, f2.mono c.step.grow.gg⟩
      | o q m => exact absurd hi (notin i q m e')
    · rw [merge_out hi] at e
      have z := c.rel.sl i s e
      rw [wipe_out hi] at z
      cases s with
      | un => trivial
      | v d => exact z
      | o q m =>
        obtain ⟨a, o, f1, f2, f3, f4⟩ := z
        refine ⟨a, o, f1, f2, ?_, f4⟩
        rw [H'ne a fun y => c.nD (by rw [← y]; exact ⟨i, q, m, e, by rw [wipe_out hi]; exact f1⟩)]
        exact f3
  · obtain ⟨n1, g1⟩ := mo i q m e1
    obtain ⟨n2, g2⟩ := mo j q' n e2
    exact c.rel.inj i j a q q' m n g1 g2 (by rw [wipe_out n1]; exact f1) (by rw [wipe_out n2]; exact f2)
  · cases q : H0 a with
    | none => exact absurd q e2
    | some x => exact c.step.grow.fr a e1 (by rw [upd_ne (nep a x q)]; exact e2) fun z => e3 (ow0 a z)
  · have h1 := nep a x e2
    have := c.step.grow.keep a x e1 (by rw [upd_ne h1]; exact e2) fun z => e3 (ow0 a z)
    rw [upd_ne h1] at this
    rw [H'ne a h1]
    exact this
  · cases q : H0 a with
    | none => exact absurd q e
    | some x =>
      have h1 := nep a x q
      have := c.step.grow.stay a (by rw [upd_ne h1]; exact e)
      rw [upd_ne h1] at this
      rw [H'ne a h1]
      exact this
  · obtain ⟨n1, g1⟩ := mo i q m e1
    rcases c.step.own a ⟨i, q, m, g1, by rw [wipe_out n1]; exact e2⟩ with z | z
    · exact .inl (ow0 a z)
    · refine .inr ?_
      by_cases y : a = p
      · rw [y]; exact hp
      · rw [upd_ne y] at z; exact z
  · have hi := notin i true m e
    obtain ⟨_, m', e2⟩ := c.step.pin i m (by rw [blank_out hi]; exact e)
    exact ⟨rfl, m', by rw [merge_out hi]; exact e2⟩
  · funext b
    by_cases q : b = p
    · subst q; rw [upd_same, c.hD]
    · rw [upd_ne q, H'ne b q]
section
variable {K : PySem.W.Frag} {W : WX} {wi : TI} {g : TG} {tt : TT} {te : TE} {vs ti : List Nat} {it : SemE (List D)} {t : SemG} {pt : SemE Bool} {f : SemE D}
theorem lc_sound (hv : ∀ i ∈ ti, i ∈ vs)
    (i2 : ∀ ρ σ G H R, Rel K ρ σ G H → Asks K ρ σ G H W (it ρ) (fun ds _ G' H' => ∀ J, ItOk K G' J ds → R J H') → wi σ H R)
    (g2 : ∀ ρ σ G H v d Q, Rel K ρ σ G H → Ds K G v d → TgAsk ti K ρ σ G H (fun σ' => Q σ' H) (t d ρ) → g v σ H Q)
    (t2 : ∀ ρ σ G H Q, Rel K ρ σ G H → Asks K ρ σ G H (fun _ _ _ _ => False) (pt ρ) (fun b _ _ H' => Q b H') → tt σ H Q)
    (e2 : ∀ ρ σ G H Q, Rel K ρ σ G H → Asks K ρ σ G H (fun _ _ _ _ => False) (f ρ) (fun d _ G' H' => ∀ v, Ds K G' v d → Q v H') → te σ H Q) :
    ∀ ρ σ G H Q, Rel K ρ σ G H → Asks K ρ σ G H W (sLc vs it t pt f ρ) (fun ds _ G' H' => ∀ p us, H' p = none → DsL K G' us ds → Q (.ref p) (upd H' p (.lst us))) → tLc wi g tt te vs σ H Q := by
  intro ρ σ G H Q rl q
  refine i2 ρ σ G H _ rl ((Asks.bind q).imp fun ds ρ1 G1 H1 ei s1 q1 J hJ p hp => ?_)
  split at q1
  case isFalse => exact q1.elim
  rename_i no
  cases ec : compL vs t pt f ds [] (blank vs ρ1) with
  | bad => rw [ec] at q1; exact q1.elim
  | exc x ρF => rw [ec] at q1; exact q1.elim
  | ok accF ρF =>
    rw [ec] at q1
    have gp : G1 p = none := s1.rel.same.free hp
    have rb : Rel K (blank vs ρ1) (wipe σ vs) G1 H1 := s1.rel.blank (wipe_length σ vs) fun j hj => wipe_out hj
    have nb : ¬ Own (blank vs ρ1) (wipe σ vs) p := fun ⟨i, pn, m, z1, z2⟩ => by
      obtain ⟨a, o, y1, _, y3, _⟩ := rb.sl i _ z1
      rw [z2] at y1
      cases y1
      rw [hp] at y3
      cases y3
    refine ⟨fun i m H' => ∃ ρ' G' acc dacc, m = ds.length - i ∧ i ≤ ds.length ∧ CompI K ρ1 σ G1 H1 p vs ρ' G' H' acc dacc ∧ compL vs t pt f (ds.drop i) dacc ρ' = .ok accF ρF ∧ Same G1 G',
      ⟨ds.length, blank vs ρ1, G1, [], [], by simp, Nat.zero_le _, ⟨rb.beside gp nb, ?_, gp, upd_same, nb, .nil⟩, by simpa using ec, Same.refl _⟩, ?_⟩
    · rw [L2.upd_upd]
      exact Step.refl (rb.beside gp nb)
    rintro i m H' ⟨ρ', G', acc, dacc, rfl, hi, c, ecc, sm⟩
    by_cases hlt : i < ds.length
    · have hdr : ds.drop i = ds[i] :: ds.drop (i + 1) := List.drop_eq_getElem_cons hlt
      rw [hdr] at ecc
      obtain ⟨go, yl⟩ := hJ.go i G' H' _ sm c.rel.same (List.getElem?_eq_getElem hlt)
      refine .inr ⟨go, fun H2 => ∃ ρ' G' acc dacc, i + 1 ≤ ds.length ∧ CompI K ρ1 σ G1 H1 p vs ρ' G' H2 acc dacc ∧ compL vs t pt f (ds.drop (i + 1)) dacc ρ' = .ok accF ρF ∧ Same G1 G',
        fun H2 ⟨ρ', G', acc, dacc, z1, z2, z3, z4⟩ => ⟨ds.length - (i + 1), by omega, ρ', G', acc, dacc, rfl, z1, z2, z3, z4⟩, fun x H2 hy => ?_⟩
      obtain ⟨G2, gr, sm2, hx⟩ := yl x H2 hy
      have st2 := c.rel.step gr sm2
      refine g2 ρ' (wipe σ vs) G2 H2 x _ _ st2.rel hx ?_
      unfold compL at ecc
      cases e3 : t ds[i] ρ' with
      | none => rw [e3] at ecc; cases ecc
      | some ρ3 =>
        rw [e3, tgComp_some] at ecc
        intro σ3 s3 n3
        have hl3 : σ3.length = σ.length := by
          have z1 := s3.rel.len
          have z2 := s3.len
          have z3 := c.rel.len
          rw [wipe_length] at z3
          omega
        have hw : wipe σ3 vs = wipe σ vs := wipe_eq hv hl3 n3
        refine ⟨hw, t2 ρ3 σ3 G2 H2 _ s3.rel ?_⟩
        cases e4 : pt ρ3 with
        | bad => rw [e4] at ecc; cases ecc
        | exc x ρ4 => rw [e4] at ecc; cases ecc
        | ok b ρ4 =>
          rw [e4, noexc_ok] at ecc
          intro G4 H4 s4
          -- behind the whole turn
          have next : ∀ {ρ5 : List Sl} {G5 H5 : Hp} {us : List V} {es : List D}, Step K ρ4 σ3 G4 H4 ρ5 σ3 G5 H5 → DsL K G5 us es → compL vs t pt f (ds.drop (i + 1)) es (blank vs ρ5) = .ok accF ρF →
              ∃ ρ' G' acc dacc, i + 1 ≤ ds.length ∧ CompI K ρ1 σ G1 H1 p vs ρ' G' (upd H5 p (.lst us)) acc dacc ∧ compL vs t pt f (ds.drop (i + 1)) dacc ρ' = .ok accF ρF ∧ Same G1 G' := fun {ρ5 G5 H5 us es} s5 hus ee => by
            have S := ((st2.trans s3).trans s4).trans s5
            obtain ⟨k1, k2, k3⟩ := S.other c.gD c.hD c.nD
            have B := S.block (u := .lst us) c.rel hw hl3 c.gD c.hD c.nD
            have B0 := S.block (u := .lst []) c.rel hw hl3 c.gD c.hD c.nD
            refine ⟨blank vs ρ5, G5, us, es, hlt, ⟨B.rel, ?_, k1, upd_same, fun z => ?_, hus⟩, ee, sm.trans S.grow.gg⟩
            · rw [L2.upd_upd]
              exact c.step.trans B0
            · obtain ⟨j, pn, m, y1, y2⟩ := z
              have hj := B.rel.nOwn y1
              rw [blank_out hj] at y1
              exact k3 ⟨j, pn, m, y1, by rw [← y2, ← hw, wipe_out hj]⟩
          cases b with
          | false =>
            rw [if_neg Bool.false_ne_true] at ecc ⊢
            have S := (st2.trans s3).trans s4
            obtain ⟨k1, k2, k3⟩ := S.other c.gD c.hD c.nD
            obtain ⟨ρ', G', acc', dacc', z1, z2, z3, z4⟩ := next (us := acc) (es := dacc) (Step.refl s4.rel) (c.acc.mono S.grow.gg) ecc
            have eq : upd H4 p (.lst acc) = H4 := by
              funext b
              by_cases y : b = p
              · subst y; rw [upd_same, k2]
              · rw [upd_ne y]
            rw [eq] at z2
            exact ⟨ρ', G', acc', dacc', z1, z2, z3, z4⟩
          | true =>
            rw [if_pos rfl] at ecc ⊢
            refine e2 ρ4 σ3 G4 H4 _ s4.rel ?_
            cases e5 : f ρ4 with
            | bad => rw [e5] at ecc; cases ecc
            | exc x ρ5 => rw [e5] at ecc; cases ecc
            | ok y ρ5 =>
              rw [e5, noexc_ok] at ecc
              intro G5 H5 s5 v hv'
              have S := ((st2.trans s3).trans s4).trans s5
              obtain ⟨k1, k2, k3⟩ := S.other c.gD c.hD c.nD
              split at ecc
              case isFalse => cases ecc
              rename_i hlen
              refine ⟨acc, k2, Nat.lt_of_lt_of_le (by rw [c.acc.length]; exact hlen) tenM, ?_⟩
              exact next (us := acc ++ [v]) (es := dacc ++ [y]) s5 ((c.acc.mono S.grow.gg).snoc hv') ecc
    · have e : i = ds.length := by omega
      subst e
      rw [List.drop_length] at ecc
      have ecc : Res.ok dacc ρ' = .ok accF ρF := ecc
      cases ecc
      obtain ⟨F1, F2⟩ := c.fin s1.rel hp no
      refine .inl ⟨hJ.stop _ G' H' sm c.rel.same (Nat.le_refl _), ?_⟩
      have q2 := q1 _ _ F1 p acc (if_pos rfl) c.acc
      rw [F2] at q2
      exact q2
end
/-! the forms that hang on the written part alone -/
section
variable {X : Cx} {W : WX} {e tg : Expr}
def canE (K : PySem.W.Frag) (W : WX) (f : SemE D) : TE := fun σ H Q => ∃ ρ G, Rel K ρ σ G H ∧ Asks K ρ σ G H W (f ρ) (fun d _ G' H' => ∀ v, Ds K G' v d → Q v H')
def canT (K : PySem.W.Frag) (W : WX) (f : SemE Bool) : TT := fun σ H Q => ∃ ρ G, Rel K ρ σ G H ∧ Asks K ρ σ G H W (f ρ) (fun b _ _ H' => Q b H')
def canG (K : PySem.W.Frag) (ti : List Nat) (t : SemG) : TG := fun v σ H Q => ∃ ρ G d, Rel K ρ σ G H ∧ Ds K G v d ∧ TgAsk ti K ρ σ G H (fun σ' => Q σ' H) (t d ρ)
def canI (K : PySem.W.Frag) (W : WX) (f : SemE (List D)) : TI := fun σ H R => ∃ ρ G, Rel K ρ σ G H ∧ Asks K ρ σ G H W (f ρ) (fun ds _ G' H' => ∀ J, ItOk K G' J ds → R J H')
theorem SE.can {f : SemE D} (h : SE X W e f) : PE X e (canE X.K W f) := by
  obtain ⟨t, h1, h2⟩ := h
  exact ⟨fun pins s σ H Q I ⟨ρ, G, rl, q⟩ => h1.run pins s σ H Q I (h2 ρ σ G H Q rl q)⟩
theorem ST.can {f : SemE Bool} (h : ST X W e f) : PT X e (canT X.K W f) := by
  obtain ⟨t, h1, h2⟩ := h
  exact ⟨fun pins s σ H Q I ⟨ρ, G, rl, q⟩ => h1.run pins s σ H Q I (h2 ρ σ G H Q rl q)⟩
theorem SPt.can {es : List Expr} {f : SemE Bool} (h : SPt X es f) : PTs X es (canT X.K (fun _ _ _ _ => False) f) := by
  obtain ⟨t, h1, h2⟩ := h
  exact ⟨fun pins s σ H Q I ⟨ρ, G, rl, q⟩ => h1.run pins s σ H Q I (h2 ρ σ G H Q rl q)⟩
theorem SG.can {ti : List Nat} {t : SemG} (h : SG X tg ti t) : PG X tg (canG X.K ti t) := by
  obtain ⟨g, h1, h2⟩ := h
  exact ⟨fun pins s σ H v u Q I r ⟨ρ, G, d, rl, hd, q⟩ => h1.run pins s σ H v u Q I r (h2 ρ σ G H v d Q rl hd q)⟩
theorem SI.can {f : SemE (List D)} (h : SI X W tg e f) : PI X tg e (canI X.K W f) := by
  obtain ⟨t, h1, h2⟩ := h
  exact ⟨fun pins s σ H Q I ⟨ρ, G, rl, q⟩ => h1.run pins s σ H Q I (h2 ρ σ G H Q rl q)⟩
end
section
variable {X : Cx} {W : WX} {tg iter elt : Expr} {ifs : List Expr} {scope : Scope} {own : List (Str × Nat)} {ti : List Nat} {it : SemE (List D)} {t : SemG} {pt : SemE Bool} {f : SemE D} {pos : Pos}
theorem sn_lc (hc : X.calm = true) (hN : X.N.Nodup) (hi : SI X W tg iter it) (ok : blkC X.N X.env.scope scope own = true)
    (hg : ∀ (s : Shared) (H : Hp) (C : Addr) (cl : List (Str × Addr)) (fp : List Addr), SG (X.blk s H scope (compEnvC scope cl C X.env) fp) tg ti t)
    (ht : ∀ (s : Shared) (H : Hp) (C : Addr) (cl : List (Str × Addr)) (fp : List Addr), SPt (X.blk s H scope (compEnvC scope cl C X.env) fp) ifs pt)
    (he : ∀ (s : Shared) (H : Hp) (C : Addr) (cl : List (Str × Addr)) (fp : List Addr), SE (X.blk s H scope (compEnvC scope cl C X.env) fp) (fun _ _ _ _ => False) elt f)
    (hv : ∀ i ∈ ti, i ∈ own.map (·.2) := by decide) (hs : ∀ x, foldedSetIterable iter X.env x = pure x := by intro _; rfl) :
    SN X W (.ListComp elt [⟨tg, iter, ifs, 0⟩] scope pos) (sLc (own.map (·.2)) it t pt f) := by
  obtain ⟨wi, i1, i2⟩ := hi
  refine ⟨_, pe_lc (g := canG X.K ti t) (tt := canT X.K (fun _ _ _ _ => False) pt) (te := canE X.K (fun _ _ _ _ => False) f) hc hN i1 (blkOk_by ok) (fun s H C cl fp => (hg s H C cl fp).can) (fun s H C cl fp => (ht s H C cl fp).can) (fun s H C cl fp => (he s H C cl fp).can) hs, ?_⟩
  refine lc_sound hv i2 (fun ρ σ G H v d Q rl hd q => ⟨ρ, G, d, rl, hd, q⟩) (fun ρ σ G H Q rl q => ⟨ρ, G, rl, q⟩) (fun ρ σ G H Q rl q => ⟨ρ, G, rl, q⟩)
end
end
end Sh

namespace Sh
open PySem PySem.Spec PyProof.Rows L2

theorem OpR.or {X : Cx} {f : Value → Value → PySem.Sem Value} {r r' : R2} (h : OpR X f r) (h' : OpR X f r') : OpR X f (fun x y H Q => r x y H Q ∨ r' x y H Q) := by
  intro pins s σ H x y v u Q I rx ry q
  rcases q with q | q
  · exact h pins s σ H x y v u Q I rx ry q
  · exact h' pins s σ H x y v u Q I rx ry q
def orE (f g : D → D → Option D) : D → D → Option D := fun x y => match f x y with
  | some d => some d
  | none => g x y
theorem RBin.or {K : PySem.W.Frag} {r r' : R2} {f g : D → D → Option D} (h : RBin K r f) (h' : RBin K r' g) : RBin K (fun x y H Q => r x y H Q ∨ r' x y H Q) (orE f g) := by
  intro G H x y dx dy d Q s hx hy e q
  unfold orE at e
  cases e1 : f dx dy with
  | some d1 => rw [e1] at e; cases e; exact .inl (h G H x y dx dy d Q s hx hy e1 q)
  | none => rw [e1] at e; exact .inr (h' G H x y dx dy d Q s hx hy e q)
section
variable {K : PySem.W.Frag}
/-- two ints -/
def opII (C : Int → Int → Bool) (g : Int → Int → D) : D → D → Option D
  | .int i, .int j => if C i j = true then some (g i j) else none
  | _, _ => none
def yes2 : Int → Int → Bool := fun _ _ => true
theorem rb_I0 {g : Int → Int → V} {g' : Int → Int → D} (hg : ∀ G i j, Ds K G (g i j) (g' i j)) : RBin K (rI0 g) (opII yes2 g') := by
  intro G H x y dx dy d Q s hx hy e q
  cases dx with
  | int i =>
    cases dy with
    | int j =>
      cases hx
      cases hy
      have e : some (g' i j) = some d := e
      cases e
      exact ⟨i, j, rfl, rfl, q _ G H Grow.refl s (hg G i j)⟩
    | _ => cases e
  | _ => cases e
theorem rb_I {C : Int → Int → Prop} {c : Int → Int → Bool} {g : Int → Int → V} {g' : Int → Int → D} (hc : ∀ i j, c i j = true → C i j) (hg : ∀ G i j, Ds K G (g i j) (g' i j)) : RBin K (rI C g) (opII c g') := by
  intro G H x y dx dy d Q s hx hy e q
  cases dx with
  | int i =>
    cases dy with
    | int j =>
      cases hx
      cases hy
      have e : (if c i j = true then some (g' i j) else none) = some d := e
      split at e
      · rename_i h
        cases e
        exact ⟨i, j, rfl, rfl, hc i j h, q _ G H Grow.refl s (hg G i j)⟩
      · cases e
    | _ => cases e
  | _ => cases e
/-! + -/
def catT : D → D → Option D
  | .tup a, .tup b => if a.length + b.length ≤ 10000000 then some (.tup (a ++ b)) else none
  | _, _ => none
theorem rb_catT : RBin K (rCatA K) catT := by
  intro G H x y dx dy d Q s hx hy e q
  cases dx with
  | tup a =>
    cases dy with
    | tup b =>
      have e : (if a.length + b.length ≤ 10000000 then some (D.tup (a ++ b)) else none) = some d := e
      split at e
      case isFalse => cases e
      rename_i hl
      cases e
      have hx' := hx
      have hy' := hy
      cases hx with
      | tup h1 h2 =>
        cases hy with
        | tup h3 h4 =>
          refine ⟨_, _, _, _, rfl, rfl, SqT.of (s _ _ h1), SqT.of (s _ _ h3), Nat.le_trans (by rw [h2.length, h4.length]; exact hl) tenM, fun z => ?_, fun z1 z2 => ?_, fun z1 z2 p hp => ?_⟩
          · subst z
            cases h2
            exact q _ G H Grow.refl s hy'
          · subst z2
            cases h4
            rw [List.append_nil] at q
            exact q _ G H Grow.refl s hx'
          · exact q _ _ _ (Grow.new s hp) (Same.new s) (.tup upd_same ((h2.append h4).mono (Same.at s hp)))
    | _ => cases e
  | _ => cases e
def catL : D → D → Option D
  | .lst a, .lst b => if a.length + b.length ≤ 10000000 then some (.lst (a ++ b)) else none
  | _, _ => none
theorem rb_catL : RBin K rCat catL := by
  intro G H x y dx dy d Q s hx hy e q
  cases dx with
  | lst a =>
    cases dy with
    | lst b =>
      have e : (if a.length + b.length ≤ 10000000 then some (D.lst (a ++ b)) else none) = some d := e
      split at e
      case isFalse => cases e
      rename_i hl
      cases e
      cases hx with
      | lst h1 h2 =>
        cases hy with
        | lst h3 h4 =>
          refine ⟨_, _, _, _, rfl, rfl, s _ _ h1, s _ _ h3, Nat.le_trans (by rw [h2.length, h4.length]; exact hl) tenM, fun p hp => ?_⟩
          exact q _ _ _ (Grow.new s hp) (Same.new s) (.lst upd_same ((h2.append h4).mono (Same.at s hp)))
    | _ => cases e
  | _ => cases e
def addF : D → D → Option D := orE (opII yes2 fun i j => .int (i + j)) (orE catT catL)
theorem addOk {X : Cx} : ∃ r, OpR X (binaryOp .Add) r ∧ RBin X.K r addF := ⟨_, OpR.or op_add (OpR.or op_catA op_cat), RBin.or (rb_I0 fun _ _ _ => .int _) (RBin.or rb_catT rb_catL)⟩
def subF : D → D → Option D := opII yes2 fun i j => .int (i - j)
theorem subOk {X : Cx} : ∃ r, OpR X (binaryOp .Sub) r ∧ RBin X.K r subF := ⟨_, op_sub, rb_I0 fun _ _ _ => .int _⟩
def mulC (i j : Int) : Bool := (decide (-(2 ^ 64) < i) && decide (i < 2 ^ 64)) || (decide (-(2 ^ 64) < j) && decide (j < 2 ^ 64))
def mulI : D → D → Option D := opII mulC fun i j => .int (i * j)
theorem mulC_ok {i j : Int} (h : mulC i j = true) : CMul i j := by
  unfold mulC at h
  simp only [Bool.or_eq_true, Bool.and_eq_true, decide_eq_true_eq] at h
  exact h
/-- [0] * n, a tuple * n -/
def mulL : D → D → Option D
  | .lst a, .int k => if (k < 2 ^ 63 ∧ -(2 ^ 63) ≤ k) ∧ a.length * k.toNat ≤ 10000000 then some (.lst (List.replicate k.toNat a).flatten) else none
  | _, _ => none
def mulT : D → D → Option D
  | .tup a, .int k => if a ≠ [] ∧ 2 ≤ k ∧ k ≤ 1000 ∧ a.length ≤ 1000 then some (.tup (List.replicate k.toNat a).flatten) else none
  | _, _ => none
theorem DsL.rep {G : Hp} {vs : List V} {ds : List D} (h : DsL K G vs ds) : ∀ n : Nat, DsL K G (List.replicate n vs).flatten (List.replicate n ds).flatten
  | 0 => .nil
  | n + 1 => by
    simp only [List.replicate_succ, List.flatten_cons]
    exact h.append (DsL.rep h n)
theorem rb_mulT : RBin K (rRepT K) mulT := by
  intro G H x y dx dy d Q s hx hy e q
  cases dx with
  | tup a =>
    cases dy with
    | int k =>
      have e : (if a ≠ [] ∧ 2 ≤ k ∧ k ≤ 1000 ∧ a.length ≤ 1000 then some (D.tup (List.replicate k.toNat a).flatten) else none) = some d := e
      split at e
      case isFalse => cases e
      rename_i hl
      cases e
      cases hy
      cases hx with
      | tup h1 h2 =>
        refine ⟨_, k, _, rfl, rfl, SqT.of (s _ _ h1), fun z => ?_, hl.2.1, hl.2.2.1, by rw [h2.length]; exact hl.2.2.2, fun p hp => ?_⟩
        · subst z
          cases h2
          exact hl.1 rfl
        · exact q _ _ _ (Grow.new s hp) (Same.new s) (.tup upd_same ((DsL.rep h2 _).mono (Same.at s hp)))
    | _ => cases e
  | _ => cases e
def divC (i j : Int) : Bool := decide (0 < j) && decide (j < 1073741824)
def divF : D → D → Option D := opII divC fun i j => .int (i / j)
theorem divOk {X : Cx} : ∃ r, OpR X (binaryOp .FloorDiv) r ∧ RBin X.K r divF := ⟨_, op_fdiv, rb_I (fun i j h => by unfold divC at h; simpa [Bool.and_eq_true, CDiv] using h) fun _ _ _ => .int _⟩
def modC (i j : Int) : Bool := decide (0 < j)
def modF : D → D → Option D := opII modC fun i j => .int (i % j)
theorem modOk {X : Cx} : ∃ r, OpR X (binaryOp .Mod) r ∧ RBin X.K r modF := ⟨_, op_mod, rb_I (fun i j h => by unfold modC at h; simpa using h) fun _ _ _ => .int _⟩
def powC (i j : Int) : Bool := decide (0 ≤ j) && (decide (j ≤ 1000000) && decide (i.natAbs < 2 ^ 64))
def powF : D → D → Option D := opII powC fun i j => .int (i ^ j.toNat)
theorem powOk {X : Cx} : ∃ r, OpR X (binaryOp .Pow) r ∧ RBin X.K r powF := ⟨_, op_pow, rb_I (fun i j h => by unfold powC at h; simpa [Bool.and_eq_true, CPow] using h) fun _ _ _ => .int _⟩
def ltF : D → D → Option D := opII yes2 fun i j => .bl (decide (i < j))
def leF : D → D → Option D := opII yes2 fun i j => .bl (decide (i ≤ j))
def gtF : D → D → Option D := opII yes2 fun i j => .bl (decide (j < i))
def geF : D → D → Option D := opII yes2 fun i j => .bl (decide (j ≤ i))
theorem leOk {X : Cx} : ∃ r, OpR X (compareOp .LtE) r ∧ RBin X.K r leF := ⟨_, op_le, rb_I0 fun _ _ _ => .bl _⟩
theorem gtOk {X : Cx} : ∃ r, OpR X (compareOp .Gt) r ∧ RBin X.K r gtF := ⟨_, op_gt, rb_I0 fun _ _ _ => .bl _⟩
theorem geOk {X : Cx} : ∃ r, OpR X (compareOp .GtE) r ∧ RBin X.K r geF := ⟨_, op_ge, rb_I0 fun _ _ _ => .bl _⟩
/-! ints in a list -/
def allInt : List D → Option (List Int)
  | [] => some []
  | .int i :: r => (allInt r).map (i :: ·)
  | _ :: _ => none
theorem allInt_map : ∀ {ds : List D} {ns : List Int}, allInt ds = some ns → ds = ns.map D.int
  | [], ns, h => by cases h; rfl
  | .int i :: r, ns, h => by
    unfold allInt at h
    cases e : allInt r with
    | none => rw [e] at h; cases h
    | some m => rw [e] at h; cases h; rw [List.map_cons, ← allInt_map e]
  | .non :: _, _, h => by cases h
  | .bl _ :: _, _, h => by cases h
  | .str _ :: _, _, h => by cases h
  | .ref _ :: _, _, h => by cases h
  | .ty _ :: _, _, h => by cases h
  | .tup _ :: _, _, h => by cases h
  | .lst _ :: _, _, h => by cases h
  | .scr _ :: _, _, h => by cases h
  | .dK _ :: _, _, h => by cases h
  | .dT _ :: _, _, h => by cases h
  | .obj _ _ :: _, _, h => by cases h
@[simp] theorem allInt_of (ns : List Int) : allInt (ns.map D.int) = some ns := by
  induction ns with
  | nil => rfl
  | cons n ns ih => simp [allInt, ih]
theorem DsL.ints {G : Hp} : ∀ {vs : List V} {ns : List Int}, DsL K G vs (ns.map D.int) → vs = ns.map V.int
  | _, [], h => by cases h; rfl
  | _, n :: ns, h => by
    rw [List.map_cons] at h
    cases h with
    | cons h1 h2 => cases h1; rw [List.map_cons, ← DsL.ints h2]
theorem DsL.of_ints {G : Hp} : ∀ (ns : List Int), DsL K G (ns.map V.int) (ns.map D.int)
  | [] => .nil
  | n :: ns => .cons (.int n) (DsL.of_ints ns)
def allBl : List D → Option (List Bool)
  | [] => some []
  | .bl i :: r => (allBl r).map (i :: ·)
  | _ :: _ => none
theorem allBl_map : ∀ {ds : List D} {ns : List Bool}, allBl ds = some ns → ds = ns.map D.bl
  | [], ns, h => by cases h; rfl
  | .bl i :: r, ns, h => by
    unfold allBl at h
    cases e : allBl r with
    | none => rw [e] at h; cases h
    | some m => rw [e] at h; cases h; rw [List.map_cons, ← allBl_map e]
  | .non :: _, _, h => by cases h
  | .int _ :: _, _, h => by cases h
  | .str _ :: _, _, h => by cases h
  | .ref _ :: _, _, h => by cases h
  | .ty _ :: _, _, h => by cases h
  | .tup _ :: _, _, h => by cases h
  | .lst _ :: _, _, h => by cases h
  | .scr _ :: _, _, h => by cases h
  | .dK _ :: _, _, h => by cases h
  | .dT _ :: _, _, h => by cases h
  | .obj _ _ :: _, _, h => by cases h
@[simp] theorem allBl_of (ns : List Bool) : allBl (ns.map D.bl) = some ns := by
  induction ns with
  | nil => rfl
  | cons n ns ih => simp [allBl, ih]
theorem DsL.bls {G : Hp} : ∀ {vs : List V} {ns : List Bool}, DsL K G vs (ns.map D.bl) → vs = ns.map V.bl
  | _, [], h => by cases h; rfl
  | _, n :: ns, h => by
    rw [List.map_cons] at h
    cases h with
    | cons h1 h2 => cases h1; rw [List.map_cons, ← DsL.bls h2]
/-! tuples of ints by order -/
def ltT : D → D → Option D
  | .tup a, .tup b => match allInt a, allInt b with
    | some m, some n => some (.bl (HT.lexLt m n))
    | _, _ => none
  | _, _ => none
theorem rb_ltT : RBin K (rLtT K) ltT := by
  intro G H x y dx dy d Q s hx hy e q
  cases dx with
  | tup a =>
    cases dy with
    | tup b =>
      unfold ltT at e
      simp only at e
      split at e
      case h_2 => cases e
      rename_i m n e1 e2
      have e1 := allInt_map e1
      have e2 := allInt_map e2
      subst e1 e2
      cases e
      cases hx with
      | tup h1 h2 =>
        cases hy with
        | tup h3 h4 =>
          have k1 := h2.ints
          have k2 := h4.ints
          subst k1 k2
          exact ⟨_, _, m, n, rfl, rfl, SqT.of (s _ _ h1), SqT.of (s _ _ h3), q _ G H Grow.refl s (.bl _)⟩
    | _ => cases e
  | _ => cases e
def ltF2 : D → D → Option D := orE ltF ltT
theorem ltOk {X : Cx} (hu : X.A.units < cLine) : ∃ r, OpR X (compareOp .Lt) r ∧ RBin X.K r ltF2 := ⟨_, OpR.or op_lt (op_ltT hu), RBin.or (rb_I0 fun _ _ _ => .bl _) rb_ltT⟩
end
end Sh

namespace Sh
open PySem PySem.Spec PyProof.Rows L2
/-! ### equality of plain data -/
mutual
def toPy : D → Option PyData
  | .non => some .none
  | .bl b => some (.bool b)
  | .int i => some (.int i)
  | .str s => some (.str s)
  | .tup xs => (toPyL xs).map .tuple
  | .lst xs => (toPyL xs).map .list
  | .scr xs => (toPyL xs).map .list
  | _ => none
def toPyL : List D → Option (List PyData)
  | [] => some []
  | d :: r => (toPy d).bind fun p => (toPyL r).map (p :: ·)
end
mutual
theorem Ds.dp {K : PySem.W.Frag} {G H : Hp} (S : Same G H) : ∀ {v : V} {d : D} {p : PyData}, Ds K G v d → toPy d = some p → Dp K H v p
  | _, _, _, .non, e => by cases e; exact .non
  | _, _, _, .bl b, e => by cases e; exact .bl b
  | _, _, _, .int i, e => by cases e; exact .int i
  | _, _, _, .str s, e => by cases e; exact .str s
  | _, .tup ds, _, .tup h t, e => by
    simp only [toPy] at e
    cases q : toPyL ds with
    | none => rw [q] at e; cases e
    | some ps => rw [q] at e; cases e; exact .tup (SqT.of (S _ _ h)) (DsL.dp S t q)
  | _, .lst ds, _, .lst h t, e => by
    simp only [toPy] at e
    cases q : toPyL ds with
    | none => rw [q] at e; cases e
    | some ps => rw [q] at e; cases e; exact .lst (SqL.of (S _ _ h)) (DsL.dp S t q)
  | _, .scr ds, _, .scr h t, e => by
    simp only [toPy] at e
    cases q : toPyL ds with
    | none => rw [q] at e; cases e
    | some ps => rw [q] at e; cases e; exact .lst (S.seq h) (DsL.dp S t q)
theorem DsL.dp {K : PySem.W.Frag} {G H : Hp} (S : Same G H) : ∀ {vs : List V} {ds : List D} {ps : List PyData}, DsL K G vs ds → toPyL ds = some ps → DpAll K H vs ps
  | _, _, _, .nil, e => by cases e; exact .nil
  | _, d :: ds, _, .cons h t, e => by
    simp only [toPyL] at e
    cases q : toPy d with
    | none => rw [q] at e; cases e
    | some p =>
      rw [q] at e
      cases q2 : toPyL ds with
      | none => rw [q2] at e; cases e
      | some ps => rw [q2] at e; cases e; exact .cons (Ds.dp S h q) (DsL.dp S t q2)
end
section
variable {K : PySem.W.Frag}
def eqD (neg : Bool) : D → D → Option D := fun d e => match toPy d, toPy e with
  | some p, some q => if SeqAt.shaped p = true ∧ SeqAt.shaped q = true then some (.bl (if neg then !PyData.eqv p q else PyData.eqv p q)) else none
  | _, _ => none
theorem rb_eqD : RBin K (rEqD K) (eqD false) := by
  intro G H x y dx dy d Q s hx hy e q
  unfold eqD at e
  split at e
  case h_2 => cases e
  rename_i p1 p2 e1 e2
  split at e
  case isFalse => cases e
  rename_i h
  cases e
  exact ⟨p1, p2, hx.dp s e1, hy.dp s e2, h.1, h.2, q _ G H Grow.refl s (.bl _)⟩
theorem rb_neD : RBin K (rNeD K) (eqD true) := by
  intro G H x y dx dy d Q s hx hy e q
  unfold eqD at e
  split at e
  case h_2 => cases e
  rename_i p1 p2 e1 e2
  split at e
  case isFalse => cases e
  rename_i h
  cases e
  exact ⟨p1, p2, hx.dp s e1, hy.dp s e2, h.1, h.2, q _ G H Grow.refl s (.bl _)⟩
def isNonF : D → Option Bool
  | .non => some true
  | .bl _ | .int _ | .str _ | .tup _ | .lst _ | .scr _ | .dK _ | .dT _ | .obj _ _ | .ref _ | .ty _ => some false
def isF (neg : Bool) : D → D → Option D := fun d e => match e with
  | .non => (isNonF d).map fun b => .bl (if neg then !b else b)
  | _ => none
theorem rb_is : RBin K (fun x y H Q => y = .non ∧ Q (.bl (decide (x = .non))) H) (isF false) := by
  intro G H x y dx dy d Q s hx hy e q
  cases dy with
  | non =>
    cases hy
    refine ⟨rfl, ?_⟩
    cases hx <;> (cases e; exact q _ G H Grow.refl s (by first | exact Ds.bl _ | (simp; exact Ds.bl _)))
  | _ => cases e
theorem rb_isnot : RBin K (fun x y H Q => y = .non ∧ Q (.bl (!decide (x = .non))) H) (isF true) := by
  intro G H x y dx dy d Q s hx hy e q
  cases dy with
  | non =>
    cases hy
    refine ⟨rfl, ?_⟩
    cases hx <;> (cases e; exact q _ G H Grow.refl s (by first | exact Ds.bl _ | (simp; exact Ds.bl _)))
  | _ => cases e
/-! in -/
def inI (neg : Bool) : D → D → Option D := fun d e => match d, e with
  | .int i, .lst xs => (allInt xs).map fun ns => .bl (if neg then !ns.contains i else ns.contains i)
  | .int i, .tup xs => (allInt xs).map fun ns => .bl (if neg then !ns.contains i else ns.contains i)
  | _, _ => none
theorem inV_ints (i : Int) (ns : List Int) : inV (.int i) (ns.map V.int) = ns.contains i := by
  unfold inV
  rw [List.any_map, List.contains_eq_any_beq]
  congr 1
  funext j
  simp only [Function.comp, eqV]
  rw [Bool.beq_comm]
theorem flat_ints (ns : List Int) : (ns.map V.int).all flatV = true := by
  rw [List.all_map]
  exact List.all_eq_true.mpr fun _ _ => rfl
theorem rb_in (neg : Bool) : RBin K (rIn K neg) (inI neg) := by
  intro G H x y dx dy d Q s hx hy e q
  cases dx with
  | int i =>
    cases hx
    cases dy with
    | lst xs =>
      have e : (allInt xs).map (fun ns => D.bl (if neg then !ns.contains i else ns.contains i)) = some d := e
      cases e1 : allInt xs with
      | none => rw [e1] at e; cases e
      | some ns =>
        rw [e1] at e
        cases e
        have e2 := allInt_map e1
        subst e2
        cases hy with
        | lst h1 h2 =>
          have e3 := h2.ints
          subst e3
          refine ⟨_, _, rfl, .inl (SqL.of (s _ _ h1)), rfl, flat_ints ns, ?_⟩
          rw [inV_ints]
          exact q _ G H Grow.refl s (.bl _)
    | tup xs =>
      have e : (allInt xs).map (fun ns => D.bl (if neg then !ns.contains i else ns.contains i)) = some d := e
      cases e1 : allInt xs with
      | none => rw [e1] at e; cases e
      | some ns =>
        rw [e1] at e
        cases e
        have e2 := allInt_map e1
        subst e2
        cases hy with
        | tup h1 h2 =>
          have e3 := h2.ints
          subst e3
          refine ⟨_, _, rfl, .inr (SqT.of (s _ _ h1)), rfl, flat_ints ns, ?_⟩
          rw [inV_ints]
          exact q _ G H Grow.refl s (.bl _)
    | _ => cases e
  | _ => cases e
/-! the facts for the derivations -/
theorem eqOk {X : Cx} (hu : X.A.units + 64 < cLine) : ∃ r, OpR X (compareOp .Eq) r ∧ RBin X.K r (eqD false) := ⟨_, op_eqD hu, rb_eqD⟩
theorem neOk {X : Cx} (hu : X.A.units + 64 < cLine) : ∃ r, OpR X (compareOp .NotEq) r ∧ RBin X.K r (eqD true) := ⟨_, op_neD hu, rb_neD⟩
theorem isOk {X : Cx} : ∃ r, OpR X (compareOp .Is) r ∧ RBin X.K r (isF false) := ⟨_, op_isN, rb_is⟩
theorem isnotOk {X : Cx} : ∃ r, OpR X (compareOp .IsNot) r ∧ RBin X.K r (isF true) := ⟨_, op_notN, rb_isnot⟩
theorem inOk {X : Cx} : ∃ r, OpR X (compareOp .In) r ∧ RBin X.K r (inI false) := ⟨_, op_in_seq, rb_in false⟩
theorem notinOk {X : Cx} : ∃ r, OpR X (compareOp .NotIn) r ∧ RBin X.K r (inI true) := ⟨_, op_notIn_seq, rb_in true⟩
def negF : D → Option D
  | .int i => some (.int (-i))
  | _ => none
theorem ru_neg : RUn K (rU fun i => .int (-i)) negF := by
  intro G H x dx d Q s hx e q
  cases dx with
  | int i => cases hx; cases e; exact ⟨i, rfl, q _ G H Grow.refl s (.int _)⟩
  | _ => cases e
end
section
variable {X : Cx} {W : WX} {e a b c o i : Expr} {es : List Expr} {f g h : SemE D} {fs : SemE (List D)} {pos : Pos}
theorem se_opE {op : Operator} {fo : D → D → Option D} (ho : ∃ r, OpR X (binaryOp op) r ∧ RBin X.K r fo) (ha : SE X W a f) (hb : SE X W b g) : SE X W (.BinOp a op b pos) (sBin fo f g) := by
  obtain ⟨r, h1, h2⟩ := ho
  exact se_op h1 h2 ha hb
theorem se_cmpE {op : CmpOp} {fo : D → D → Option D} (ho : ∃ r, OpR X (compareOp op) r ∧ RBin X.K r fo) (ha : SE X W a f) (hb : SE X W b g) (hm : behindInMarks op b = false := by first | exact nomark _ | rfl) : SE X W (.Compare a [op] [b] pos) (sBin fo f g) := by
  obtain ⟨r, h1, h2⟩ := ho
  exact se_cmp h1 h2 ha hb hm
theorem st_cmpE {op : CmpOp} {fo : D → D → Option D} (ho : ∃ r, OpR X (compareOp op) r ∧ RBin X.K r fo) (ha : SE X W a f) (hb : SE X W b g) (hm : behindInMarks op b = false := by first | exact nomark _ | rfl) : ST X W (.Compare a [op] [b] pos) (sT (sBin fo f g)) := by
  obtain ⟨r, h1, h2⟩ := ho
  exact st_cmp h1 h2 ha hb hm
/-- a op1 b op2 c -/
def sChain (f1 f2 : D → D → Option D) (f g h : SemE D) : SemE D := fun ρ => (f ρ).bind fun x ρ1 => (g ρ1).bind fun y ρ2 => (toB (lift2 f1 x y ρ2)).bind fun k ρ3 => if k = true then (h ρ3).bind fun z ρ4 => lift2 f2 y z ρ4 else .ok (.bl false) ρ3
theorem tChain_of {K : PySem.W.Frag} {r r' : R2} {f1 f2 : D → D → Option D} {ta tb tc : TE} (hr : RBin K r f1) (hr' : RBin K r' f2)
    (ha : ∀ ρ σ G H Q, Rel K ρ σ G H → Asks K ρ σ G H W (f ρ) (fun d _ G' H' => ∀ v, Ds K G' v d → Q v H') → ta σ H Q)
    (hb : ∀ ρ σ G H Q, Rel K ρ σ G H → Asks K ρ σ G H W (g ρ) (fun d _ G' H' => ∀ v, Ds K G' v d → Q v H') → tb σ H Q)
    (hc : ∀ ρ σ G H Q, Rel K ρ σ G H → Asks K ρ σ G H W (h ρ) (fun d _ G' H' => ∀ v, Ds K G' v d → Q v H') → tc σ H Q) :
    ∀ ρ σ G H Q, Rel K ρ σ G H → Asks K ρ σ G H W (sChain f1 f2 f g h ρ) (fun d _ G' H' => ∀ v, Ds K G' v d → Q v H') → tChain r r' ta tb tc σ H Q := by
  intro ρ σ G H Q rl q
  refine ha ρ σ G H _ rl ((Asks.bind q).imp fun x ρ1 G1 H1 e1 s1 q1 v hv => ?_)
  refine hb ρ1 σ G1 H1 _ s1.rel ((Asks.bind q1).imp fun y ρ2 G2 H2 e2 s2 q2 u hu => ?_)
  have q2 := toB_ask (Asks.bind q2)
  unfold lift2 at q2
  cases e : f1 x y with
  | none => rw [e] at q2; exact q2.elim
  | some d =>
    rw [e] at q2
    refine hr G2 H2 v u x y d _ s2.rel.same (hv.mono s2.grow.gg) hu e fun w G' H' gr s dw => ?_
    have st := s2.rel.step gr s
    obtain ⟨k, rfl, q3⟩ := q2 G' H' st
    cases dw
    refine ⟨k, rfl, ?_⟩
    cases k with
    | false =>
      rw [if_neg Bool.false_ne_true] at q3 ⊢
      exact Asks.pure st.rel q3 _ (.bl _)
    | true =>
      rw [if_pos rfl] at q3 ⊢
      refine hc ρ2 σ G' H' _ st.rel ((Asks.bind q3).imp fun z ρ4 G4 H4 e4 s4 q4 w' hw => ?_)
      unfold lift2 at q4
      cases e5 : f2 y z with
      | none => rw [e5] at q4; exact q4.elim
      | some d5 =>
        rw [e5] at q4
        exact hr' G4 H4 u w' y z d5 Q s4.rel.same ((hu.mono gr.gg).mono s4.grow.gg) hw e5 fun w5 G5 H5 g5 s5 dw5 => q4 G5 H5 (s4.rel.step g5 s5) w5 dw5
theorem se_chain {op op' : CmpOp} {f1 f2 : D → D → Option D} (ho : ∃ r, OpR X (compareOp op) r ∧ RBin X.K r f1) (ho' : ∃ r, OpR X (compareOp op') r ∧ RBin X.K r f2) (ha : SE X W a f) (hb : SE X W b g) (hc : SE X W c h) (hm : lastMarks [op, op'] [b, c] = false := by with_unfolding_all rfl) :
    SE X W (.Compare a [op, op'] [b, c] pos) (sChain f1 f2 f g h) := by
  obtain ⟨r, o1, o2⟩ := ho
  obtain ⟨r', o3, o4⟩ := ho'
  obtain ⟨ta, a1, a2⟩ := ha
  obtain ⟨tb, b1, b2⟩ := hb
  obtain ⟨tc, c1, c2⟩ := hc
  exact ⟨_, pe_chain o1 o3 a1 b1 c1 hm, tChain_of o2 o4 a2 b2 c2⟩
theorem st_chain {op op' : CmpOp} {f1 f2 : D → D → Option D} (ho : ∃ r, OpR X (compareOp op) r ∧ RBin X.K r f1) (ho' : ∃ r, OpR X (compareOp op') r ∧ RBin X.K r f2) (ha : SE X W a f) (hb : SE X W b g) (hc : SE X W c h) (hm : lastMarks [op, op'] [b, c] = false := by with_unfolding_all rfl) :
    ST X W (.Compare a [op, op'] [b, c] pos) (sT (sChain f1 f2 f g h)) := by
  obtain ⟨r, o1, o2⟩ := ho
  obtain ⟨r', o3, o4⟩ := ho'
  obtain ⟨ta, a1, a2⟩ := ha
  obtain ⟨tb, b1, b2⟩ := hb
  obtain ⟨tc, c1, c2⟩ := hc
  exact ⟨_, pt_chain o1 o3 a1 b1 c1 hm, tB_of (tChain_of o2 o4 a2 b2 c2)⟩
/-! calls of builtins -/
theorem se_callB {id : String} {r : List V → Hp → VK → Prop} {fn : List D → Option D} {x : Str} {p : Pos} (hc : CallR X (.builtin id) r) (hr : RCall X.K r fn) (hm : X.mg x = none) (hv : bootBuiltins x = some (.builtin id)) (ha : SA X W (e :: es) fs)
    (hg : Gl X x := by rfl) (hn : x ≠ "__name__" := by decide) (hdb : (x == ("__debug__" : Str)) = false := by decide)
    (he : starEach (e :: es) X.env = (false, eval e X.env) :: starEach es X.env := by rfl) (hpl : (backTo pos (starEach es X.env)).any (·.1) = false := by rfl) : SE X W (.Call (.Name x p) (e :: es) [] pos) (sFn fn fs) := by
  obtain ⟨t, h1, h2⟩ := ha
  exact ⟨_, pe_callB hc hg hm hv h1 hn hdb he hpl, tFn_of hr h2⟩
theorem se_callTy {T : String} {r : List V → Hp → VK → Prop} {fn : List D → Option D} {x : Str} {p : Pos} (hc : CallR X (.type T) r) (hr : RCall X.K r fn) (hm : X.mg x = none) (hv : bootBuiltins x = some (.type T)) (ha : SA X W (e :: es) fs)
    (hg : Gl X x := by rfl) (hn : x ≠ "__name__" := by decide) (hdb : (x == ("__debug__" : Str)) = false := by decide)
    (he : starEach (e :: es) X.env = (false, eval e X.env) :: starEach es X.env := by rfl) (hpl : (backTo pos (starEach es X.env)).any (·.1) = false := by rfl) : SE X W (.Call (.Name x p) (e :: es) [] pos) (sFn fn fs) := by
  obtain ⟨t, h1, h2⟩ := ha
  exact ⟨_, pe_callTy hc hg hm hv h1 hn hdb he hpl, tFn_of hr h2⟩
/-- a list that is lent for reading -/
def SBl (X : Cx) (W : WX) (e : Expr) (f : SemE (List D)) : Prop :=
  ∃ te, PE X e te ∧ ∀ ρ σ G H Q, Rel X.K ρ σ G H → Asks X.K ρ σ G H W (f ρ) (fun ds _ G' H' => ∀ p vs, SqL X.K H' p vs → DsL X.K G' vs ds → Q (.ref p) H') → te σ H Q
def sOwn (j : Nat) : SemE (List D) := fun ρ => match ρ[j]? with
  | some (.o _ (.l ds)) => .ok ds ρ
  | _ => .bad
def sLs (f : SemE D) : SemE (List D) := fun ρ => (f ρ).bind fun d ρ1 => match d with
  | .lst ds => .ok ds ρ1
  | .scr ds => .ok ds ρ1
  | _ => .bad
theorem Rel.own_l {K : PySem.W.Frag} {ρ : List Sl} {σ : Sg} {G H : Hp} {j : Nat} {p : Bool} {ds : List D} (r : Rel K ρ σ G H) (e : ρ[j]? = some (.o p (.l ds))) : ∃ a vs, σ[j]? = some (some (.ref a)) ∧ G a = none ∧ H a = some (.lst vs) ∧ DsL K G vs ds := by
  obtain ⟨a, o, h1, h2, h3, h4⟩ := r.sl j _ e
  cases o with
  | lst vs => exact ⟨a, vs, h1, h2, h3, h4⟩
  | _ => exact h4.elim
theorem sbl_own (j : Nat) (h : PE X e (tVar j)) : SBl X W e (sOwn j) := by
  refine ⟨_, h, fun ρ σ G H Q r q => ?_⟩
  unfold sOwn at q
  split at q
  case h_2 => exact q.elim
  rename_i p ds e1
  obtain ⟨a, vs, h1, h2, h3, h4⟩ := r.own_l e1
  exact ⟨_, h1, Asks.pure r q a vs (SqL.of h3) h4⟩
theorem sbl_se (h : SE X W e f) : SBl X W e (sLs f) := by
  obtain ⟨t, h1, h2⟩ := h
  refine ⟨t, h1, fun ρ σ G H Q rl q => h2 ρ σ G H _ rl ((Asks.bind q).imp fun d ρ1 G1 H1 e1 s1 q1 v hv => ?_)⟩
  cases hv with
  | lst h1 h2 => exact Asks.pure s1.rel q1 _ _ (SqL.of (s1.rel.same _ _ h1)) h2
  | scr h1 h2 => exact Asks.pure s1.rel q1 _ _ (s1.rel.same.seq h1) h2
  | _ => exact q1.elim
theorem se_glob {x : Str} {v : V} {u : Value} {d : D} (hm : X.mg x = some u) (r : RelV v u) (hd : ∀ G, Ds X.K G v d) (hg : Gl X x := by rfl) (hdb : (x == ("__debug__" : Str)) = false := by decide) : SE X W (.Name x pos) (sC d) :=
  se_of (pe_glob hg hm r hdb) (fun _ _ _ q => q) hd
theorem se_bty {x : Str} {n : String} (hm : X.mg x = none) (hv : bootBuiltins x = some (.type n)) (hg : Gl X x := by rfl) (hn : x ≠ "__name__" := by decide) (hdb : (x == ("__debug__" : Str)) = false := by decide) : SE X W (.Name x pos) (sC (.ty n)) :=
  se_of (v := V.ty n) (pe_bltn (v := V.ty n) hg hm hv rfl hn hdb) (fun _ _ _ q => q) fun _ => .ty n
theorem sbl_sn (h : SN X W e fs) : SBl X W e fs := by
  obtain ⟨t, h1, h2⟩ := h
  refine ⟨t, h1, fun ρ σ G H Q rl q => h2 ρ σ G H _ rl ((id q).imp fun ds ρ1 G1 H1 e1 s1 q1 p vs hp hv => ?_)⟩
  rw [e1] at q
  exact q _ _ (s1.trans (s1.rel.step (Grow.new (o := .lst vs) s1.rel.same hp) (Same.new s1.rel.same))) p vs (SqL.of upd_same) (hv.mono (Same.at s1.rel.same hp))
/-- a call of one list -/
def RCallL (K : PySem.W.Frag) (r : List V → Hp → VK → Prop) (fn : List D → Option D) : Prop :=
  ∀ G H p vs ds d Q, Same G H → SqL K H p vs → DsL K G vs ds → fn ds = some d → (∀ v G' H', Grow (fun _ => False) G H G' H' → Same G' H' → Ds K G' v d → Q v H') → r [.ref p] H Q
def sFnL (fn : List D → Option D) (f : SemE (List D)) : SemE D := fun ρ => (f ρ).bind fun ds ρ1 => match fn ds with
  | some d => .ok d ρ1
  | none => .bad
theorem sa_bl {ta : TE} {f : SemE (List D)} {Q : List V → Hp → Prop} {ρ : List Sl} {σ : Sg} {G H : Hp} (h : ta σ H fun x H1 => Q [x] H1) : tCons ta tNil σ H Q := h
theorem se_callL {id : String} {r : List V → Hp → VK → Prop} {fn : List D → Option D} {x : Str} {p : Pos} (hc : CallR X (.builtin id) r) (hr : RCallL X.K r fn) (hm : X.mg x = none) (hv : bootBuiltins x = some (.builtin id)) (ha : SBl X W e fs)
    (hg : Gl X x := by rfl) (hn : x ≠ "__name__" := by decide) (hdb : (x == ("__debug__" : Str)) = false := by decide)
    (he : starEach [e] X.env = (false, eval e X.env) :: starEach [] X.env := by rfl) (hpl : (backTo pos (starEach [] X.env)).any (·.1) = false := by rfl) : SE X W (.Call (.Name x p) [e] [] pos) (sFnL fn fs) := by
  obtain ⟨t, h1, h2⟩ := ha
  refine ⟨_, pe_callB hc hg hm hv (pa_cons h1 pa_nil he) hn hdb he hpl, fun ρ σ G H Q rl q => h2 ρ σ G H _ rl ((Asks.bind q).imp fun ds ρ1 G1 H1 e1 s1 q1 p vs hs hl => ?_)⟩
  cases e2 : fn ds with
  | none => rw [e2] at q1; exact q1.elim
  | some d => rw [e2] at q1; exact hr G1 H1 p vs ds d _ s1.rel.same hs hl e2 fun v G' H' g s dv => q1 G' H' (s1.rel.step g s) v dv
theorem se_callLTy {T : String} {r : List V → Hp → VK → Prop} {fn : List D → Option D} {x : Str} {p : Pos} (hc : CallR X (.type T) r) (hr : RCallL X.K r fn) (hm : X.mg x = none) (hv : bootBuiltins x = some (.type T)) (ha : SBl X W e fs)
    (hg : Gl X x := by rfl) (hn : x ≠ "__name__" := by decide) (hdb : (x == ("__debug__" : Str)) = false := by decide)
    (he : starEach [e] X.env = (false, eval e X.env) :: starEach [] X.env := by rfl) (hpl : (backTo pos (starEach [] X.env)).any (·.1) = false := by rfl) : SE X W (.Call (.Name x p) [e] [] pos) (sFnL fn fs) := by
  obtain ⟨t, h1, h2⟩ := ha
  refine ⟨_, pe_callTy hc hg hm hv (pa_cons h1 pa_nil he) hn hdb he hpl, fun ρ σ G H Q rl q => h2 ρ σ G H _ rl ((Asks.bind q).imp fun ds ρ1 G1 H1 e1 s1 q1 p vs hs hl => ?_)⟩
  cases e2 : fn ds with
  | none => rw [e2] at q1; exact q1.elim
  | some d => rw [e2] at q1; exact hr G1 H1 p vs ds d _ s1.rel.same hs hl e2 fun v G' H' g s dv => q1 G' H' (s1.rel.step g s) v dv
end
section
variable {X : Cx} {K : PySem.W.Frag}
def lenF (ds : List D) : Option D := some (.int ds.length)
theorem rl_len : RCallL K (fun xs H Q => ∃ p ys, xs = [.ref p] ∧ (SqL K H p ys ∨ SqT K H p ys) ∧ Q (.int ys.length) H) lenF := by
  intro G H p vs ds d Q s hs hl e q
  cases e
  refine ⟨p, vs, rfl, .inl hs, ?_⟩
  rw [hl.length]
  exact q _ G H Grow.refl s (.int _)
def allF (ds : List D) : Option D := (allBl ds).map fun bs => .bl (bs.all id)
def anyF (ds : List D) : Option D := (allBl ds).map fun bs => .bl (bs.any id)
theorem rl_all : RCallL K (rAll K) allF := by
  intro G H p vs ds d Q s hs hl e q
  unfold allF at e
  cases e1 : allBl ds with
  | none => rw [e1] at e; cases e
  | some bs =>
    rw [e1] at e
    cases e
    have e2 := allBl_map e1
    subst e2
    have e3 := hl.bls
    subst e3
    exact ⟨p, bs, rfl, hs, q _ G H Grow.refl s (.bl _)⟩
theorem rl_any : RCallL K (rAny K) anyF := by
  intro G H p vs ds d Q s hs hl e q
  unfold anyF at e
  cases e1 : allBl ds with
  | none => rw [e1] at e; cases e
  | some bs =>
    rw [e1] at e
    cases e
    have e2 := allBl_map e1
    subst e2
    have e3 := hl.bls
    subst e3
    exact ⟨p, bs, rfl, hs, q _ G H Grow.refl s (.bl _)⟩
def sumF (ds : List D) : Option D := (allInt ds).map fun ns => .int ns.sum
theorem rl_sum : RCallL K (rSum K) sumF := by
  intro G H p vs ds d Q s hs hl e q
  unfold sumF at e
  cases e1 : allInt ds with
  | none => rw [e1] at e; cases e
  | some bs =>
    rw [e1] at e
    cases e
    have e2 := allInt_map e1
    subst e2
    have e3 := hl.ints
    subst e3
    exact ⟨p, bs, rfl, hs, q _ G H Grow.refl s (.int _)⟩
def tupF (ds : List D) : Option D := some (.tup ds)
theorem rl_tup : RCallL K (fun xs H Q => ∃ p ys, xs = [.ref p] ∧ ((SqL K H p ys ∧ ∀ l, H l = none → Q (.ref l) (upd H l (.tup ys))) ∨ (SqT K H p ys ∧ Q (.ref p) H))) tupF := by
  intro G H p vs ds d Q s hs hl e q
  cases e
  exact ⟨p, vs, rfl, .inl ⟨hs, fun l h => q _ _ _ (Grow.new s h) (Same.new s) (.tup upd_same (hl.mono (Same.at s h)))⟩⟩
def lstF (ds : List D) : Option D := some (.lst ds)
theorem rl_lst : RCallL K (fun xs H Q => ∃ p ys, xs = [.ref p] ∧ (SqL K H p ys ∨ SqT K H p ys) ∧ ∀ l, H l = none → Q (.ref l) (upd H l (.lst ys))) lstF := by
  intro G H p vs ds d Q s hs hl e q
  cases e
  exact ⟨p, vs, rfl, .inl hs, fun l h => q _ _ _ (Grow.new s h) (Same.new s) (.lst upd_same (hl.mono (Same.at s h)))⟩
/-! len of a value -/
def lenV : List D → Option D
  | [.lst ds] => some (.int ds.length)
  | [.scr ds] => some (.int ds.length)
  | [.tup ds] => some (.int ds.length)
  | _ => none
theorem rc_len : RCall K (fun xs H Q => ∃ p ys, xs = [.ref p] ∧ (SqL K H p ys ∨ SqT K H p ys) ∧ Q (.int ys.length) H) lenV := by
  intro G H xs ds d Q s h e q
  unfold lenV at e
  split at e
  · cases e
    cases h with
    | cons h1 h2 =>
      cases h2
      cases h1 with
      | lst h1 h2 => exact ⟨_, _, rfl, .inl (SqL.of (s _ _ h1)), by rw [h2.length]; exact q _ G H Grow.refl s (.int _)⟩
  · cases e
    cases h with
    | cons h1 h2 =>
      cases h2
      cases h1 with
      | scr h1 h2 => exact ⟨_, _, rfl, .inl (s.seq h1), by rw [h2.length]; exact q _ G H Grow.refl s (.int _)⟩
  · cases e
    cases h with
    | cons h1 h2 =>
      cases h2
      cases h1 with
      | tup h1 h2 => exact ⟨_, _, rfl, .inr (SqT.of (s _ _ h1)), by rw [h2.length]; exact q _ G H Grow.refl s (.int _)⟩
  · cases e
def intV : List D → Option D
  | [.int i] => some (.int i)
  | [.bl k] => some (.int (if k then 1 else 0))
  | _ => none
theorem rc_int : RCall K (fun xs H Q => (∃ i, xs = [.int i] ∧ Q (.int i) H) ∨ ∃ k, xs = [.bl k] ∧ Q (.int (if k then 1 else 0)) H) intV := by
  intro G H xs ds d Q s h e q
  unfold intV at e
  split at e
  · cases e
    cases h with
    | cons h1 h2 => cases h2; cases h1; exact .inl ⟨_, rfl, q _ G H Grow.refl s (.int _)⟩
  · cases e
    cases h with
    | cons h1 h2 => cases h2; cases h1; exact .inr ⟨_, rfl, q _ G H Grow.refl s (.int _)⟩
  · cases e
def minV : List D → Option D
  | [.int i, .int j] => some (.int (if j < i then j else i))
  | _ => none
theorem rc_min2 : RCall K (fun xs H Q => ∃ i j, xs = [.int i, .int j] ∧ Q (.int (if j < i then j else i)) H) minV := by
  intro G H xs ds d Q s h e q
  unfold minV at e
  split at e
  · cases e
    cases h with
    | cons h1 h2 => cases h2 with | cons h2 h3 => cases h3; cases h1; cases h2; exact ⟨_, _, rfl, q _ G H Grow.refl s (.int _)⟩
  · cases e
/-! isinstance against a built-in type -/
def tyName : D → Option String
  | .non => some "NoneType"
  | .bl _ => some "bool"
  | .int _ => some "int"
  | .str _ => some "str"
  | .tup _ => some "tuple"
  | .lst _ => some "list"
  | .scr _ => some "list"
  | .dK _ => some "dict"
  | .dT _ => some "dict"
  | _ => none
def isiV : List D → Option D
  | [d, .ty n] => (tyName d).bind fun t => (kitB t n).map .bl
  | _ => none
theorem tyX_of {G H : Hp} {v : V} {d : D} {t : String} (s : Same G H) (h : Ds K G v d) (e : tyName d = some t) : TyX K H v (.type t) := by
  cases h with
  | non => cases e; exact .base .non
  | bl b => cases e; exact .base (.bl b)
  | int i => cases e; exact .base (.int i)
  | str x => cases e; exact .base (.str x)
  | ref a => cases e
  | ty n => cases e
  | tup h1 h2 =>
    cases e
    exact .base (.tup (s _ _ h1))
  | lst h1 h2 => cases e; exact .base (.lst (s _ _ h1))
  | scr h1 h2 =>
    cases e
    rcases h1 with (h1 | ⟨o, h1⟩) | ⟨o, its, n, h1, h3, _⟩
    · exact .base (.lst (s _ _ h1))
    · exact .base (.frz (s _ _ h1))
    · exact .kList h1 h3
  | dK h1 _ _ => cases e; exact .base (.dK (s _ _ h1))
  | dT h1 _ _ => cases e; exact .base (.dT (s _ _ h1))
  | obj h1 _ _ => cases e
theorem rc_isi : RCall K (rIsi K) isiV := by
  intro G H xs ds d Q s h e q
  unfold isiV at e
  split at e
  · rename_i d0 n
    cases e1 : tyName d0 with
    | none => rw [e1] at e; cases e
    | some t =>
      rw [e1] at e
      have e : (kitB t n).map D.bl = some d := e
      cases e2 : kitB t n with
      | none => rw [e2] at e; cases e
      | some b =>
        rw [e2] at e
        cases e
        cases h with
        | cons h1 h2 =>
          cases h2 with
          | cons h2 h3 =>
            cases h3
            cases h2
            exact ⟨_, _, _, _, b, rfl, .ty n, tyX_of s h1 e1, kit_ty e2, q _ G H Grow.refl s (.bl _)⟩
  · cases e
end
end Sh

namespace Sh
open PySem PySem.Spec PyProof.Rows L2
section
variable {K : PySem.W.Frag} {ρ : List Sl} {σ : Sg} {G H : Hp}
/-- an own object's content changes -/
theorem Rel.wr {j : Nat} {p : Bool} {m m' : Mu} {a : Addr} {o o' : HO} (r : Rel K ρ σ G H) (e : ρ[j]? = some (.o p m)) (e2 : σ[j]? = some (some (.ref a))) (ha : H a = some o) (hg : G a = none) (h : MuOk K G m' o') :
    Step K ρ σ G H (ρ.set j (.o p m')) σ G (upd H a o') := by
  have hj : j < ρ.length := (List.getElem?_eq_some_iff.mp e).1
  have own : ∀ (i : Nat) (q : Bool) (n : Mu), (ρ.set j (.o p m'))[i]? = some (.o q n) → ∃ n', ρ[i]? = some (.o q n') := fun i q n h => by
    by_cases z : i = j
    · subst z; rw [List.getElem?_set_self hj] at h; cases h; exact ⟨m, e⟩
    · rw [List.getElem?_set_ne (Ne.symm z)] at h; exact ⟨n, h⟩
  refine ⟨⟨by rw [List.length_set]; exact r.len, fun b u q => by rw [upd_ne (fun z => by rw [z, hg] at q; cases q)]; exact r.same b u q, fun i s q => ?_, fun i k b q1 q2 m1 m2 hi hk h1 h2 => ?_⟩,
    ⟨Same.refl _, fun b h1 _ _ => h1, fun b u h1 h2 h3 => ?_, fun b h1 => ?_⟩, fun b ⟨i, q, n, h1, h2⟩ => ?_, fun i n q => ?_, by rw [List.length_set]⟩
  · by_cases z : i = j
    · subst z
      rw [List.getElem?_set_self hj] at q
      cases q
      exact ⟨a, o', e2, hg, upd_same, h⟩
    · rw [List.getElem?_set_ne (Ne.symm z)] at q
      have y := r.sl i s q
      cases s with
      | un => trivial
      | v d => exact y
      | o q1 n =>
        obtain ⟨b, u, y1, y2, y3, y4⟩ := y
        refine ⟨b, u, y1, y2, ?_, y4⟩
        rw [upd_ne (fun x => z (r.inj i j a q1 p n m q e (by rw [y1, x]) e2))]
        exact y3
  · obtain ⟨n1, g1⟩ := own i q1 m1 hi
    obtain ⟨n2, g2⟩ := own k q2 m2 hk
    exact r.inj i k b q1 q2 n1 n2 g1 g2 h1 h2
  · rw [upd_ne (fun z => h3 (by rw [z]; exact ⟨j, p, m, e, e2⟩))]; exact h2
  · by_cases z : b = a
    · subst z; rw [upd_same]; exact fun z => nomatch z
    · rw [upd_ne z]; exact h1
  · obtain ⟨n', g1⟩ := own i q n h1
    exact .inl ⟨i, q, n', g1, h2⟩
  · refine ⟨rfl, ?_⟩
    by_cases z : i = j
    · subst z
      rw [e] at q
      cases q
      exact ⟨m', List.getElem?_set_self hj⟩
    · exact ⟨n, by rw [List.getElem?_set_ne (Ne.symm z)]; exact q⟩
/-- a new object becomes a slot's own -/
def putOwn (i : Nat) (m : Mu) (ρ : List Sl) : Option (List Sl) := match ρ[i]? with
  | some (.o true _) => none
  | none => none
  | some _ => some (ρ.set i (.o false m))
theorem Rel.newOwn {ρ' : List Sl} {i : Nat} {m : Mu} {a : Addr} {o : HO} (r : Rel K ρ σ G H) (ha : H a = none) (h : MuOk K G m o) (e : putOwn i m ρ = some ρ') : Step K ρ σ G H ρ' (σ.set i (some (.ref a))) G (upd H a o) := by
  unfold putOwn at e
  have hi : ∃ s, ρ[i]? = some s ∧ (∀ m, s ≠ .o true m) ∧ ρ' = ρ.set i (.o false m) := by
    cases q : ρ[i]? with
    | none => rw [q] at e; cases e
    | some s =>
      rw [q] at e
      cases s with
      | un => exact ⟨_, rfl, (fun m z => nomatch z), (Option.some.inj e).symm⟩
      | v _ => exact ⟨_, rfl, (fun m z => nomatch z), (Option.some.inj e).symm⟩
      | o p m =>
        cases p with
        | true => cases e
        | false => exact ⟨_, rfl, (fun m z => nomatch z), (Option.some.inj e).symm⟩
  obtain ⟨s0, q0, np, rfl⟩ := hi
  have hil : i < ρ.length := (List.getElem?_eq_some_iff.mp q0).1
  have hiσ : i < σ.length := by rw [← r.len]; exact hil
  have ga : G a = none := r.same.free ha
  have old : ∀ (j : Nat) (p : Bool) (n : Mu) (b : Addr), ρ[j]? = some (.o p n) → σ[j]? = some (some (.ref b)) → b ≠ a := fun j p n b h1 h2 z => by
    obtain ⟨c, u, y1, y2, y3, y4⟩ := r.sl j _ h1
    rw [h2] at y1
    cases y1
    rw [z, ha] at y3
    cases y3
  have own : ∀ (j : Nat) (p : Bool) (n : Mu), (ρ.set i (.o false m))[j]? = some (Sl.o p n) → j = i ∨ (j ≠ i ∧ ρ[j]? = some (.o p n)) := by
    intro j p n hj
    by_cases z : j = i
    · exact .inl z
    · rw [List.getElem?_set_ne (Ne.symm z)] at hj; exact .inr ⟨z, hj⟩
  refine ⟨⟨by rw [List.length_set, List.length_set]; exact r.len, fun b u q => by rw [upd_ne (fun z => by rw [z, ga] at q; cases q)]; exact r.same b u q, fun j s hj => ?_, fun j k b p q n1 n2 hj hk h1 h2 => ?_⟩,
    ⟨Same.refl _, fun b h1 _ _ => h1, fun b u h1 h2 _ => by rw [upd_ne (ne_of_none h2 ha)]; exact h2, fun b h1 => ?_⟩, fun b ⟨j, p, n, hj, hb⟩ => ?_, fun j n hj => ?_, by rw [List.length_set]⟩
  · by_cases z : j = i
    · subst z
      rw [List.getElem?_set_self hil] at hj
      cases hj
      exact ⟨a, o, by rw [List.getElem?_set_self hiσ], ga, upd_same, h⟩
    · rw [List.getElem?_set_ne (Ne.symm z)] at hj ⊢
      have y := r.sl j s hj
      cases s with
      | un => trivial
      | v d => exact y
      | o q1 n =>
        obtain ⟨b, u, y1, y2, y3, y4⟩ := y
        exact ⟨b, u, y1, y2, by rw [upd_ne (old j q1 n b hj y1)]; exact y3, y4⟩
  · rcases own j p n1 hj with rfl | ⟨z1, g1⟩
    · rcases own k q n2 hk with rfl | ⟨z2, g2⟩
      · rfl
      · rw [List.getElem?_set_self hiσ] at h1
        rw [List.getElem?_set_ne (Ne.symm z2)] at h2
        cases h1
        exact absurd rfl (old k q n2 _ g2 h2)
    · rcases own k q n2 hk with rfl | ⟨z2, g2⟩
      · rw [List.getElem?_set_self hiσ] at h2
        rw [List.getElem?_set_ne (Ne.symm z1)] at h1
        cases h2
        exact absurd rfl (old j p n1 _ g1 h1)
      · rw [List.getElem?_set_ne (Ne.symm z1)] at h1
        rw [List.getElem?_set_ne (Ne.symm z2)] at h2
        exact r.inj j k b p q n1 n2 g1 g2 h1 h2
  · by_cases z : b = a
    · subst z; rw [upd_same]; exact fun z => nomatch z
    · rw [upd_ne z]; exact h1
  · rcases own j p n hj with rfl | ⟨z, g⟩
    · rw [List.getElem?_set_self hiσ] at hb
      cases hb
      exact .inr ha
    · rw [List.getElem?_set_ne (Ne.symm z)] at hb
      exact .inl ⟨j, p, n, g, hb⟩
  · have z : j ≠ i := fun z => by subst z; rw [q0] at hj; exact np n (Option.some.inj hj)
    exact ⟨List.getElem?_set_ne (Ne.symm z), n, by rw [List.getElem?_set_ne (Ne.symm z)]; exact hj⟩
/-- an own object's content as a value that nobody changes any more -/
def muD : Mu → D
  | .l ds => .lst ds
  | .dK ds => .dK ds
  | .dT ds => .dT ds
theorem MuOk.ds {a : Addr} {m : Mu} {o : HO} {G' : Hp} (h : MuOk K G m o) (S : Same G G') (e : G' a = some o) : Ds K G' (.ref a) (muD m) := by
  cases m <;> cases o <;> first | exact h.elim | skip
  · exact .lst e (DsL.mono S h)
  · exact .dK e h.1 (DsL.mono S h.2)
  · exact .dT e h.1 (DsL.mono S h.2)
theorem Rel.frz {j : Nat} {m : Mu} {a : Addr} {o : HO} (r : Rel K ρ σ G H) (e : ρ[j]? = some (.o false m)) (e2 : σ[j]? = some (some (.ref a))) (ha : H a = some o) (hg : G a = none) (h : MuOk K G m o) :
    Step K ρ σ G H (ρ.set j (.v (muD m))) σ (upd G a o) H ∧ Ds K (upd G a o) (.ref a) (muD m) := by
  have hj : j < ρ.length := (List.getElem?_eq_some_iff.mp e).1
  have S : Same G (upd G a o) := fun b u q => by rw [upd_ne (fun z => by rw [z, hg] at q; cases q)]; exact q
  have hd : Ds K (upd G a o) (.ref a) (muD m) := h.ds S upd_same
  have own : ∀ (i : Nat) (q : Bool) (n : Mu), (ρ.set j (.v (muD m)))[i]? = some (.o q n) → i ≠ j ∧ ρ[i]? = some (.o q n) := fun i q n h => by
    by_cases z : i = j
    · subst z; rw [List.getElem?_set_self hj] at h; cases h
    · rw [List.getElem?_set_ne (Ne.symm z)] at h; exact ⟨z, h⟩
  refine ⟨⟨⟨by rw [List.length_set]; exact r.len, fun b u q => ?_, fun i s q => ?_, fun i k b q1 q2 m1 m2 hi hk h1 h2 => ?_⟩, ⟨S, fun b h1 h2 h3 => ?_, fun b u _ h2 _ => h2, fun b h1 => h1⟩, fun b ⟨i, q, n, h1, h2⟩ => ?_, fun i n q => ?_, by rw [List.length_set]⟩, hd⟩
  · by_cases z : b = a
    · subst z; rw [upd_same] at q; cases q; exact ha
    · rw [upd_ne z] at q; exact r.same b u q
  · by_cases z : i = j
    · subst z
      rw [List.getElem?_set_self hj] at q
      cases q
      exact ⟨_, e2, hd⟩
    · rw [List.getElem?_set_ne (Ne.symm z)] at q
      have y := r.sl i s q
      cases s with
      | un => trivial
      | v d => obtain ⟨v, y1, y2⟩ := y; exact ⟨v, y1, y2.mono S⟩
      | o q1 n =>
        obtain ⟨b, u, y1, y2, y3, y4⟩ := y
        refine ⟨b, u, y1, ?_, y3, y4.mono S⟩
        rw [upd_ne (fun x => z (r.inj i j a q1 false n m q e (by rw [y1, x]) e2))]
        exact y2
  · obtain ⟨_, g1⟩ := own i q1 m1 hi
    obtain ⟨_, g2⟩ := own k q2 m2 hk
    exact r.inj i k b q1 q2 m1 m2 g1 g2 h1 h2
  · rw [upd_ne (fun z => h3 (by rw [z]; exact ⟨j, false, m, e, e2⟩))]; exact h1
  · obtain ⟨_, g1⟩ := own i q n h1
    exact .inl ⟨i, q, n, g1, h2⟩
  · have z : i ≠ j := fun z => by subst z; rw [e] at q; cases q
    exact ⟨rfl, n, by rw [List.getElem?_set_ne (Ne.symm z)]; exact q⟩
end
section
variable {X : Cx} {W : WX} {e a b c o i : Expr} {es : List Expr} {f g h : SemE D} {fs : SemE (List D)} {pos : Pos}
/-- an own object given out for good -/
def sFrz (j : Nat) : SemE D := fun ρ => match ρ[j]? with
  | some (.o false m) => .ok (muD m) (ρ.set j (.v (muD m)))
  | _ => .bad
theorem se_frz (j : Nat) (h : PE X e (tVar j)) : SE X W e (sFrz j) := by
  refine ⟨_, h, fun ρ σ G H Q r q => ?_⟩
  unfold sFrz at q
  split at q
  case h_2 => exact q.elim
  rename_i m e1
  obtain ⟨a, o, h1, h2, h3, h4⟩ := r.sl j _ e1
  obtain ⟨st, hd⟩ := r.frz e1 h1 h3 h2 h4
  exact ⟨_, h1, q _ _ st _ hd⟩
/-- name = a new list -/
def sNewL (i : Nat) (f : SemE (List D)) : SemS := fun ρ => (f ρ).st fun ds ρ1 => ofPut (putOwn i (.l ds) ρ1)
theorem ss_newL (i : Nat) {x : Str} {pos' : Pos} (hN : X.N.Nodup) (he : SN X W e fs) (hi : X.N[i]? = some x := by rfl) (hx : Loc X.env.scope x := by first | exact Or.inl rfl | exact Or.inr rfl) (hs : swapsWith e (some (.Name x pos')) pos.line X.env = pure false := by rfl) (hf : X.fn x = true ∨ X.env.scope.names.lookup x = some .local := by first | exact .inl rfl | exact .inr rfl | assumption) :
    SS X W (.Assign [.Name x pos'] e pos) (sNewL i fs) := by
  obtain ⟨t, h1, h2⟩ := he
  refine ⟨_, ps_set hN hi hx h1 hs hf, fun ρ σ G H E rl q => h2 ρ σ G H _ rl ((Asks.stmt (k := fun d ρ1 => ofPut (putOwn i (.l d) ρ1)) q).imp fun ds ρ1 G1 H1 e1 s1 q1 p vs hp hv => ?_)⟩
  cases e2 : putOwn i (.l ds) ρ1 with
  | none => rw [e2] at q1; exact q1.elim
  | some ρ2 =>
    rw [e2] at q1
    exact q1 _ _ _ (s1.rel.newOwn (o := .lst vs) hp (show MuOk X.K G1 (.l ds) (.lst vs) from hv) e2)
/-- name = {} -/
def sNewD (i : Nat) (m : Mu) : SemS := fun ρ => ofPut (putOwn i m ρ)
theorem ss_newK (i : Nat) {x : Str} {pos' p2 : Pos} (hN : X.N.Nodup) (hi : X.N[i]? = some x := by rfl) (hx : Loc X.env.scope x := by first | exact Or.inl rfl | exact Or.inr rfl) (hs : swapsWith (.Dict [] [] p2) (some (.Name x pos')) pos.line X.env = pure false := by rfl) (hf : X.fn x = true ∨ X.env.scope.names.lookup x = some .local := by first | exact .inl rfl | exact .inr rfl | assumption) :
    SS X W (.Assign [.Name x pos'] (.Dict [] [] p2) pos) (sNewD i (.dK [])) := by
  refine ⟨_, ps_set hN hi hx pe_dnewK hs hf, fun ρ σ G H E rl q p hp => ?_⟩
  unfold sNewD at q
  cases e2 : putOwn i (.dK []) ρ with
  | none => rw [e2] at q; exact q.elim
  | some ρ2 =>
    rw [e2] at q
    exact q _ _ _ (rl.newOwn (o := .dK []) hp (show MuOk X.K G (.dK []) (.dK []) from ⟨rfl, .nil⟩) e2)
theorem ss_newT (i : Nat) {x : Str} {pos' p2 : Pos} (hN : X.N.Nodup) (hi : X.N[i]? = some x := by rfl) (hx : Loc X.env.scope x := by first | exact Or.inl rfl | exact Or.inr rfl) (hs : swapsWith (.Dict [] [] p2) (some (.Name x pos')) pos.line X.env = pure false := by rfl) (hf : X.fn x = true ∨ X.env.scope.names.lookup x = some .local := by first | exact .inl rfl | exact .inr rfl | assumption) :
    SS X W (.Assign [.Name x pos'] (.Dict [] [] p2) pos) (sNewD i (.dT [])) := by
  refine ⟨_, ps_set hN hi hx pe_dnewT hs hf, fun ρ σ G H E rl q p hp => ?_⟩
  unfold sNewD at q
  cases e2 : putOwn i (.dT []) ρ with
  | none => rw [e2] at q; exact q.elim
  | some ρ2 =>
    rw [e2] at q
    exact q _ _ _ (rl.newOwn (o := .dT []) hp (show MuOk X.K G (.dT []) (.dT []) from ⟨rfl, .nil⟩) e2)
/-! index -/
def ixF : D → D → Option D
  | .lst ds, .int i => atI ds i
  | .scr ds, .int i => atI ds i
  | .tup ds, .int i => atI ds i
  | _, _ => none
theorem DsL.at {K : PySem.W.Frag} {G : Hp} {vs : List V} {ds : List D} {i : Int} {d : D} (h : DsL K G vs ds) (e : atI ds i = some d) : ∃ v, atI vs i = some v ∧ Ds K G v d := by
  unfold atI at e ⊢
  rw [h.length]
  cases q : ixN ds.length i with
  | none => rw [q] at e; cases e
  | some j => rw [q] at e; exact h.get e
theorem rb_ix {K : PySem.W.Frag} : RBin K (rIx K) ixF := by
  intro G H x y dx dy d Q s hx hy e q
  cases dy with
  | int i =>
    cases hy
    cases dx with
    | lst ds =>
      cases hx with
      | lst h1 h2 =>
        obtain ⟨v, e1, hv⟩ := h2.at e
        exact .inl ⟨_, _, i, v, rfl, rfl, SqL.of (s _ _ h1), e1, q v G H Grow.refl s hv⟩
    | scr ds =>
      cases hx with
      | scr h1 h2 =>
        obtain ⟨v, e1, hv⟩ := h2.at e
        exact .inl ⟨_, _, i, v, rfl, rfl, s.seq h1, e1, q v G H Grow.refl s hv⟩
    | tup ds =>
      cases hx with
      | tup h1 h2 =>
        obtain ⟨v, e1, hv⟩ := h2.at e
        exact .inr (.inl ⟨_, _, i, v, rfl, rfl, SqT.of (s _ _ h1), e1, q v G H Grow.refl s hv⟩)
    | _ => cases e
  | _ => cases dx <;> cases e
theorem se_ix (ha : SE X W a f) (hb : SE X W b g) (hs : PlainIx b := by exact fun _ _ => rfl) : SE X W (.Subscript a b pos) (sBin ixF f g) := by
  obtain ⟨ta, a1, a2⟩ := ha
  obtain ⟨tb, b1, b2⟩ := hb
  exact ⟨_, pe_ix ix_seq a1 b1 hs, tOp_of rb_ix a2 b2⟩
/-- an item of an own list -/
def sIxO (j : Nat) (g : SemE D) : SemE D := fun ρ => match ρ[j]? with
  | some (.o _ _) => (g ρ).bind fun y ρ1 => (sOwn j ρ1).bind fun ds ρ2 => match y with
    | .int i => (match atI ds i with
      | some d => .ok d ρ2
      | none => .bad)
    | _ => .bad
  | _ => .bad
theorem se_ixo (j : Nat) (ha : PE X a (tVar j)) (hb : SE X W b g) (hs : PlainIx b := by exact fun _ _ => rfl) : SE X W (.Subscript a b pos) (sIxO j g) := by
  obtain ⟨tb, b1, b2⟩ := hb
  refine ⟨_, pe_ix ix_list ha b1 hs, fun ρ σ G H Q rl q => ?_⟩
  unfold sIxO at q
  split at q
  case h_2 => exact q.elim
  rename_i p m e0
  obtain ⟨ad, o, h1, _⟩ := rl.sl j _ e0
  refine ⟨_, h1, b2 ρ σ G H _ rl ((Asks.bind q).imp fun y ρ1 G1 H1 e1 s1 q1 u hu => ?_)⟩
  have q1 := Asks.bind q1
  unfold sOwn at q1
  split at q1
  case h_2 => exact q1.elim
  rename_i p1 ds e2
  have q1 := Asks.pure s1.rel q1
  obtain ⟨a2, vs, k1, k2, k3, k4⟩ := s1.rel.own_l e2
  rw [h1] at k1
  cases k1
  cases y with
  | int i =>
    cases hu
    have q1 : Asks X.K ρ1 σ G1 H1 W (match atI ds i with | some d => .ok d ρ1 | none => .bad) (fun d _ G' H' => ∀ v, Ds X.K G' v d → Q v H') := q1
    cases e3 : atI ds i with
    | none => rw [e3] at q1; exact q1.elim
    | some d =>
      rw [e3] at q1
      obtain ⟨v, g1, g2⟩ := k4.at e3
      exact ⟨_, vs, i, v, rfl, rfl, SqL.of k3, g1, Asks.pure s1.rel q1 v g2⟩
  | _ => exact q1.elim
/-- x[i] = e, x an own list -/
def sSet (j : Nat) (g f : SemE D) : SemS := fun ρ => (f ρ).st fun d ρ1 => match ρ1[j]? with
  | some (.o _ _) => (g ρ1).st fun y ρ2 => (match ρ2[j]?, y with
    | some (.o p (.l ds)), .int i => (match ixN ds.length i with
      | some k => .nx (ρ2.set j (.o p (.l (ds.set k d))))
      | none => .bad)
    | _, _ => .bad)
  | _ => .bad
theorem ss_setO (j : Nat) {pos' : Pos} (he : SE X W e f) (ha : PE X a (tVar j)) (hb : SE X W b g) (hs : swapsWithSole [.Subscript a b pos'] e pos.line X.env = pure false := by rfl) (hw : swappedStores [.Subscript a b pos'] e X.env = pure none := by rfl)
    (h1 : (assignEach [.Subscript a b pos'] X.env).map (·.2) = [assign (.Subscript a b pos') X.env] := by rfl)
    (hst : ∀ v, assign (.Subscript a b pos') X.env v = (do
      let ov ← holding [v] (eval a X.env)
      let iv ← holding [v, ov] (eval b X.env)
      standAt pos'
      holding [v, ov, iv] (setItem ov iv v)
      release [v, ov, iv] []) := by intro _; rfl) : SS X W (.Assign [.Subscript a b pos'] e pos) (sSet j g f) := by
  obtain ⟨te, e1, e2⟩ := he
  obtain ⟨tb, b1, b2⟩ := hb
  refine ⟨_, ps_asg e1 (pg_sub ha b1 set_list hst) hs hw h1, fun ρ σ G H E rl q => ?_⟩
  refine e2 ρ σ G H _ rl ((Asks.stmt (k := fun d ρ1 => match ρ1[j]? with
    | some (.o _ _) => (g ρ1).st fun y ρ2 => (match ρ2[j]?, y with
      | some (.o p (.l ds)), .int i => (match ixN ds.length i with
        | some k => .nx (ρ2.set j (.o p (.l (ds.set k d))))
        | none => .bad)
      | _, _ => .bad)
    | _ => .bad) q).imp fun d ρ1 G1 H1 z1 s1 q1 v hv => ?_)
  split at q1
  case h_2 => exact q1.elim
  rename_i p m y0
  obtain ⟨ad, o, y1, _⟩ := s1.rel.sl j _ y0
  refine ⟨_, y1, b2 ρ1 σ G1 H1 _ s1.rel ((Asks.stmt (k := fun y ρ2 => (match ρ2[j]?, y with
      | some (.o p (.l ds)), .int i => (match ixN ds.length i with
        | some k => .nx (ρ2.set j (.o p (.l (ds.set k d))))
        | none => .bad)
      | _, _ => .bad)) q1).imp fun y ρ2 G2 H2 z2 s2 q2 u hu => ?_)⟩
  split at q2
  case h_2 => exact q2.elim
  rename_i p2 ds i y2
  cases hu
  obtain ⟨a2, vs, k1, k2, k3, k4⟩ := s2.rel.own_l y2
  rw [y1] at k1
  cases k1
  cases e3 : ixN ds.length i with
  | none => rw [e3] at q2; exact q2.elim
  | some k =>
    rw [e3] at q2
    refine ⟨_, vs, i, k, rfl, rfl, k3, by rw [k4.length]; exact e3, ?_⟩
    exact q2 _ _ _ (s2.rel.wr y2 y1 k3 k2 (show MuOk X.K G2 (.l (ds.set k d)) (.lst (vs.set k v)) from DsL.set (hv.mono s2.grow.gg) k k4))
/-- x.append(e), x an own list -/
def sApp (j : Nat) (f : SemE D) : SemS := fun ρ => match ρ[j]? with
  | some (.o _ (.l _)) => (f ρ).st fun d ρ1 => (match ρ1[j]? with
    | some (.o p (.l ds)) => if ds.length < 10000000 then .nx (ρ1.set j (.o p (.l (ds ++ [d])))) else .bad
    | _ => .bad)
  | _ => .bad
theorem ss_app (j : Nat) {apos cpos : Pos} (ha : PE X a (tVar j)) (he : SE X W e f) (hs : swapsWith (.Call (.Attribute a "append" apos) [e] [] cpos) none pos.line X.env = pure false := by rfl)
    (hb : attributeBase a "append" X.env (eval a X.env) = eval a X.env := by rfl)
    (hfew : ((backTo cpos (starEach (e :: []) X.env)).all (fun x => !x.1) && (backToKw cpos (keywordEach [] X.env)).all (fun x => x.1.isSome) && decide ((e :: []).length + ([] : List Keyword).length + (if ([] : List Keyword).isEmpty then 0 else 1) < 30)) = true := by rfl)
    (hline : (apos.endLine == cpos.line) = true := by rfl) (hse : starEach (e :: []) X.env = (false, eval e X.env) :: starEach [] X.env := by rfl) (hplain : (backTo cpos (starEach [] X.env)).any (·.1) = false := by rfl) :
    SS X W (.Expr (.Call (.Attribute a "append" apos) [e] [] cpos) pos) (sApp j f) := by
  obtain ⟨te, e1, e2⟩ := he
  refine ⟨_, ps_expr (pe_bm PySem.F.plainAttrs_list PySem.F.slot_list_append PySem.F.type_list_append mt_append ha (pa_cons e1 pa_nil hse) hb hfew hline hse hplain) hs, fun ρ σ G H E rl q => ?_⟩
  unfold sApp at q
  split at q
  case h_2 => exact q.elim
  rename_i p ds0 y0
  obtain ⟨ad, vs0, y1, y3, y4, _⟩ := rl.own_l y0
  refine ⟨_, y1, .inl ⟨rfl, _, SqL.of y4⟩, e2 ρ σ G H _ rl ((Asks.stmt (k := fun d ρ1 => (match ρ1[j]? with
    | some (.o p (.l ds)) => if ds.length < 10000000 then .nx (ρ1.set j (.o p (.l (ds ++ [d])))) else .bad
    | _ => .bad)) q).imp fun d ρ1 G1 H1 z1 s1 q1 v hv => ?_)⟩
  split at q1
  case h_2 => exact q1.elim
  rename_i p1 ds y2
  obtain ⟨a2, vs, k1, k2, k3, k4⟩ := s1.rel.own_l y2
  rw [y1] at k1
  cases k1
  split at q1
  case isFalse => exact q1.elim
  rename_i hl
  refine ⟨_, vs, v, rfl, rfl, k3, Nat.lt_of_lt_of_le (by rw [k4.length]; exact hl) tenM, ?_⟩
  exact q1 _ _ _ (s1.rel.wr y2 y1 k3 k2 (show MuOk X.K G1 (.l (ds ++ [d])) (.lst (vs ++ [v])) from k4.snoc hv))
/-- x.pop() -/
def sPop (j : Nat) : SemE D := fun ρ => match ρ[j]? with
  | some (.o p (.l ds)) => (match ds[ds.length - 1]? with
    | some d => .ok d (ρ.set j (.o p (.l ds.dropLast)))
    | none => .bad)
  | _ => .bad
theorem DsL.dropLast {K : PySem.W.Frag} {G : Hp} {vs : List V} {ds : List D} (h : DsL K G vs ds) : DsL K G vs.dropLast ds.dropLast := by
  rw [List.dropLast_eq_take, List.dropLast_eq_take, h.length]
  exact h.take _
theorem se_pop (j : Nat) {apos cpos : Pos} (ha : PE X a (tVar j)) (hb : attributeBase a "pop" X.env (eval a X.env) = eval a X.env := by rfl) (hline : (apos.endLine == cpos.line) = true := by rfl) : SE X W (.Call (.Attribute a "pop" apos) [] [] cpos) (sPop j) := by
  refine ⟨_, pe_bm0 PySem.F.plainAttrs_list PySem.F.slot_list_pop PySem.F.type_list_pop mt_pop ha hb hline, fun ρ σ G H Q rl q => ?_⟩
  unfold sPop at q
  split at q
  case h_2 => exact q.elim
  rename_i p ds y0
  obtain ⟨ad, vs, y1, y3, y4, y5⟩ := rl.own_l y0
  cases e1 : ds[ds.length - 1]? with
  | none => rw [e1] at q; exact q.elim
  | some d =>
    rw [e1] at q
    obtain ⟨v, k1, k2⟩ := y5.get e1
    refine ⟨_, y1, .inl ⟨rfl, _, SqL.of y4⟩, _, vs, v, rfl, rfl, y4, by rw [y5.length]; exact k1, ?_⟩
    exact q _ _ (rl.wr y0 y1 y4 y3 (show MuOk X.K G (.l ds.dropLast) (.lst vs.dropLast) from y5.dropLast)) v k2
/-- an own list's truth -/
def sTru (j : Nat) : SemE Bool := fun ρ => (sOwn j ρ).bind fun ds ρ1 => .ok (!ds.isEmpty) ρ1
theorem st_tru (j : Nat) (ha : PE X a (tVar j)) (he : ∀ whole, isTrue a X.env whole = (do let v ← whole; standAt a.pos; holding [v] (truthy v)) := by intro _; rfl) : ST X W a (sTru j) := by
  refine ⟨_, pt_truth ha he, fun ρ σ G H Q rl q => ?_⟩
  have q := Asks.bind q
  unfold sOwn at q
  split at q
  case h_2 => exact q.elim
  rename_i p ds y0
  have q := Asks.pure rl q
  obtain ⟨ad, vs, y1, y3, y4, y5⟩ := rl.own_l y0
  refine ⟨_, y1, !ds.isEmpty, .inl ⟨vs, SqL.of y4, ?_⟩, Asks.pure rl q⟩
  have hl := y5.length
  cases vs <;> cases ds <;> first | rfl | cases hl
end
end Sh

namespace Sh
open PySem PySem.Spec PyProof.Rows L2
/-! ### dicts -/
section
variable {κ : Type} [DecidableEq κ]
def lookD (kvs : List (κ × D)) (k : κ) : Option D := (kvs.find? fun kv => decide (kv.1 = k)).map (·.2)
def putD (kvs : List (κ × D)) (k : κ) (d : D) : List (κ × D) :=
  if (kvs.any fun kv => decide (kv.1 = k)) = true then kvs.map (fun kv => if kv.1 = k then (kv.1, d) else kv) else kvs ++ [(k, d)]
variable {K : PySem.W.Frag} {G : Hp}
theorem look_of : ∀ {kvs : List (κ × V)} {ds : List (κ × D)} {k : κ}, kvs.map (·.1) = ds.map (·.1) → DsL K G (kvs.map (·.2)) (ds.map (·.2)) →
    (lookD ds k = none ∧ valV kvs k = none) ∨ ∃ v d, lookD ds k = some d ∧ valV kvs k = some v ∧ Ds K G v d
  | [], [], k, _, _ => .inl ⟨rfl, rfl⟩
  | [], _ :: _, _, h, _ => by cases h
  | _ :: _, [], _, h, _ => by cases h
  | p :: kvs, q :: ds, k, h, hl => by
    simp only [List.map_cons, List.cons.injEq] at h
    rw [List.map_cons, List.map_cons] at hl
    cases hl with
    | cons h1 h2 =>
      by_cases e : p.1 = k
      · refine .inr ⟨p.2, q.2, ?_, valV_pos e, h1⟩
        unfold lookD
        rw [List.find?_cons_of_pos (by rw [← h.1]; exact decide_eq_true e)]
        rfl
      · have e' : ¬ q.1 = k := by rw [← h.1]; exact e
        have hd : lookD (q :: ds) k = lookD ds k := by
          unfold lookD
          rw [List.find?_cons_of_neg (by simpa using e')]
        rw [hd, valV_neg e]
        exact look_of h.2 h2
theorem any_key : ∀ {kvs : List (κ × V)} {ds : List (κ × D)} {k : κ}, kvs.map (·.1) = ds.map (·.1) → (kvs.any fun kv => decide (kv.1 = k)) = ds.any fun kv => decide (kv.1 = k)
  | [], [], _, _ => rfl
  | [], _ :: _, _, h => by cases h
  | _ :: _, [], _, h => by cases h
  | p :: kvs, q :: ds, k, h => by
    simp only [List.map_cons, List.cons.injEq] at h
    rw [List.any_cons, List.any_cons, h.1, any_key h.2]
theorem map_put {v : V} {d : D} {k : κ} (hv : Ds K G v d) : ∀ {kvs : List (κ × V)} {ds : List (κ × D)}, kvs.map (·.1) = ds.map (·.1) → DsL K G (kvs.map (·.2)) (ds.map (·.2)) →
    (kvs.map fun kv => if kv.1 = k then (kv.1, v) else kv).map (·.1) = (ds.map fun kv => if kv.1 = k then (kv.1, d) else kv).map (·.1) ∧
    DsL K G ((kvs.map fun kv => if kv.1 = k then (kv.1, v) else kv).map (·.2)) ((ds.map fun kv => if kv.1 = k then (kv.1, d) else kv).map (·.2))
  | [], [], _, _ => ⟨rfl, .nil⟩
  | [], _ :: _, h, _ => by cases h
  | _ :: _, [], h, _ => by cases h
  | p :: kvs, q :: ds, h, hl => by
    simp only [List.map_cons, List.cons.injEq] at h
    rw [List.map_cons, List.map_cons] at hl
    cases hl with
    | cons h1 h2 =>
      obtain ⟨i1, i2⟩ := map_put hv h.2 h2
      by_cases e : p.1 = k
      · have e' : q.1 = k := by rw [← h.1]; exact e
        simp only [List.map_cons, if_pos e, if_pos e', List.cons.injEq]
        exact ⟨⟨h.1, i1⟩, .cons hv i2⟩
      · have e' : ¬ q.1 = k := by rw [← h.1]; exact e
        simp only [List.map_cons, if_neg e, if_neg e', List.cons.injEq]
        exact ⟨⟨h.1, i1⟩, .cons h1 i2⟩
theorem put_of {v : V} {d : D} {k : κ} {kvs : List (κ × V)} {ds : List (κ × D)} (h : kvs.map (·.1) = ds.map (·.1)) (hl : DsL K G (kvs.map (·.2)) (ds.map (·.2))) (hv : Ds K G v d) :
    (putK kvs k v).map (·.1) = (putD ds k d).map (·.1) ∧ DsL K G ((putK kvs k v).map (·.2)) ((putD ds k d).map (·.2)) := by
  unfold putK putD
  rw [any_key h]
  split
  · exact map_put hv h hl
  · refine ⟨by rw [List.map_append, List.map_append, h]; rfl, ?_⟩
    rw [List.map_append, List.map_append]
    exact hl.snoc hv
end
def keyD : D → Option Key
  | .int i => some (.inl i)
  | .str s => some (.inr s)
  | _ => none
def keysD : List D → Option (List Key)
  | [] => some []
  | d :: r => (keyD d).bind fun k => (keysD r).map (k :: ·)
theorem keyD_ok {K : PySem.W.Frag} {G : Hp} {v : V} {d : D} {k : Key} (h : Ds K G v d) (e : keyD d = some k) : v = kV k := by
  cases d with
  | int i => cases h; cases e; rfl
  | str s => cases h; cases e; rfl
  | _ => cases e
theorem keysD_ok {K : PySem.W.Frag} {G : Hp} : ∀ {vs : List V} {ds : List D} {ks : List Key}, DsL K G vs ds → keysD ds = some ks → vs = ks.map kV
  | _, _, _, .nil, e => by cases e; rfl
  | _, d :: ds, ks, .cons h t, e => by
    simp only [keysD] at e
    cases q : keyD d with
    | none => rw [q] at e; cases e
    | some k =>
      rw [q] at e
      cases q2 : keysD ds with
      | none => rw [q2] at e; cases e
      | some r => rw [q2] at e; cases e; rw [List.map_cons, ← keysD_ok t q2, keyD_ok h q]
/-- what an own dict, or a frozen one, tells of a key -/
def getMu : Mu → D → Option (Option D)
  | .dK kvs, d => (keyD d).map fun k => lookD kvs k
  | .dT kvs, .tup ds => (keysD ds).map fun k => lookD kvs k
  | _, _ => none
def putMu : Mu → D → D → Option Mu
  | .dK kvs, d, e => (keyD d).bind fun k => if kvs.length < 10000000 then some (.dK (putD kvs k e)) else none
  | .dT kvs, .tup ds, e => (keysD ds).bind fun k => if kvs.length < 10000000 then some (.dT (putD kvs k e)) else none
  | _, _, _ => none
section
variable {K : PySem.W.Frag} {G H : Hp}
theorem get_mu {a : Addr} {m : Mu} {o : HO} {v : V} {d : D} {r : Option D} (s : Same G H) (ha : H a = some o) (hm : MuOk K G m o) (hd : Ds K G v d) (e : getMu m d = some r) :
    ∃ rv, DGet H a v rv ∧ ((r = none ∧ rv = none) ∨ ∃ x y, r = some y ∧ rv = some x ∧ Ds K G x y) := by
  cases m with
  | l _ => cases e
  | dK ds =>
    cases o with
    | dK kvs =>
      have e : (keyD d).map (fun k => lookD ds k) = some r := e
      cases q : keyD d with
      | none => rw [q] at e; cases e
      | some k =>
        rw [q] at e
        cases e
        refine ⟨valV kvs k, .inl ⟨kvs, k, .inl ha, keyD_ok hd q, rfl⟩, ?_⟩
        rcases look_of (k := k) hm.1 hm.2 with ⟨h1, h2⟩ | ⟨x, y, h1, h2, h3⟩
        · exact .inl ⟨h1, h2⟩
        · exact .inr ⟨x, y, h1, h2, h3⟩
    | _ => exact hm.elim
  | dT ds =>
    cases o with
    | dT kvs =>
      cases d with
      | tup es =>
        have e : (keysD es).map (fun k => lookD ds k) = some r := e
        cases q : keysD es with
        | none => rw [q] at e; cases e
        | some k =>
          rw [q] at e
          cases e
          cases hd with
          | @tup b xs _ h1 h2 =>
            have ex := keysD_ok h2 q
            subst ex
            refine ⟨valV kvs k, .inr ⟨kvs, k, b, .inl ha, rfl, s _ _ h1, rfl⟩, ?_⟩
            rcases look_of (k := k) hm.1 hm.2 with ⟨h1, h2⟩ | ⟨x, y, h1, h2, h3⟩
            · exact .inl ⟨h1, h2⟩
            · exact .inr ⟨x, y, h1, h2, h3⟩
      | _ => cases e
    | _ => exact hm.elim
theorem put_mu {a : Addr} {m m' : Mu} {o : HO} {v w : V} {d e : D} (s : Same G H) (ha : H a = some o) (hm : MuOk K G m o) (hd : Ds K G v d) (hw : Ds K G w e) (q : putMu m d e = some m') :
    ∃ o', DPut H a v w (upd H a o') ∧ MuOk K G m' o' := by
  cases m with
  | l _ => cases q
  | dK ds =>
    cases o with
    | dK kvs =>
      have q : (keyD d).bind (fun k => if ds.length < 10000000 then some (Mu.dK (putD ds k e)) else none) = some m' := q
      cases q1 : keyD d with
      | none => rw [q1] at q; cases q
      | some k =>
        rw [q1] at q
        have q : (if ds.length < 10000000 then some (Mu.dK (putD ds k e)) else none) = some m' := q
        split at q
        case isFalse => cases q
        rename_i hl
        cases q
        have hlen : kvs.length = ds.length := by
          have := hm.2.length
          rw [List.length_map, List.length_map] at this
          exact this
        exact ⟨.dK (putK kvs k w), .inl ⟨kvs, k, ha, keyD_ok hd q1, Nat.lt_of_lt_of_le (by rw [hlen]; exact hl) tenM, rfl⟩, put_of hm.1 hm.2 hw⟩
    | _ => exact hm.elim
  | dT ds =>
    cases o with
    | dT kvs =>
      cases d with
      | tup es =>
        have q : (keysD es).bind (fun k => if ds.length < 10000000 then some (Mu.dT (putD ds k e)) else none) = some m' := q
        cases q1 : keysD es with
        | none => rw [q1] at q; cases q
        | some k =>
          rw [q1] at q
          have q : (if ds.length < 10000000 then some (Mu.dT (putD ds k e)) else none) = some m' := q
          split at q
          case isFalse => cases q
          rename_i hl
          cases q
          have hlen : kvs.length = ds.length := by
            have := hm.2.length
            rw [List.length_map, List.length_map] at this
            exact this
          cases hd with
          | @tup b xs _ h1 h2 =>
            have ex := keysD_ok h2 q1
            subst ex
            exact ⟨.dT (putK kvs k w), .inr ⟨kvs, k, b, ha, rfl, s _ _ h1, Nat.lt_of_lt_of_le (by rw [hlen]; exact hl) tenM, rfl⟩, put_of hm.1 hm.2 hw⟩
      | _ => cases q
    | _ => exact hm.elim
end
/-- a dict's value as its content -/
def dMu : D → Option Mu
  | .dK kvs => some (.dK kvs)
  | .dT kvs => some (.dT kvs)
  | _ => none
theorem Ds.dmu {K : PySem.W.Frag} {G : Hp} {v : V} {d : D} {m : Mu} (h : Ds K G v d) (e : dMu d = some m) : ∃ a o, v = .ref a ∧ G a = some o ∧ MuOk K G m o := by
  cases d with
  | dK kvs => cases e; cases h with | dK h1 h2 h3 => exact ⟨_, _, rfl, h1, h2, h3⟩
  | dT kvs => cases e; cases h with | dT h1 h2 h3 => exact ⟨_, _, rfl, h1, h2, h3⟩
  | _ => cases e
section
variable {X : Cx} {W : WX} {e a b c o i : Expr} {es : List Expr} {f g h : SemE D} {fs : SemE (List D)} {pos : Pos}
def muAt (j : Nat) (ρ : List Sl) : Option Mu := match ρ[j]? with
  | some (.o _ m) => some m
  | _ => none
theorem Rel.mu {K : PySem.W.Frag} {ρ : List Sl} {σ : Sg} {G H : Hp} {j : Nat} {m : Mu} (r : Rel K ρ σ G H) (e : muAt j ρ = some m) : ∃ p a o, ρ[j]? = some (.o p m) ∧ σ[j]? = some (some (.ref a)) ∧ G a = none ∧ H a = some o ∧ MuOk K G m o := by
  unfold muAt at e
  split at e
  · rename_i p m' e1
    cases e
    obtain ⟨a, o, h⟩ := r.sl j _ e1
    exact ⟨p, a, o, e1, h⟩
  · cases e
/-- k in d, k not in d; d an own dict -/
def sDIn (neg : Bool) (j : Nat) (f : SemE D) : SemE D := fun ρ => (f ρ).bind fun k ρ1 => match (muAt j ρ1).bind fun m => getMu m k with
  | some r => .ok (.bl (if neg then !r.isSome else r.isSome)) ρ1
  | none => .bad
theorem din_ask {K : PySem.W.Frag} {neg : Bool} {j : Nat} {k : D} {ρ : List Sl} {σ : Sg} {G H : Hp} {v : V} {Q : VK} (rl : Rel K ρ σ G H) (hv : Ds K G v k)
    (q : Asks K ρ σ G H W (match (muAt j ρ).bind fun m => getMu m k with | some r => .ok (D.bl (if neg then !r.isSome else r.isSome)) ρ | none => .bad) (fun d _ G' H' => ∀ v, Ds K G' v d → Q v H')) :
    ∃ x, σ[j]? = some (some x) ∧ ∃ a o, x = V.ref a ∧ DGet H a v o ∧ Q (.bl (if neg then !o.isSome else o.isSome)) H := by
  cases e1 : muAt j ρ with
  | none => rw [e1] at q; exact q.elim
  | some m =>
    rw [e1] at q
    have q : Asks K ρ σ G H W (match getMu m k with | some r => .ok (D.bl (if neg then !r.isSome else r.isSome)) ρ | none => .bad) (fun d _ G' H' => ∀ v, Ds K G' v d → Q v H') := q
    cases e2 : getMu m k with
    | none => rw [e2] at q; exact q.elim
    | some r =>
      rw [e2] at q
      obtain ⟨p, a, o, h1, h2, h3, h4, h5⟩ := rl.mu e1
      obtain ⟨rv, g1, g2⟩ := get_mu rl.same h4 h5 hv e2
      refine ⟨_, h2, a, rv, rfl, g1, ?_⟩
      have e3 : rv.isSome = r.isSome := by
        rcases g2 with ⟨rfl, rfl⟩ | ⟨x, y, rfl, rfl, _⟩ <;> rfl
      rw [e3]
      exact Asks.pure rl q _ (.bl _)
theorem st_din (j : Nat) (hu : X.A.units + 1 < cLine) (ha : SE X W a f) (hb : PE X b (tVar j)) (hm : behindInMarks .In b = false := by rfl) : ST X W (.Compare a [.In] [b] pos) (sT (sDIn false j f)) := by
  obtain ⟨t, a1, a2⟩ := ha
  refine ⟨_, pt_cmp (pc_din hu a1 hb) hm, tB_of fun ρ σ G H Q rl q => a2 ρ σ G H _ rl ((Asks.bind q).imp fun k ρ1 G1 H1 e1 s1 q1 v hv => din_ask s1.rel hv q1)⟩
theorem st_dnotin (j : Nat) (hu : X.A.units + 1 < cLine) (ha : SE X W a f) (hb : PE X b (tVar j)) (hm : behindInMarks .NotIn b = false := by rfl) : ST X W (.Compare a [.NotIn] [b] pos) (sT (sDIn true j f)) := by
  obtain ⟨t, a1, a2⟩ := ha
  refine ⟨_, pt_cmp (pc_dnotin hu a1 hb) hm, tB_of fun ρ σ G H Q rl q => a2 ρ σ G H _ rl ((Asks.bind q).imp fun k ρ1 G1 H1 e1 s1 q1 v hv => din_ask s1.rel hv q1)⟩
theorem se_din (j : Nat) (hu : X.A.units + 1 < cLine) (ha : SE X W a f) (hb : PE X b (tVar j)) (hm : behindInMarks .In b = false := by rfl) : SE X W (.Compare a [.In] [b] pos) (sDIn false j f) := by
  obtain ⟨t, a1, a2⟩ := ha
  refine ⟨_, pe_cmp (pc_din hu a1 hb) hm, fun ρ σ G H Q rl q => a2 ρ σ G H _ rl ((Asks.bind q).imp fun k ρ1 G1 H1 e1 s1 q1 v hv => din_ask s1.rel hv q1)⟩
def setMu (j : Nat) (m : Mu) (ρ : List Sl) : List Sl := match ρ[j]? with
  | some (.o p _) => ρ.set j (.o p m)
  | _ => ρ
/-- d[k] = e, d an own dict -/
def sDPut (j : Nat) (f g : SemE D) : SemS := fun ρ => (g ρ).st fun d ρ1 => match muAt j ρ1 with
  | none => .bad
  | some _ => (f ρ1).st fun k ρ2 => match (muAt j ρ2).bind fun m => putMu m k d with
    | some m' => .nx (setMu j m' ρ2)
    | none => .bad
theorem ss_dput (j : Nat) {pos' : Pos} (hu : X.A.units + 1 < cLine) (ho : PE X o (tVar j)) (hi : SE X W i f) (he : SE X W e g) (hs : swapsWith e (some (.Subscript o i pos')) pos.line X.env = pure false := by rfl) : SS X W (.Assign [.Subscript o i pos'] e pos) (sDPut j f g) := by
  obtain ⟨ti, i1, i2⟩ := hi
  obtain ⟨te, e1, e2⟩ := he
  refine ⟨_, ps_dput hu ho i1 e1 hs, fun ρ σ G H E rl q => e2 ρ σ G H _ rl ((Asks.stmt (k := fun d ρ1 => match muAt j ρ1 with
    | none => .bad
    | some _ => (f ρ1).st fun k ρ2 => match (muAt j ρ2).bind fun m => putMu m k d with
      | some m' => .nx (setMu j m' ρ2)
      | none => .bad) q).imp fun d ρ1 G1 H1 z1 s1 q1 v hv => ?_)⟩
  cases y0 : muAt j ρ1 with
  | none => rw [y0] at q1; exact q1.elim
  | some m0 =>
    rw [y0] at q1
    obtain ⟨p0, a, o0, h1, h2, h3, h4, h5⟩ := s1.rel.mu y0
    refine ⟨_, h2, i2 ρ1 σ G1 H1 _ s1.rel ((Asks.stmt (k := fun k ρ2 => match (muAt j ρ2).bind fun m => putMu m k d with
      | some m' => .nx (setMu j m' ρ2)
      | none => .bad) q1).imp fun k ρ2 G2 H2 z2 s2 q2 u hu => ?_)⟩
    cases y1 : muAt j ρ2 with
    | none => rw [y1] at q2; exact q2.elim
    | some m =>
      rw [y1] at q2
      have q2 : AskS X.K ρ2 σ G2 H2 W (match putMu m k d with | some m' => .nx (setMu j m' ρ2) | none => .bad) E := q2
      cases y2 : putMu m k d with
      | none => rw [y2] at q2; exact q2.elim
      | some m' =>
        rw [y2] at q2
        obtain ⟨p, a2, o2, k1, k2, k3, k4, k5⟩ := s2.rel.mu y1
        rw [h2] at k2
        cases k2
        obtain ⟨o', g1, g2⟩ := put_mu s2.rel.same k4 k5 hu (hv.mono s2.grow.gg) y2
        have em : setMu j m' ρ2 = ρ2.set j (.o p m') := by unfold setMu; rw [k1]
        have q2 : AskS X.K ρ2 σ G2 H2 W (.nx (setMu j m' ρ2)) E := q2
        rw [em] at q2
        exact ⟨a, _, rfl, g1, q2 _ _ _ (s2.rel.wr k1 h2 k4 k3 g2)⟩
/-- d.get(k, e), d an own dict -/
def sDGet (j : Nat) (f g : SemE D) : SemE D := fun ρ => match muAt j ρ with
  | some (.l _) => .bad
  | none => .bad
  | some _ => (f ρ).bind fun k ρ1 => (g ρ1).bind fun d ρ2 => match (muAt j ρ2).bind fun m => getMu m k with
    | some r => .ok (r.getD d) ρ2
    | none => .bad
theorem isD_of {K : PySem.W.Frag} {G H : Hp} {a : Addr} {m : Mu} {o : HO} (ha : H a = some o) (h : MuOk K G m o) (hn : ∀ ds, m ≠ .l ds) : IsD H a := by
  cases m with
  | l ds => exact absurd rfl (hn ds)
  | dK ds => cases o <;> first | exact h.elim | exact .inl ⟨_, .inl ha⟩
  | dT ds => cases o <;> first | exact h.elim | exact .inr ⟨_, .inl ha⟩
theorem se_dget (j : Nat) {apos cpos : Pos} (hu : X.A.units + 1 < cLine) (ho : PE X o (tVar j)) (he : SE X W a f) (hf : SE X W b g) (m : M2 X o "get" apos a b cpos := by exact ⟨rfl, rfl, rfl, rfl⟩) : SE X W (.Call (.Attribute o "get" apos) [a, b] [] cpos) (sDGet j f g) := by
  obtain ⟨ta, a1, a2⟩ := he
  obtain ⟨tb, b1, b2⟩ := hf
  refine ⟨_, pe_dget2 hu ho a1 b1 m, fun ρ σ G H Q rl q => ?_⟩
  unfold sDGet at q
  cases y0 : muAt j ρ with
  | none => rw [y0] at q; exact q.elim
  | some m0 =>
    rw [y0] at q
    obtain ⟨p0, ad, o0, h1, h2, h3, h4, h5⟩ := rl.mu y0
    have hn : ∀ ds, m0 ≠ .l ds := fun ds z => by subst z; exact q.elim
    have q : Asks X.K ρ σ G H W ((f ρ).bind fun k ρ1 => (g ρ1).bind fun d ρ2 => match (muAt j ρ2).bind fun m => getMu m k with
      | some r => .ok (r.getD d) ρ2
      | none => .bad) (fun d _ G' H' => ∀ v, Ds X.K G' v d → Q v H') := by
      cases m0 with
      | l ds => exact absurd rfl (hn ds)
      | dK _ => exact q
      | dT _ => exact q
    refine ⟨_, h2, ad, rfl, isD_of h4 h5 hn, a2 ρ σ G H _ rl ((Asks.bind q).imp fun k ρ1 G1 H1 z1 s1 q1 v hv => ?_)⟩
    refine b2 ρ1 σ G1 H1 _ s1.rel ((Asks.bind q1).imp fun d ρ2 G2 H2 z2 s2 q2 u hu => ?_)
    cases y1 : muAt j ρ2 with
    | none => rw [y1] at q2; exact q2.elim
    | some m =>
      rw [y1] at q2
      have q2 : Asks X.K ρ2 σ G2 H2 W (match getMu m k with | some r => .ok (r.getD d) ρ2 | none => .bad) (fun d _ G' H' => ∀ v, Ds X.K G' v d → Q v H') := q2
      cases y2 : getMu m k with
      | none => rw [y2] at q2; exact q2.elim
      | some r =>
        rw [y2] at q2
        obtain ⟨p, a2, o2, k1, k2, k3, k4, k5⟩ := s2.rel.mu y1
        rw [h2] at k2
        cases k2
        obtain ⟨rv, g1, g2⟩ := get_mu s2.rel.same k4 k5 (hv.mono s2.grow.gg) y2
        refine ⟨rv, g1, ?_⟩
        rcases g2 with ⟨rfl, rfl⟩ | ⟨x, y, rfl, rfl, g3⟩
        · exact Asks.pure s2.rel q2 _ hu
        · exact Asks.pure s2.rel q2 _ g3
/-! ### slices -/
def SPo (X : Cx) (W : WX) (e : Option Expr) (f : SemE (Option Int)) : Prop :=
  ∃ t, PO X e t ∧ ∀ ρ σ G H Q, Rel X.K ρ σ G H → Asks X.K ρ σ G H W (f ρ) (fun o _ _ H' => Q o H') → t σ H Q
def sNoP : SemE (Option Int) := fun ρ => .ok none ρ
def sPart (f : SemE D) : SemE (Option Int) := fun ρ => (f ρ).bind fun d ρ1 => match d with
  | .int i => .ok (some i) ρ1
  | _ => .bad
theorem spo_none : SPo X W none sNoP := ⟨_, po_none, fun ρ σ G H Q rl q => Asks.pure rl q⟩
theorem spo_some (h : SE X W e f) : SPo X W (some e) (sPart f) := by
  obtain ⟨t, h1, h2⟩ := h
  refine ⟨_, po_some h1, fun ρ σ G H Q rl q => h2 ρ σ G H _ rl ((Asks.bind q).imp fun d ρ1 G1 H1 e1 s1 q1 v hv => ?_)⟩
  cases d with
  | int i => cases hv; exact ⟨i, rfl, Asks.pure s1.rel q1⟩
  | _ => exact q1.elim
def cutD (ds : List D) (lo hi : Option Int) : List D := (ds.drop (HT.sIx ds.length 0 lo)).take (HT.sIx ds.length ds.length hi - HT.sIx ds.length 0 lo)
theorem cut_of {K : PySem.W.Frag} {G : Hp} {vs : List V} {ds : List D} (h : DsL K G vs ds) (lo hi : Option Int) : DsL K G (cutV vs lo hi) (cutD ds lo hi) := by
  unfold cutV cutD
  rw [h.length]
  exact (h.drop _).take _
def sCut (f : SemE D) (l u : SemE (Option Int)) : SemE D := fun ρ => (f ρ).bind fun d ρ1 => (l ρ1).bind fun lo ρ2 => (u ρ2).bind fun hi ρ3 => match d with
  | .tup ds => .ok (.tup (cutD ds lo hi)) ρ3
  | _ => .bad
theorem cut_all {ds : List D} {lo hi : Option Int} (h : HT.sIx ds.length 0 lo = 0 ∧ HT.sIx ds.length ds.length hi = ds.length) : cutD ds lo hi = ds := by
  unfold cutD
  rw [h.1, h.2]
  simp
theorem se_cutT {lo hi : Option Expr} {l u : SemE (Option Int)} {p2 : Pos} (he : SE X W e f) (hl : SPo X W lo l) (hu : SPo X W hi u) : SE X W (.Subscript e (.Slice lo hi none p2) pos) (sCut f l u) := by
  obtain ⟨t, a1, a2⟩ := he
  obtain ⟨tl, b1, b2⟩ := hl
  obtain ⟨tu, c1, c2⟩ := hu
  refine ⟨_, pe_slice sl_tupA a1 b1 c1, fun ρ σ G H Q rl q => a2 ρ σ G H _ rl ((Asks.bind q).imp fun d ρ1 G1 H1 e1 s1 q1 v hv => ?_)⟩
  refine b2 ρ1 σ G1 H1 _ s1.rel ((Asks.bind q1).imp fun lo ρ2 G2 H2 e2 s2 q2 => ?_)
  refine c2 ρ2 σ G2 H2 _ s2.rel ((Asks.bind q2).imp fun hi ρ3 G3 H3 e3 s3 q3 => ?_)
  have hv3 := (hv.mono s2.grow.gg).mono s3.grow.gg
  cases d with
  | tup ds =>
    cases hv3 with
    | @tup a xs _ h1 h2 =>
      refine ⟨a, xs, rfl, SqT.of (s3.rel.same _ _ h1), fun z => ?_, fun z p hp => ?_⟩
      · rw [h2.length] at z
        have q3 := Asks.pure s3.rel q3 (.ref a) (.tup (by exact h1) (by rw [cut_all z]; exact h2))
        exact q3
      · exact q3 _ _ (s3.rel.step (Grow.new s3.rel.same hp) (Same.new s3.rel.same)) _ (.tup upd_same ((cut_of h2 lo hi).mono (Same.at s3.rel.same hp)))
  | _ => exact q3.elim
/-! ### fields -/
theorem lookup_of {K : PySem.W.Frag} {G : Hp} {x : Str} {d : D} : ∀ {fs : List (Str × V)} {ds : List (Str × D)}, fs.map (·.1) = ds.map (·.1) → DsL K G (fs.map (·.2)) (ds.map (·.2)) → ds.lookup x = some d → ∃ v, fs.lookup x = some v ∧ Ds K G v d
  | [], [], _, _, e => by cases e
  | [], _ :: _, h, _, _ => by cases h
  | _ :: _, [], h, _, _ => by cases h
  | (k, v) :: fs, (k', d') :: ds, h, hl, e => by
    simp only [List.map_cons, List.cons.injEq] at h
    rw [List.map_cons, List.map_cons] at hl
    obtain ⟨rfl, h2⟩ := h
    cases hl with
    | cons g1 g2 =>
      rw [List.lookup_cons] at e ⊢
      cases q : (x == k) with
      | true => rw [q] at e; cases e; exact ⟨_, rfl, g1⟩
      | false => rw [q] at e; exact lookup_of h2 g2 e
/-- e.x, an own class at C -/
def fldF (C : Addr) (x : Str) : D → Option D
  | .obj C' fs => if C' = C then fs.lookup x else none
  | _ => none
def sFldC (C : Addr) (x : Str) (f : SemE D) : SemE D := sUn (fldF C x) f
theorem se_fld {C : Addr} {x : Str} (he : SE X W e f) (cl : Cls X.K C) (na : NoAttr X.K C x) (hb : attributeBase e x X.env (eval e X.env) = eval e X.env := by rfl) : SE X W (.Attribute e x pos) (sFldC C x f) := by
  obtain ⟨t, a1, a2⟩ := he
  refine ⟨_, pe_fld a1 hb, fun ρ σ G H Q rl q => a2 ρ σ G H _ rl ((Asks.bind q).imp fun d ρ1 G1 H1 e1 s1 q1 v hv => ?_)⟩
  unfold lift1 at q1
  cases e2 : fldF C x d with
  | none => rw [e2] at q1; exact q1.elim
  | some r =>
    rw [e2] at q1
    cases d with
    | obj C' ds =>
      by_cases hC : C' = C
      · subst hC
        have e3 : ds.lookup x = some r := by
          unfold fldF at e2
          simpa using e2
        cases hv with
        | @obj a _ dx fs _ h1 h2 h3 =>
          obtain ⟨w, g1, g2⟩ := lookup_of h2 h3 e3
          exact ⟨a, C', dx, fs, w, rfl, s1.rel.same _ _ h1, cl, na, g1, Asks.pure s1.rel q1 w g2⟩
      · unfold fldF at e2
        simp only [if_neg hC] at e2
        cases e2
    | _ => cases e2
/-- code that is not come to -/
def sNever : SemS := fun _ => .bad
theorem ss_never {st : Stmt} : SS X W st sNever := ⟨_, ps_never, fun _ _ _ _ _ _ q => q.elim⟩
theorem sss_never {st : List Stmt} : SSs X W st sNever := ⟨_, pss_never, fun _ _ _ _ _ _ q => q.elim⟩
/-- enumerate(list), zip -/
def sEnum (fs : SemE (List D)) : SemE (List D) := fun ρ => (fs ρ).bind fun ds ρ1 => match ds with
  | [.lst xs] => .ok (enumD 0 xs) ρ1
  | [.scr xs] => .ok (enumD 0 xs) ρ1
  | _ => .bad
theorem si_enum {elts : List Expr} {kk : Nat} {tpos p : Pos} (hm : X.mg "enumerate" = none) (ha : SA X W [e] fs) (hg : Gl X "enumerate" := by rfl) (hs : starEach [e] X.env = [(false, eval e X.env)] := by rfl) : SI X W (.Tuple elts kk tpos) (.Call (.Name "enumerate" p) [e] [] pos) (sEnum fs) := by
  obtain ⟨t, h1, h2⟩ := ha
  refine ⟨_, pi_enum hg hm h1 hs, fun ρ σ G H R rl q => h2 ρ σ G H _ rl ((Asks.bind q).imp fun ds ρ1 G1 H1 e1 s1 q1 vs hv => ?_)⟩
  split at q1
  · cases hv with
    | cons hd ht =>
      cases ht
      cases hd with
      | lst h1 h2 => exact ⟨_, _, rfl, SqL.of (s1.rel.same _ _ h1), Asks.pure s1.rel q1 _ (itok_enum (SqL.of h1) h2)⟩
  · cases hv with
    | cons hd ht =>
      cases ht
      cases hd with
      | scr h1 h2 => exact ⟨_, _, rfl, s1.rel.same.seq h1, Asks.pure s1.rel q1 _ (itok_enum h1 h2)⟩
  · exact q1.elim
end
end Sh

namespace Sh
open PySem PySem.Spec PyProof.Rows L2
/-! ### enumerate of a tuple -/
set_option maxHeartbeats 1000000 in
theorem meets_enum1 {v : Value} {o : Obj} {H : Heap → Prop} (B : Begins v o H) :
    Meets (Builtin.«enumerate.__new__» ⟨[.type "enumerate", v], []⟩) (fun _ R s => H s.heap ∧
      R (.ok (.ret (.ref (s.heap.push o).objs.size))) { s with heap := (s.heap.push o).push { cls := .type "enumerate", data := .fields #[.none, .bool false, .ref s.heap.objs.size, rawInt 0, .none, .none] } }) :=
  .of_wp fun prog w A R s h => by
    obtain ⟨hp, g, d, tk, os⟩ := s; obtain ⟨h1, h⟩ := h
    have hsub := sub_enumerate
    have q1 : ∀ {A' : Around} {E : Value → Shared → Prop} {Q : Value → Shared → Prop}, Q (.ref hp.objs.size) ⟨hp.push o, g, d, tk, os⟩ → wpAny (model prog w) A' (pyIter v) Q E ⟨hp, g, d, tk, os⟩ :=
      fun q => B.iter prog w _ _ ⟨hp, g, d, tk, os⟩ _ h1 q
    wp_walk using q1
    refine wpAny_stack_any fun st => wpAny_pure ?_
    split
    · rename_i c _ _ _ _ _
      cases (c == Value.type "enumerate")
      · wp_walk using q1
        exact ⟨_, rfl, h⟩
      · wp_walk using q1
        exact ⟨_, rfl, h⟩
    · wp_walk using q1
      exact ⟨_, rfl, h⟩
section
variable {prog : Program} {w : World} {A : Around} {E : Value → Shared → Prop} {s : Shared}
theorem enum1_begins {v : Value} {o : Obj} {H : Heap → Prop} {Q : Value → Shared → Prop} (B : Begins v o H) (h1 : H s.heap)
    (h : ∀ h', IsEnum h' (s.heap.objs.size + 1) s.heap.objs.size 0 .none → h'.get? s.heap.objs.size = some o → h'.objs.size = s.heap.objs.size + 2 →
      (∀ b o, s.heap.get? b = some o → h'.get? b = some o) → Q (.ref (s.heap.objs.size + 1)) { s with heap := h' }) :
    wpAny (model prog w) A (call (.type "enumerate") [v]) Q E s := by
  refine callType_new F.called_enumerate (by decide) (F.typeCall_enumerate_1 _) (F.newCall_enumerate_1 _) (fun obj => F.args_object_init_2 obj _) F.entry_enumerate_new
    (meets_enum1 B) ⟨h1, ?_⟩
  have hz : (s.heap.push o).objs.size = s.heap.objs.size + 1 := Heap.size_push ..
  show _ ∧ _
  rw [hz]
  have he : IsEnum ((s.heap.push o).push { cls := .type "enumerate", data := .fields #[.none, .bool false, .ref s.heap.objs.size, rawInt 0, .none, .none] }) (s.heap.objs.size + 1) s.heap.objs.size 0 .none := by
    have := Heap.get?_push_size (s.heap.push o) (o := { cls := .type "enumerate", data := .fields #[.none, .bool false, .ref s.heap.objs.size, rawInt 0, .none, .none] }) rfl
    rw [hz] at this; exact this
  refine ⟨⟨_, he, rfl⟩, h _ he (Heap.get?_push_of_some _ (Heap.get?_push_size _ B.free)) (by rw [Heap.size_push, hz]) fun b o x => Heap.get?_push_of_some _ (Heap.get?_push_of_some _ x)⟩
end
def IteT (K : PySem.W.Frag) (a : Addr) : It :=
  ⟨fun i H => ∃ (xs : List V) (x : V), SqT K H a xs ∧ xs[i]? = some x, fun i H v H' => ∃ T x, v = .ref T ∧ H T = none ∧ H' = upd H T (.tup [.int (i : Nat), x]) ∧ ∀ xs, SqT K H a xs → xs[i]? = some x, fun i H => ∃ xs : List V, SqT K H a xs ∧ xs.length ≤ i⟩
theorem turn_enumT {P : Program} {w : World} {K : PySem.W.Frag} {elts : List Expr} {kk : Nat} {tpos : Pos} (a e it : Addr) (hae : a ≠ e) (hai : a ≠ it) :
    Turn P w K (.Tuple elts kk tpos) (IteT K a) [e, it] e (fun i h => (∃ old, IsEnum h e it ((i : Nat) : Int) old) ∧ h.IsTupleIter it a i ∧ e ≠ it) where
  mem := by simp
  obj := fun i h st b hb => by
    obtain ⟨⟨old, he⟩, ⟨o, ho, hc, hd⟩, _⟩ := st
    have e' : b = e ∨ b = it := by simpa using hb
    rcases e' with z | z
    · rw [z]; exact ⟨_, he, fun v q => nomatch q⟩
    · rw [z]; exact ⟨o, ho, fun v q => by rw [hd] at q; cases q⟩
  keep := fun i h h' st k => let ⟨⟨old, he⟩, hi, hne⟩ := st; ⟨⟨old, k e (by simp) _ he⟩, hi.at fun o q => k it (by simp) o q, hne⟩
  item := by
    intro X hP hw hK hc i pins s σ H E I hf st hg
    subst hP hw hK
    obtain ⟨⟨old, he⟩, hit, hne⟩ := st
    obtain ⟨xs, x, hq, hx⟩ := hg
    obtain ⟨its, rv, p, hz⟩ := I.tuple hq
    obtain ⟨u, hu, ru⟩ := rv.get hx
    have hel : e < s.heap.objs.size := Heap.lt_size he
    have hil : it < s.heap.objs.size := by obtain ⟨_, q, _⟩ := hit; exact Heap.lt_size q
    have hlen : i < its.toArray.size := by
      have := (List.getElem?_eq_some_iff.mp hu).1
      simpa using this
    have D := Draws.tuple (prog := X.prog) (w := X.w) (A := X.A.in1) (by exact I.ok.hd hc) it a hai its.toArray
    refine wpAny_pyNext_enum_itemD D he ⟨hit, p⟩ hlen hne (by simp only [List.mem_cons, List.not_mem_nil, or_false, not_or]; exact ⟨hne, fun z => hae z.symm⟩) fun u' h' tk hu' ho hst' hT hsz hk => ?_
    have eu : u' = u := by
      have h1 : its[i]? = some u' := by simpa using hu'
      rw [hu] at h1
      exact (Option.some.inj h1).symm
    subst eu
    refine ⟨_, rfl, wpAny_letOwnedTupleGo_enum (s := { s with heap := h', toks := tk + 1 }) ho fun h'' he' sb => ?_⟩
    have hT2 : h''.get? s.heap.objs.size = some { cls := .type "tuple", data := .seq #[.int i tk, u'] } := (sb.2 _ (Nat.ne_of_gt hel)).trans hT
    have new : ObjOk X.prog X.w (upd H s.heap.objs.size (.tup [.int (i : Nat), x])) h'' s.heap.objs.size (.tup [.int (i : Nat), x]) :=
      ⟨by show 2 ≤ sizeLine; decide, [.int i tk, u'], .cons ⟨_, rfl⟩ (.cons ru .nil), ⟨_, hT2, rfl, _, rfl⟩⟩
    have I1 : Inv X pins σ (upd H s.heap.objs.size (.tup [.int (i : Nat), x])) { s with heap := h'', toks := tk + 1 } :=
      I.turnedNew (ch := [e, it]) (fun b ob hb q => (sb.2 b (fun z => hb (by simp [z]))).trans (hk b ob (fun z => hb (by simp [z])) (fun z => hb (by simp [z])) q)) hf (Nat.le_refl _) new
    refine ⟨.ref s.heap.objs.size, _, I1, rfl, ⟨_, x, rfl, I.hok.fresh (Nat.le_refl _), rfl, fun ys hy => by rw [I.tuple_inj hy hq]; exact hx⟩, ⟨⟨u', ?_⟩, hst'.1.at fun o q => (sb.2 it (Ne.symm hne)).trans q, hne⟩, fun b hb => ?_⟩
    · have e1 : ((i + 1 : Nat) : Int) = (i : Int) + 1 := by omega
      rw [e1]; exact he'
    · have hb' : b < s.heap.objs.size := by
        have e' : b = e ∨ b = it := by simpa using hb
        rcases e' with z | z
        · rw [z]; exact hel
        · rw [z]; exact hil
      rw [upd_ne (Nat.ne_of_lt hb')]
      exact (hf b hb).1
  done := by
    intro X hP hw hK hc i pins s σ H E I hf st hg
    subst hP hw hK
    obtain ⟨⟨old, he⟩, hit, hne⟩ := st
    obtain ⟨xs, hq, hx⟩ := hg
    obtain ⟨its, rv, p, hz⟩ := I.tuple hq
    obtain ⟨f0, f1, f2, f3, f4, f5⟩ := hf it (by simp)
    have hl := rv.length
    have D := Draws.tuple (prog := X.prog) (w := X.w) (A := X.A.in1) (by exact I.ok.hd hc) it a hai its.toArray
    have hnone : its.toArray[i]? = none := by simp; omega
    have hT : s.TypeIs (.ref e) "enumerate" := ⟨_, he, rfl⟩
    unfold pyNext
    refine wpAny_bind (wpAny_attempt (wpAny_callSpecial?_slot (name := Str.ofString "__next__") hT F.slot_enumerate_next
      (wpAny_call_entry F.slot_enumerate_next hT F.entry_enumerate_next ?_ (F.args_enumerate_next_1 _))))
    show wpAny _ _ (field (.ref e) 2 >>= _) _ _ _
    refine wpAny_bind (wpAny_field he rfl (x := .ref it) rfl ?_)
    refine wpAny_bind (wpAny_nextOf_tuple_end (by exact I.ok.hd hc) hit p hnone fun h' x he' hx' => ?_)
    obtain ⟨o, ho, hcc⟩ := hx'
    refine wpAny_bind (wpAny_isInstance (T := "StopIteration") (b := true) ⟨o, ho, hcc⟩ isSubtype_stop ?_)
    exact wpAny_pure ⟨rfl, I.turned (t' := s.toks) (fun b o hb q => he' b o hb q) f0 f1 f3 f4 f5⟩
  self := fun A i s Q E st h => let ⟨⟨_, he⟩, _⟩ := st; wpAny_pyIter_enum he h
def iEnumT (K : PySem.W.Frag) (ta : TA) : TI := fun σ H R => ta σ H fun vs H1 => ∃ a xs, vs = [.ref a] ∧ SqT K H1 a xs ∧ R (IteT K a) H1
theorem pi_enumT {X : Cx} {e : Expr} {ta : TA} {p pos tpos : Pos} {elts : List Expr} {kk : Nat} (hg : Gl X "enumerate") (hm : X.mg "enumerate" = none) (ha : PA X [e] ta) (hs : starEach [e] X.env = [(false, eval e X.env)] := by rfl) :
    PI X (.Tuple elts kk tpos) (.Call (.Name "enumerate" p) [e] [] pos) (iEnumT X.K ta) := by
  refine ⟨fun pins s σ H R I h => ?_⟩
  refine Call_ (ld_blt I hg hm boot_enumerate (PyProof.Rows.callWith_type1 (thn (ha.run pos pins s σ H _ I h) fun us s1 ⟨vs, H1, I1, r1, q1⟩ => ?_) hs rfl))
  obtain ⟨a, xs, ex, hq, q⟩ := q1
  subst ex
  cases r1 with
  | cons r rr =>
    cases rr
    cases r
    obtain ⟨its, rv, p', hz⟩ := I1.tuple hq
    have hal : a < s1.heap.objs.size := p'.lt
    refine enum1_begins (begins_tuple a its.toArray) p' fun h' he hit hsz hk => wpAny_pyIter_enum he ?_
    have I2 : Inv X pins σ H1 { s1 with heap := h' } := I1.kept (t' := s1.toks) hk
    refine ⟨s1.heap.objs.size + 1, [s1.heap.objs.size + 1, s1.heap.objs.size], _, _, H1, rfl, I2, turn_enumT a (s1.heap.objs.size + 1) s1.heap.objs.size (Nat.ne_of_lt (Nat.lt_succ_of_lt hal)) (Nat.ne_of_lt hal), ⟨⟨.none, he⟩, ⟨_, hit, rfl, rfl⟩, Nat.succ_ne_self _⟩, fun b hb => ?_, q⟩
    have e' : b = s1.heap.objs.size + 1 ∨ b = s1.heap.objs.size := by simpa using hb
    have hle : s1.heap.objs.size ≤ b := by
      rcases e' with z | z
      · rw [z]; exact Nat.le_add_right _ _
      · rw [z]; exact Nat.le_refl _
    exact I1.fpOk hle (I1.hok.fresh hle)
theorem itok_enumT {K : PySem.W.Frag} {G : Hp} {a : Addr} {vs : List V} {ds : List D} (h : SqT K G a vs) (hl : DsL K G vs ds) : ItOk K G (IteT K a) (enumD 0 ds) := by
  refine ⟨fun i G1 H1 s1 s2 hi => ⟨vs, Same.seqT s2 (Same.seqT s1 h), by rw [hl.length]; simpa [enumD_len] using hi⟩, fun i G1 H1 d s1 s2 hd => ?_⟩
  rw [enumD_get] at hd
  cases e : ds[i]? with
  | none => rw [e] at hd; cases hd
  | some d0 =>
    rw [e] at hd
    cases hd
    obtain ⟨v, h1, h2⟩ := hl.get e
    refine ⟨⟨vs, v, Same.seqT s2 (Same.seqT s1 h), h1⟩, fun x H2 ⟨T, y, e1, nT, e2, e3⟩ => ?_⟩
    have e4 := e3 vs (Same.seqT s2 (Same.seqT s1 h))
    rw [h1] at e4
    cases e4
    subst e1 e2
    refine ⟨upd G1 T (.tup [.int (i : Nat), v]), Grow.new s2 nT, Same.new s2, .tup upd_same (.cons ?_ (.cons ((h2.mono s1).mono (Same.at s2 nT)) .nil))⟩
    simpa using Ds.int (K := K) (G := upd G1 T (.tup [.int (i : Nat), v])) ((i : Nat) : Int)
/-- zip -/
theorem zipD_get (a b : List D) (i : Nat) : (zipD a b)[i]? = match a[i]?, b[i]? with | some x, some y => some (.tup [x, y]) | _, _ => none := by
  unfold zipD
  rw [List.getElem?_zipWith]
  cases a[i]? <;> cases b[i]? <;> rfl
theorem itok_zipT {K : PySem.W.Frag} {G : Hp} {a b : Addr} {vs ws : List V} {ds es : List D} (h : SqT K G a vs) (hl : DsL K G vs ds) (h' : SqT K G b ws) (hl' : DsL K G ws es) : ItOk K G (RZ.ItzT K a b) (zipD ds es) := by
  refine ⟨fun i G1 H1 s1 s2 hi => ⟨vs, ws, Same.seqT s2 (Same.seqT s1 h), Same.seqT s2 (Same.seqT s1 h'), ?_⟩, fun i G1 H1 d s1 s2 hd => ?_⟩
  · rw [hl.length, hl'.length]
    unfold zipD at hi
    rw [List.length_zipWith] at hi
    omega
  · rw [zipD_get] at hd
    cases e : ds[i]? with
    | none => rw [e] at hd; cases hd
    | some d0 =>
      cases e' : es[i]? with
      | none => rw [e, e'] at hd; cases hd
      | some d1 =>
        rw [e, e'] at hd
        cases hd
        obtain ⟨v, h1, h2⟩ := hl.get e
        obtain ⟨u, k1, k2⟩ := hl'.get e'
        refine ⟨⟨vs, ws, v, u, Same.seqT s2 (Same.seqT s1 h), Same.seqT s2 (Same.seqT s1 h'), h1, k1⟩, fun x H2 ⟨T, y, z, e1, nT, e2, e3, e5⟩ => ?_⟩
        have e4 := e3 vs (Same.seqT s2 (Same.seqT s1 h))
        rw [h1] at e4
        cases e4
        have e6 := e5 ws (Same.seqT s2 (Same.seqT s1 h'))
        rw [k1] at e6
        cases e6
        subst e1 e2
        exact ⟨upd G1 T (.tup [v, u]), Grow.new s2 nT, Same.new s2, .tup upd_same (.cons ((h2.mono s1).mono (Same.at s2 nT)) (.cons ((k2.mono s1).mono (Same.at s2 nT)) .nil))⟩
theorem itok_zipL {K : PySem.W.Frag} {G : Hp} {a b : Addr} {vs ws : List V} {ds es : List D} (h : SqL K G a vs) (hl : DsL K G vs ds) (h' : SqL K G b ws) (hl' : DsL K G ws es) : ItOk K G (Itz K a b) (zipD ds es) := by
  refine ⟨fun i G1 H1 s1 s2 hi => ⟨vs, ws, s2.seq (s1.seq h), s2.seq (s1.seq h'), ?_⟩, fun i G1 H1 d s1 s2 hd => ?_⟩
  · rw [hl.length, hl'.length]
    unfold zipD at hi
    rw [List.length_zipWith] at hi
    omega
  · rw [zipD_get] at hd
    cases e : ds[i]? with
    | none => rw [e] at hd; cases hd
    | some d0 =>
      cases e' : es[i]? with
      | none => rw [e, e'] at hd; cases hd
      | some d1 =>
        rw [e, e'] at hd
        cases hd
        obtain ⟨v, h1, h2⟩ := hl.get e
        obtain ⟨u, k1, k2⟩ := hl'.get e'
        refine ⟨⟨vs, ws, v, u, s2.seq (s1.seq h), s2.seq (s1.seq h'), h1, k1⟩, fun x H2 ⟨T, y, z, e1, nT, e2, e3, e5⟩ => ?_⟩
        have e4 := e3 vs (s2.seq (s1.seq h))
        rw [h1] at e4
        cases e4
        have e6 := e5 ws (s2.seq (s1.seq h'))
        rw [k1] at e6
        cases e6
        subst e1 e2
        exact ⟨upd G1 T (.tup [v, u]), Grow.new s2 nT, Same.new s2, .tup upd_same (.cons ((h2.mono s1).mono (Same.at s2 nT)) (.cons ((k2.mono s1).mono (Same.at s2 nT)) .nil))⟩
section
variable {X : Cx} {W : WX} {e a b : Expr} {fs : SemE (List D)} {pos : Pos}
def sEnumT (fs : SemE (List D)) : SemE (List D) := fun ρ => (fs ρ).bind fun ds ρ1 => match ds with
  | [.tup xs] => .ok (enumD 0 xs) ρ1
  | _ => .bad
theorem si_enumT {elts : List Expr} {kk : Nat} {tpos p : Pos} (hm : X.mg "enumerate" = none) (ha : SA X W [e] fs) (hg : Gl X "enumerate" := by rfl) (hs : starEach [e] X.env = [(false, eval e X.env)] := by rfl) : SI X W (.Tuple elts kk tpos) (.Call (.Name "enumerate" p) [e] [] pos) (sEnumT fs) := by
  obtain ⟨t, h1, h2⟩ := ha
  refine ⟨_, pi_enumT hg hm h1 hs, fun ρ σ G H R rl q => h2 ρ σ G H _ rl ((Asks.bind q).imp fun ds ρ1 G1 H1 e1 s1 q1 vs hv => ?_)⟩
  split at q1
  · cases hv with
    | cons hd ht =>
      cases ht
      cases hd with
      | tup h1 h2 => exact ⟨_, _, rfl, SqT.of (s1.rel.same _ _ h1), Asks.pure s1.rel q1 _ (itok_enumT (SqT.of h1) h2)⟩
  · exact q1.elim
def sZip (fs : SemE (List D)) : SemE (List D) := fun ρ => (fs ρ).bind fun ds ρ1 => match ds with
  | [.tup xs, .tup ys] => .ok (zipD xs ys) ρ1
  | [.lst xs, .lst ys] => .ok (zipD xs ys) ρ1
  | _ => .bad
theorem si_zip {elts : List Expr} {kk : Nat} {tpos p : Pos} (hm : X.mg "zip" = none) (ha : SA X W [a, b] fs) (hg : Gl X "zip" := by rfl) (hs : starEach [a, b] X.env = (false, eval a X.env) :: starEach [b] X.env := by rfl) (hpl : (backTo pos (starEach [b] X.env)).any (·.1) = false := by rfl) :
    SI X W (.Tuple elts kk tpos) (.Call (.Name "zip" p) [a, b] [] pos) (sZip fs) := by
  obtain ⟨t, h1, h2⟩ := ha
  refine ⟨_, RZ.pi_zipA hg hm h1 hs hpl, fun ρ σ G H R rl q => h2 ρ σ G H _ rl ((Asks.bind q).imp fun ds ρ1 G1 H1 e1 s1 q1 vs hv => ?_)⟩
  split at q1
  · cases hv with
    | cons hd ht =>
      cases ht with
      | cons hd2 ht =>
        cases ht
        cases hd with
        | tup h1 h2 =>
          cases hd2 with
          | tup h3 h4 => exact ⟨_, _, _, _, rfl, .inr ⟨SqT.of (s1.rel.same _ _ h1), SqT.of (s1.rel.same _ _ h3), Asks.pure s1.rel q1 _ (itok_zipT (SqT.of h1) h2 (SqT.of h3) h4)⟩⟩
  · cases hv with
    | cons hd ht =>
      cases ht with
      | cons hd2 ht =>
        cases ht
        cases hd with
        | lst h1 h2 =>
          cases hd2 with
          | lst h3 h4 => exact ⟨_, _, _, _, rfl, .inl ⟨SqL.of (s1.rel.same _ _ h1), SqL.of (s1.rel.same _ _ h3), Asks.pure s1.rel q1 _ (itok_zipL (SqL.of h1) h2 (SqL.of h3) h4)⟩⟩
  · exact q1.elim
end
end Sh

namespace Sh
open PySem PySem.Spec PyProof.Rows L2
section
variable {K : PySem.W.Frag}
def mulF : D → D → Option D := orE mulI mulT
theorem mulOk {X : Cx} : ∃ r, OpR X (binaryOp .Mult) r ∧ RBin X.K r mulF := ⟨_, OpR.or op_mul op_repT, RBin.or (rb_I (fun i j h => mulC_ok h) fun _ _ _ => .int _) rb_mulT⟩
/-- sorted ints -/
def sortI (ns : List Int) : List Int := ns.mergeSort
theorem sortI_perm (ns : List Int) : (sortI ns).Perm ns := List.mergeSort_perm ns _
theorem sortI_ord (ns : List Int) : (sortI ns).Pairwise (· ≤ ·) := by
  have h := List.pairwise_mergeSort (le := fun a b : Int => decide (a ≤ b)) (fun a b c h1 h2 => by simp only [decide_eq_true_eq] at *; omega) (fun a b => by simp only [Bool.or_eq_true, decide_eq_true_eq]; omega) ns
  exact h.imp fun h => by simpa using h
theorem sortI_eq {ns ms : List Int} (p : ms.Perm ns) (o : ms.Pairwise (· ≤ ·)) : ms = sortI ns := PySem.W.ksm_same (p.trans (sortI_perm ns).symm) o (sortI_ord ns)
def sortF (ds : List D) : Option D := (allInt ds).map fun ns => .lst ((sortI ns).map .int)
theorem rl_sorted : RCallL K (rSortedI K) sortF := by
  intro G H p vs ds d Q s hs hl e q
  unfold sortF at e
  cases e1 : allInt ds with
  | none => rw [e1] at e; cases e
  | some ns =>
    rw [e1] at e
    cases e
    have e2 := allInt_map e1
    subst e2
    have e3 := hl.ints
    subst e3
    refine ⟨p, ns, rfl, hs, fun ns' a hp ho ha => ?_⟩
    rw [sortI_eq hp ho]
    exact q _ _ _ (Grow.new s ha) (Same.new s) (.lst upd_same (DsL.of_ints _))
end
section
variable {X : Cx} {W : WX} {e a b c o i : Expr} {es : List Expr} {f g h : SemE D} {fs gs : SemE (List D)} {pos : Pos}
/-- the int keys of an own dict -/
def intKeys : List (Key × D) → Option (List Int)
  | [] => some []
  | (.inl i, _) :: r => (intKeys r).map (i :: ·)
  | (.inr _, _) :: _ => none
theorem intKeys_ok : ∀ {ds : List (Key × D)} {ks : List Int}, intKeys ds = some ks → ds.map (·.1) = ks.map Sum.inl
  | [], ks, h => by cases h; rfl
  | (.inl i, d) :: r, ks, h => by
    unfold intKeys at h
    cases e : intKeys r with
    | none => rw [e] at h; cases h
    | some m => rw [e] at h; cases h; rw [List.map_cons, List.map_cons, intKeys_ok e]
  | (.inr _, _) :: _, _, h => by cases h
def sSortK (j : Nat) : SemE D := fun ρ => match muAt j ρ with
  | some (.dK ds) => (match intKeys ds with
    | some ks => if ks.length < 64 then .ok (.lst ((sortI ks).map .int)) ρ else .bad
    | none => .bad)
  | _ => .bad
theorem se_sortedK (j : Nat) {p : Pos} (ha : PE X a (tVar j)) (hm : X.mg "sorted" = none) (hv : bootBuiltins "sorted" = some (.builtin "sorted")) (hcalm : X.calm = true := by rfl)
    (hg : Gl X "sorted" := by rfl) (he : starEach [a] X.env = (false, eval a X.env) :: starEach [] X.env := by rfl) (hpl : (backTo pos (starEach [] X.env)).any (·.1) = false := by rfl) : SE X W (.Call (.Name "sorted" p) [a] [] pos) (sSortK j) := by
  refine ⟨_, pe_callB (call_sortedDI hcalm) hg hm hv (pa_cons ha pa_nil he) (by decide) (by decide) he hpl, fun ρ σ G H Q rl q => ?_⟩
  unfold sSortK at q
  cases y0 : muAt j ρ with
  | none => rw [y0] at q; exact q.elim
  | some m =>
    rw [y0] at q
    obtain ⟨p0, ad, o, h1, h2, h3, h4, h5⟩ := rl.mu y0
    cases m with
    | l _ => exact q.elim
    | dT _ => exact q.elim
    | dK ds =>
      have q : Asks X.K ρ σ G H W (match intKeys ds with | some ks => if ks.length < 64 then .ok (D.lst ((sortI ks).map .int)) ρ else .bad | none => .bad) (fun d _ G' H' => ∀ v, Ds X.K G' v d → Q v H') := q
      cases e1 : intKeys ds with
      | none => rw [e1] at q; exact q.elim
      | some ks =>
        rw [e1] at q
        have q : Asks X.K ρ σ G H W (if ks.length < 64 then .ok (D.lst ((sortI ks).map .int)) ρ else .bad) (fun d _ G' H' => ∀ v, Ds X.K G' v d → Q v H') := q
        split at q
        case isFalse => exact q.elim
        rename_i hl
        cases o with
        | dK kvs =>
          refine ⟨_, h2, ad, kvs, ks, rfl, .inl h4, ?_, hl, fun ys p hp ho hn => ?_⟩
          · rw [h5.1]; exact intKeys_ok e1
          · rw [sortI_eq hp ho]
            exact q _ _ (rl.step (Grow.new rl.same hn) (Same.new rl.same)) _ (.lst upd_same (DsL.of_ints _))
        | _ => exact h5.elim
/-- [x] * n -/
def sRep (f : SemE (List D)) (g : SemE D) : SemE (List D) := fun ρ => (f ρ).bind fun ds ρ1 => (g ρ1).bind fun d ρ2 => match d with
  | .int k => if (-(2 ^ 63) ≤ k ∧ k < 2 ^ 63) ∧ ds.length * k.toNat ≤ 10000000 then .ok (List.replicate k.toNat ds).flatten ρ2 else .bad
  | _ => .bad
theorem sn_rep (ha : SN X W a fs) (hb : SE X W b g) : SN X W (.BinOp a .Mult b pos) (sRep fs g) := by
  obtain ⟨ta, a1, a2⟩ := ha
  obtain ⟨tb, b1, b2⟩ := hb
  refine ⟨_, pe_op op_rep a1 b1, fun ρ σ G H Q rl q => a2 ρ σ G H _ rl ((Asks.bind q).imp fun ds ρ1 G1 H1 e1 s1 q1 p vs hp hv => ?_)⟩
  have s2 := s1.rel.step (Grow.new (o := .lst vs) s1.rel.same hp) (Same.new s1.rel.same)
  have hv2 := hv.mono (Same.at (o := .lst vs) s1.rel.same hp)
  refine b2 ρ1 σ _ _ _ s2.rel ?_
  have q2 : Asks X.K ρ1 σ (upd G1 p (.lst vs)) (upd H1 p (.lst vs)) W ((g ρ1).bind fun d ρ2 => match d with
    | .int k => if (-(2 ^ 63) ≤ k ∧ k < 2 ^ 63) ∧ ds.length * k.toNat ≤ 10000000 then .ok (List.replicate k.toNat ds).flatten ρ2 else .bad
    | _ => .bad) (fun ds _ G' H' => ∀ p vs, H' p = none → DsL X.K G' vs ds → Q (.ref p) (upd H' p (.lst vs))) := by
    cases r : ((g ρ1).bind fun d ρ2 => match d with
      | .int k => if (-(2 ^ 63) ≤ k ∧ k < 2 ^ 63) ∧ ds.length * k.toNat ≤ 10000000 then Res.ok (List.replicate k.toNat ds).flatten ρ2 else .bad
      | _ => .bad) with
    | bad => rw [r] at q1; exact q1
    | exc x ρ2 => rw [r] at q1; exact fun G' H' cls dx st => q1 G' H' cls dx (s2.trans st)
    | ok d ρ2 => rw [r] at q1; exact fun G' H' st => q1 G' H' (s2.trans st)
  refine (Asks.bind q2).imp fun d ρ2 G2 H2 e2 st2 q3 u hu => ?_
  cases d with
  | int k =>
    cases hu
    have q3 : Asks X.K ρ2 σ G2 H2 W (if (-(2 ^ 63) ≤ k ∧ k < 2 ^ 63) ∧ ds.length * k.toNat ≤ 10000000 then Res.ok (List.replicate k.toNat ds).flatten ρ2 else .bad) (fun ds _ G' H' => ∀ p vs, H' p = none → DsL X.K G' vs ds → Q (.ref p) (upd H' p (.lst vs))) := q3
    split at q3
    case isFalse => exact q3.elim
    rename_i hc
    refine ⟨p, k, vs, rfl, rfl, st2.rel.same _ _ (st2.grow.gg _ _ upd_same), hc.1.1, hc.1.2, Nat.le_trans (by rw [hv.length]; exact hc.2) tenM, fun p2 hp2 => ?_⟩
    exact Asks.pure st2.rel q3 p2 _ hp2 ((hv2.mono st2.grow.gg).rep _)
  | _ => exact q3.elim
/-- list(x) -/
theorem sn_list {p : Pos} (hm : X.mg "list" = none) (hv : bootBuiltins "list" = some (.type "list")) (ha : SBl X W a fs) (hg : Gl X "list" := by rfl)
    (he : starEach [a] X.env = (false, eval a X.env) :: starEach [] X.env := by rfl) (hpl : (backTo pos (starEach [] X.env)).any (·.1) = false := by rfl) : SN X W (.Call (.Name "list" p) [a] [] pos) fs := by
  obtain ⟨t, h1, h2⟩ := ha
  refine ⟨_, pe_callTy call_list_of hg hm hv (pa_cons h1 pa_nil he) (by decide) (by decide) he hpl, fun ρ σ G H Q rl q => h2 ρ σ G H _ rl (q.imp fun ds ρ1 G1 H1 e1 s1 q1 p vs hs hl => ?_)⟩
  exact ⟨p, vs, rfl, .inl hs, fun l hn => q1 l vs hn hl⟩
end
/-! ### a def that hands back a new list: its body is one return -/
def FnPN (K : PySem.W.Frag) (n : Nat) (F : List Sl → Res (List D)) : Sp := fun vs H Q E => ∃ (args : List Sl) (G : Hp), args.length = n ∧ Rel K args (vs.map some) G H ∧ (∀ (i : Nat) (p : Bool) (m : Mu), args[i]? = some (.o p m) → p = true) ∧
  Asks K args (vs.map some) G H (fun cls dx _ H' => E cls dx H') (F args) (fun ds _ G' H' => ∀ p us, H' p = none → DsL K G' us ds → Q (.ref p) (upd H' p (.lst us)))
theorem FnPN.len {K : PySem.W.Frag} {n : Nat} {F : List Sl → Res (List D)} {vs : List V} {H : Hp} {Q : VK} {E : XK} (h : FnPN K n F vs H Q E) : vs.length = n := by
  obtain ⟨args, G, hn, rl, _⟩ := h
  have e := rl.len
  rw [List.length_map] at e
  omega
abbrev SemN := SemE (List D)
def runFnN (k : Nat) (body : SemN) (args : List Sl) : Res (List D) := match body (args ++ List.replicate k .un) with
  | .ok ds ρ => .ok ds (back args ρ)
  | .exc x ρ => .exc x (back args ρ)
  | .bad => .bad
def SF (X : Cx) (W : WX) (sts : List Stmt) (f : SemN) : Prop := ∃ e pos, sts = [.Return (some e) pos] ∧ SN X W e f
theorem ss_retF {X : Cx} {W : WX} {e : Expr} {pos : Pos} {f : SemN} (h : SN X W e f) : SF X W [.Return (some e) pos] f := ⟨e, pos, rfl, h⟩
theorem fn_shN {P : Program} {w : World} {K : PySem.W.Frag} {mg : Str → Option Value} {base : Heap} {x qual : Str} {st : Stmt} {f : Addr} {fd : FuncData} {N ps : List Str} {k : Nat} {sem : SemN} (F : Fun K x qual st f fd) (S : FnScope N ps (defScope st))
    (hb : ∀ (cdv : Value) (A : Around) (outer : List Env) (s : Shared) (H : Hp) (E : XK), Room k (A.deeper (envOfC qual (defScope st) s.heap.objs.size f cdv)) →
      SF (cxOf (L2.CX P w) P w K mg base N qual (defScope st) f cdv A outer s H E) (fun cls d _ H' => E cls d H') (defBody st) sem) :
    FnOk P w K mg base (L2.CX P w) (k + 1) f fd ps (FnPN K ps.length (runFnN (N.length - ps.length) sem)) := by
  refine F.okX S (fun vs H Q E h => h.len) (fun cdv A outer s H vs Q E hr h => ?_)
  obtain ⟨e, pos, hst, te, h1, h2⟩ := hb cdv A outer s H E hr
  rw [hst]
  refine ⟨_, pss_one (ps_ret h1), ?_⟩
  obtain ⟨args, G, hn, rl, pin, q⟩ := h
  have hl := rl.len
  rw [List.length_map] at hl
  have e0 : L2.start N vs = vs.map some ++ List.replicate (N.length - ps.length) none := by unfold L2.start; rw [show vs.length = ps.length by omega]
  rw [e0]
  refine h2 (args ++ List.replicate (N.length - ps.length) Sl.un) _ G H _ (Rel.ext rl (N.length - ps.length)) ?_
  unfold runFnN at q
  cases e1 : sem (args ++ List.replicate (N.length - ps.length) Sl.un) with
  | ok ds ρ' => rw [e1] at q; exact fun G' H' s => q G' H' (Step.back s rl pin)
  | exc x ρ' => rw [e1] at q; exact fun G' H' cls dx s hx => q G' H' cls dx (Step.back s rl pin) hx
  | bad => rw [e1] at q; exact q.elim
def callFN (F : List Sl → Res (List D)) (as : List AV) (ρ : List Sl) : Res (List D) := match mkArgs ρ as with
  | none => .bad
  | some args => if nodupB (owns as) = true then (match F args with
    | .ok d args' => .ok d (backs ρ as args')
    | .exc x args' => .exc x (backs ρ as args')
    | .bad => .bad) else .bad
def sCallN (F : List Sl → Res (List D)) (as : List AE) : SemN := fun ρ => (evA as ρ).bind fun vs ρ1 => callFN F vs ρ1
section
variable {X : Cx} {W : WX} {e : Expr} {es : List Expr} {fs : List AE} {pos : Pos}
theorem call_askN {K : PySem.W.Frag} {ρ : List Sl} {σ : Sg} {G H : Hp} {Q : VK} {n : Nat} {F : List Sl → Res (List D)} {vs : List V} {as : List AV} (hn : as.length = n) (rl : Rel K ρ σ G H) (av : AvOk K G σ vs as)
    (q : Asks K ρ σ G H W (callFN F as ρ) (fun ds _ G' H' => ∀ p us, H' p = none → DsL K G' us ds → Q (.ref p) (upd H' p (.lst us)))) : FnPN K n F vs H Q (WE W σ) := by
  unfold callFN at q
  cases e : mkArgs ρ as with
  | none => rw [e] at q; exact q.elim
  | some args =>
    rw [e] at q
    simp only at q
    split at q
    · rename_i nb
      have nd := nodupB_ok nb
      refine ⟨args, G, by rw [mkArgs_len e]; exact hn, args_rel rl av e nd, args_pin e, ?_⟩
      cases r : F args with
      | bad => rw [r] at q; exact q.elim
      | ok d args' => rw [r] at q; exact fun G' H' s => q G' H' (args_step rl av e nd s)
      | exc x args' => rw [r] at q; exact fun G' H' cls dx s hx => q G' H' cls dx (args_step rl av e nd s) hx
    · exact q.elim
theorem sn_call {k n : Nat} {fa : Addr} {fd : FuncData} {ps : List Str} {F : List Sl → Res (List D)} {x : Str} {p : Pos} (FO : FnOk X.prog X.w X.K X.mg X.base (L2.CX X.prog X.w) k fa fd ps (FnPN X.K n F)) (hr : Room k X.A) (hm : X.mg x = some (.ref fa)) (hk : PySem.W.keepIn X.K (.ref fa) = true)
    (hb : Binds X.K fd ps []) (tk : Takes X W) (ha : SAv X W (e :: es) fs) (hn : (e :: es).length = n := by rfl) (hg : Gl X x := by rfl) (hl : fs.length = (e :: es).length := by rfl) (hdb : (x == ("__debug__" : Str)) = false := by decide)
    (he : starEach (e :: es) X.env = (false, eval e X.env) :: starEach es X.env := by rfl) (hpl : (backTo pos (starEach es X.env)).any (·.1) = false := by rfl) : SN X W (.Call (.Name x p) (e :: es) [] pos) (sCallN F fs) := by
  obtain ⟨ta, h1, h2⟩ := ha
  refine ⟨_, pe_callS FO hr hg hm hk hb (fun σ => passAt tk σ) h1 hdb he hpl, fun ρ σ G H Q rl q => ?_⟩
  refine h2 ρ σ G H _ rl ((Asks.bind q).imp fun as ρ1 G1 H1 e1 s1 q1 vs hvs => ?_)
  exact call_askN (by rw [evA_len e1, hl]; exact hn) s1.rel hvs q1
end
section
variable {X : Cx} {W : WX} {tg iter elt : Expr} {ifs : List Expr} {scope : Scope} {own : List (Str × Nat)} {ti : List Nat} {it : SemE (List D)} {t : SemG} {pt : SemE Bool} {f : SemE D} {pos : Pos}
/-- name = [..] on one line -/
theorem ss_setLc (i : Nat) {y : Str} {py spos : Pos} (hc : X.calm = true) (hN : X.N.Nodup) (hi : SI X W tg iter it) (ok : blkC X.N X.env.scope scope own = true)
    (hg : ∀ (s : Shared) (H : Hp) (C : Addr) (cl : List (Str × Addr)) (fp : List Addr), SG (X.blk s H scope (compEnvC scope cl C X.env) fp) tg ti t)
    (ht : ∀ (s : Shared) (H : Hp) (C : Addr) (cl : List (Str × Addr)) (fp : List Addr), SPt (X.blk s H scope (compEnvC scope cl C X.env) fp) ifs pt)
    (he : ∀ (s : Shared) (H : Hp) (C : Addr) (cl : List (Str × Addr)) (fp : List Addr), SE (X.blk s H scope (compEnvC scope cl C X.env) fp) (fun _ _ _ _ => False) elt f)
    (hv : ∀ i ∈ ti, i ∈ own.map (·.2) := by decide) (hs : ∀ x, foldedSetIterable iter X.env x = pure x := by intro _; rfl)
    (hy : X.N[i]? = some y := by rfl) (hyl : X.env.scope.names.lookup y = some .local := by rfl)
    (hsw : swapsWith (.ListComp elt [⟨tg, iter, ifs, 0⟩] scope pos) (some (.Name y py)) spos.line X.env = pure true := by exact sw_true rfl rfl rfl (by decide +kernel)) :
    SS X W (.Assign [.Name y py] (.ListComp elt [⟨tg, iter, ifs, 0⟩] scope pos) spos) (sAsg (sL (sLc (own.map (·.2)) it t pt f)) (gPut i)) := by
  obtain ⟨wi, i1, i2⟩ := hi
  refine ⟨_, ps_setLc (g := canG X.K ti t) (tt := canT X.K (fun _ _ _ _ => False) pt) (te := canE X.K (fun _ _ _ _ => False) f) hc hN hy hyl hsw i1 (blkOk_by ok) (fun s H C cl fp => (hg s H C cl fp).can) (fun s H C cl fp => (ht s H C cl fp).can) (fun s H C cl fp => (he s H C cl fp).can) hs, fun ρ σ G H E rl q => ?_⟩
  refine lc_sound hv i2 (fun ρ σ G H v d Q rl hd q => ⟨ρ, G, d, rl, hd, q⟩) (fun ρ σ G H Q rl q => ⟨ρ, G, rl, q⟩) (fun ρ σ G H Q rl q => ⟨ρ, G, rl, q⟩) ρ σ G H _ rl ?_
  have q : AskS X.K ρ σ G H W ((sLc (own.map (·.2)) it t pt f ρ).st fun ds ρ1 => ofPut (gPut i (.lst ds) ρ1)) E := by
    unfold sAsg sL at q
    cases r : sLc (own.map (·.2)) it t pt f ρ with
    | bad => rw [r] at q; exact q
    | exc x ρ1 => rw [r] at q; exact q
    | ok d ρ1 => rw [r] at q; exact q
  refine (Asks.stmt (k := fun ds ρ1 => ofPut (gPut i (.lst ds) ρ1)) q).imp fun ds ρ1 G1 H1 e1 s1 q1 p us hp hl => ?_
  have s2 := s1.rel.step (Grow.new (o := .lst us) s1.rel.same hp) (Same.new s1.rel.same)
  have q2 := ask_tg (is := [i]) (AskS.step s2 q1)
  unfold gPut at q2
  cases e2 : put i (.lst ds) ρ1 with
  | none => rw [e2] at q2; exact q2.elim
  | some ρ' => rw [e2] at q2; exact q2 _ (s2.rel.put (.lst upd_same (hl.mono (Same.at s1.rel.same hp))) e2) fun j hj => List.getElem?_set_ne fun z => hj (by rw [z]; exact List.mem_cons_self)
end
end Sh

/-! Sets of ints by a comprehension of two clauses, after the layer's own two-clause lists. -/
namespace Sh
open PySem PySem.Spec PyProof.Rows L2
def addK (ks : List Int) (k : Int) : List Int := if ks.contains k = true then ks else ks ++ [k]
def SetIO (w : World) (a : Addr) (ks : List Int) : HO := .ext fun h => SetR w h a (fun j => ks.contains j) ks.length
theorem setIO_new {w : World} {P : Program} {H : Hp} {h : Heap} {a : Addr} {ks : List Int} (R : SetR w h a (fun j => ks.contains j) ks.length) : ObjOk P w H h a (SetIO w a ks) := by
  have ⟨o, _, _, _, ho, _⟩ := R
  exact ⟨R, ⟨o, ho⟩, fun h1 h2 p k => SetR.at p k⟩
theorem addI_ok {X : Cx} {pins : List (Addr × Obj)} {σ : L2.St} {H : Hp} {s : Shared} {E : Value → Shared → Prop} {D : Addr} {ks : List Int} {k : Int} {u : Value} {Q : Value → Shared → Prop} (I : Inv X pins σ H s) (hD : H D = some (SetIO X.w D ks)) (room : ks.length + 1 < scanBound)
    (r : L2.RelV (.int k) u) (h : ∀ s', Inv X pins σ (upd H D (SetIO X.w D (addK ks k))) s' → Q .none s') : wpAny (model X.prog X.w) X.A (call (.builtin "set.add") [.ref D, u]) Q E s := by
  obtain ⟨t, rfl⟩ := r
  have R : SetR X.w s.heap D (fun j => ks.contains j) ks.length := (I.hok D _ hD).1
  refine setR_add R room fun h' sb new => ?_
  have new2 : SetR X.w h' D (fun j => (addK ks k).contains j) (addK ks k).length := by
    have e1 : (addK ks k).length = if ks.contains k = true then ks.length else ks.length + 1 := by
      unfold addK
      split <;> simp
    rw [e1]
    refine SetR.congr new fun j => ?_
    unfold addK
    split
    · rename_i hk
      by_cases e : j = k
      · subst e; simpa using hk
      · simp [e]
    · rw [List.contains_append]
      simp [eq_comm]
  have he : ∃ u, h'.get? D = some u := by
    have ⟨o, _, _, _, ho, _⟩ := new2
    exact ⟨o, ho⟩
  exact h _ (I.write (e := D) (t' := s.toks + 1) (by rw [hD]; trivial) (.inl rfl) (fun b u hb hu => (sb.2 b hb).trans hu) he (setIO_new new2))
section
variable {prog : Program} {w : World} {A : Around} {R : Result → Shared → Prop} {s : Shared} {elt t0 i0 t1 i1 : Expr} {ifs0 ifs1 : List Expr} {scope : Scope} {pos : Pos} {it acc : Value} {env : Env}
/-- the loop of the first clause -/
theorem scLoop_out (hs : ∀ x, foldedSetIterable i1 env x = pure x) (I : Nat → Shared → Prop)
    (turn : ∀ n s, I n s → wpAny (model prog w) A (pyNext it) (fun r s₁ => match r with
      | none => R (.ok .next) s₁
      | some v => wpAny (model prog w) A (letOwnedTupleGo t0 it v) (fun _ s₁' => wpAny (model prog w) A (assign t0 env v) (fun _ s₂ =>
          wpAny (model prog w) A (forIn ifs0 true fun c r => if r = true then do let ok ← isTrue c env (eval c env); pure (ForInStep.yield ok) else pure (ForInStep.yield r)) (fun ok s₃ =>
            if ok = true then wpAny (model prog w) A (eval i1 env) (fun x s₄ => wpAny (model prog w) A (pyIter x) (fun it1 s₅ =>
              codeAny (model prog w) A (.compStart (.SetComp elt [⟨t0, i0, ifs0, 0⟩, ⟨t1, i1, ifs1, 0⟩] scope pos) 1 it1 acc env) (fun r s' => match r with
                | .ok _ => ∃ m, m < n ∧ I m s'
                | .error _ => False) s₅) (notedBy (model prog w) A env fun e s' => R (.error e) s') s₄) (notedBy (model prog w) A env fun e s' => R (.error e) s') s₃
            else ∃ m, m < n ∧ I m s₃) (notedBy (model prog w) A env fun e s' => R (.error e) s') s₂) (notedBy (model prog w) A env fun e s' => R (.error e) s') s₁') (notedBy (model prog w) A env fun e s' => R (.error e) s') s₁) (notedBy (model prog w) A env fun e s' => R (.error e) s') s)
    (n : Nat) (h : I n s) :
    codeAny (model prog w) A (.compLoop (.SetComp elt [⟨t0, i0, ifs0, 0⟩, ⟨t1, i1, ifs1, 0⟩] scope pos) 0 it acc env) R s := by
  refine codeAny_loop rfl I (fun n s hI => ?_) n h
  show wpAny _ A ((compTurn (.SetComp elt [⟨t0, i0, ifs0, 0⟩, ⟨t1, i1, ifs1, 0⟩] scope pos) 0 it acc env).onRaise (fun x => do noteFrame x env; theTreesLotGoes x)) _ _ s
  refine wpAny_noted ?_
  refine wpAny_bind (wpAny_standAt (wpAny_bind (wpAny_mono (turn n s hI) (fun r s₁ h₁ => ?_) fun _ _ h' => h')))
  cases r with
  | none => exact wpAny_pure h₁
  | some v =>
    refine wpAny_bind (wpAny_mono h₁ (fun _ s₁' h₁' => ?_) fun _ _ h' => h')
    refine wpAny_bind (wpAny_mono h₁' (fun _ s₂ h₂ => wpAny_bind (wpAny_mono h₂ (fun ok s₃ h₃ => ?_) fun _ _ h' => h')) fun _ _ h' => h')
    cases ok with
    | false => exact wpAny_pure ⟨rfl, h₃⟩
    | true =>
      refine wpAny_bind (wpAny_mono h₃ (fun x s₄ h₄ => ?_) fun _ _ h' => h')
      refine wpAny_bind (wpAny_standAt (wpAny_bind (wpAny_of_eq (hs x) (wpAny_bind (wpAny_holding (wpAny_mono h₄ (fun it1 s₅ h₅ => ?_) fun _ _ h' => h'))))))
      refine wpAny_bind (wpAny_runOwn ?_)
      rw [Around.mark_none]
      refine codeAny_mono h₅ fun r s' hr => ?_
      cases r with
      | ok f =>
        first
          | exact wpAny_pure ⟨rfl, hr⟩
          | exact wpAny_bind (wpAny_pure (wpAny_pure ⟨rfl, hr⟩))
      | error e => exact hr.elim
/-- the loop of the second -/
theorem scLoop_in (I : Nat → Shared → Prop)
    (turn : ∀ n s, I n s → wpAny (model prog w) A (pyNext it) (fun r s₁ => match r with
      | none => R (.ok .next) s₁
      | some v => wpAny (model prog w) A (letOwnedTupleGo t1 it v) (fun _ s₁' => wpAny (model prog w) A (assign t1 env v) (fun _ s₂ =>
          wpAny (model prog w) A (forIn ifs1 true fun c r => if r = true then do let ok ← isTrue c env (eval c env); pure (ForInStep.yield ok) else pure (ForInStep.yield r)) (fun ok s₃ =>
            if ok = true then wpAny (model prog w) A (eval elt env) (fun x s₄ =>
              wpAny (model prog w) A (call (.builtin "set.add") [acc, x]) (fun _ s₅ => ∃ m, m < n ∧ I m s₅) (notedBy (model prog w) A env fun e s' => R (.error e) s') s₄) (notedBy (model prog w) A env fun e s' => R (.error e) s') s₃
            else ∃ m, m < n ∧ I m s₃) (notedBy (model prog w) A env fun e s' => R (.error e) s') s₂) (notedBy (model prog w) A env fun e s' => R (.error e) s') s₁') (notedBy (model prog w) A env fun e s' => R (.error e) s') s₁) (notedBy (model prog w) A env fun e s' => R (.error e) s') s)
    (n : Nat) (h : I n s) :
    codeAny (model prog w) A (.compLoop (.SetComp elt [⟨t0, i0, ifs0, 0⟩, ⟨t1, i1, ifs1, 0⟩] scope pos) 1 it acc env) R s := by
  refine codeAny_loop rfl I (fun n s hI => ?_) n h
  show wpAny _ A ((compTurn (.SetComp elt [⟨t0, i0, ifs0, 0⟩, ⟨t1, i1, ifs1, 0⟩] scope pos) 1 it acc env).onRaise (fun x => do noteFrame x env; theTreesLotGoes x)) _ _ s
  refine wpAny_noted ?_
  refine wpAny_bind (wpAny_standAt (wpAny_bind (wpAny_mono (turn n s hI) (fun r s₁ h₁ => ?_) fun _ _ h' => h')))
  cases r with
  | none => exact wpAny_pure h₁
  | some v =>
    refine wpAny_bind (wpAny_mono h₁ (fun _ s₁' h₁' => ?_) fun _ _ h' => h')
    refine wpAny_bind (wpAny_mono h₁' (fun _ s₂ h₂ => wpAny_bind (wpAny_mono h₂ (fun ok s₃ h₃ => ?_) fun _ _ h' => h')) fun _ _ h' => h')
    cases ok with
    | false => exact wpAny_pure ⟨rfl, h₃⟩
    | true =>
      exact wpAny_bind (wpAny_bind (wpAny_mono h₃ (fun x s₄ h₄ => wpAny_bind (wpAny_standAt (wpAny_bind (wpAny_mono h₄ (fun _ s₅ h₅ => wpAny_pure (wpAny_pure ⟨rfl, h₅⟩)) fun _ _ h' => h')))) fun _ _ h' => h'))
/-- the second clause's start -/
theorem scStart_ok (h0 : codeAny (model prog w) A (.compLoop (.SetComp elt [⟨t0, i0, ifs0, 0⟩, ⟨t1, i1, ifs1, 0⟩] scope pos) 1 it acc env) R s)
    (h : wpAny (model prog w) A (pyIter it) (fun it' s' => codeAny (model prog w) A (.compLoop (.SetComp elt [⟨t0, i0, ifs0, 0⟩, ⟨t1, i1, ifs1, 0⟩] scope pos) 1 it' acc env) R s')
      (notedBy (model prog w) A env fun x s' => R (.error x) s') s) :
    codeAny (model prog w) A (.compStart (.SetComp elt [⟨t0, i0, ifs0, 0⟩, ⟨t1, i1, ifs1, 0⟩] scope pos) 1 it acc env) R s := by
  refine codeAny_of_tree ?_
  show wpAny _ _ ((compStart (.SetComp elt [⟨t0, i0, ifs0, 0⟩, ⟨t1, i1, ifs1, 0⟩] scope pos) 1 it acc env).onRaise (fun x => do noteFrame x env; standAt theWindowsPlace)) _ _ s
  refine wpAny_notedAt ?_
  unfold compStart
  show wpAny _ _ (ask >>= _) _ _ s
  refine wpAny_bind (wpAny_askSetting (wpAny_ite ?_))
  split
  · first
      | exact wpAny_bind (wpAny_pure (wpAny_pure (And.intro rfl h0)))
      | exact wpAny_pure (And.intro rfl h0)
  · first
      | exact wpAny_bind (wpAny_rule (wpAny_bind (wpAny_standAt (wpAny_bind (wpAny_mono h (fun it' s' h' => wpAny_pure (And.intro rfl h')) fun _ _ x => x)))))
section
variable {X : Cx}
def tSc2 (w : World) (wi : TI) (g : TG) (tt : TT) (wi1 : TI) (g1 : TG) (tt1 : TT) (te : TE) (vs vs1 : List Nat) : TE := fun σ H Q => wi σ H fun J H1 => ∀ D, H1 D = none → ∃ W : Nat → Nat → Hp → Prop, (∃ m, W 0 m (upd H1 D (SetIO w D []))) ∧ ∀ i m H, W i m H →
  (J.stop i H ∧ Q (.ref D) H) ∨ (J.go i H ∧ ∃ Nx : Hp → Prop, (∀ H', Nx H' → ∃ m', m' < m ∧ W (i + 1) m' H') ∧ ∀ x H', J.yld i H x H' → g x (wipe σ vs) H' fun σ2 H2 => wipe σ2 vs = wipe σ vs ∧ tt σ2 H2 fun b H3 =>
    if b = true then wi1 σ2 H3 fun J1 H4 => ∃ W1 : Nat → Nat → Hp → Prop, (∃ m, W1 0 m H4) ∧ ∀ j k H, W1 j k H →
      (J1.stop j H ∧ Nx H) ∨ (J1.go j H ∧ ∃ Nx1 : Hp → Prop, (∀ H', Nx1 H' → ∃ k', k' < k ∧ W1 (j + 1) k' H') ∧ ∀ x H', J1.yld j H x H' → g1 x (wipe σ2 vs1) H' fun σ3 H5 => wipe σ3 vs1 = wipe σ2 vs1 ∧ tt1 σ3 H5 fun b H6 =>
        if b = true then te σ3 H6 fun y H7 => ∃ (k : Int) (ks : List Int), y = .int k ∧ H7 D = some (SetIO w D ks) ∧ ks.length + 1 < scanBound ∧ Nx1 (upd H7 D (SetIO w D (addK ks k))) else Nx1 H6)
    else Nx H3)
theorem sc2_core {pins : List (Addr × Obj)} {s : Shared} {σ   : L2.St} {H : Hp} {Q : VK} {elt tg iter tg1 iter1 : Expr} {ifs ifs1 : List Expr} {scope : Scope} {own : List (Str × Nat)} {vs1 : List Nat} {pos pos' : Pos} {wi wi1 : TI} {g g1 : TG} {tt tt1 : TT} {te : TE} {use : Option (Value → Sem Unit)} {Qf : Value → Shared → Prop}
    (hc : X.calm = true) (hN : X.N.Nodup) (I : Inv X pins σ H s) (hi : PI X tg iter wi) (ok : BlkOk X.N X.env.scope scope own) (hv : ∀ i ∈ vs1, i ∈ own.map (·.2))
    (hg : ∀ (s : Shared) (H : Hp) (C : Addr) (cl : List (Str × Addr)) (fp : List Addr), PG (X.blk s H scope (compEnvC scope cl C X.env) fp) tg g) (ht : ∀ (s : Shared) (H : Hp) (C : Addr) (cl : List (Str × Addr)) (fp : List Addr), PTs (X.blk s H scope (compEnvC scope cl C X.env) fp) ifs tt)
    (he : ∀ (s : Shared) (H : Hp) (C : Addr) (cl : List (Str × Addr)) (fp : List Addr), PE (X.blk s H scope (compEnvC scope cl C X.env) fp) elt te) (hs : ∀ x, foldedSetIterable iter X.env x = pure x)
    (hi1 : ∀ (s : Shared) (H : Hp) (C : Addr) (cl : List (Str × Addr)) (fp : List Addr), PI (X.blk s H scope (compEnvC scope cl C X.env) fp) tg1 iter1 wi1)
    (hg1 : ∀ (s : Shared) (H : Hp) (C : Addr) (cl : List (Str × Addr)) (fp : List Addr), PG (X.blk s H scope (compEnvC scope cl C X.env) fp) tg1 g1)
    (ht1 : ∀ (s : Shared) (H : Hp) (C : Addr) (cl : List (Str × Addr)) (fp : List Addr), PTs (X.blk s H scope (compEnvC scope cl C X.env) fp) ifs1 tt1)
    (hs1 : ∀ env x, foldedSetIterable iter1 env x = pure x)
    (h : tSc2 X.w wi g tt wi1 g1 tt1 te (own.map (·.2)) vs1 σ H Q)
    (hRR : ∀ D C s' m H', Inv X pins σ H' s' → Q (.ref D) H' → s'.heap.Ns C m → FpOk X pins H' C → compPost (model X.prog X.w) X.A X.xe use Qf (.ref D) C (.ok .next) s') :
    wpAny (model X.prog X.w) X.A (comprehension (.SetComp elt [⟨tg, iter, ifs, 0⟩, ⟨tg1, iter1, ifs1, 0⟩] scope pos) scope X.env pos' (newSet (.type "set")) false (eval iter X.env) use) Qf X.xe s := by
  have hfree : ∀ y ∈ scope.names, y.2 = .free → ∃ c, X.env.cells.lookup y.1 = some c := fun y hy e => by
    rcases ok.free y hy e with k | k
    · exact I.ok.has _ (.inl k)
    · exact I.ok.has _ (.inr k)
  refine wpAny_comprehension_free (use := use) rfl hs (closure_ok hfree) ok.kind (fun y hy e => by rw [ok.uniq y hy, e])
    (thn (hi.run pins s σ H _ I h) fun xv s1 hx => thn hx fun itv s2 h2 => ?_)
  obtain ⟨it, fp, tn, J, H2, e, I2, T, st2, f2, q⟩ := h2
  subst e
  refine PpSet.newSet_ok (newEnv_comp ?_)
  generalize hD : s2.heap.objs.size = D
  have hDn : H2 D = none := I2.hok.fresh (Nat.le_of_eq hD)
  obtain ⟨W, ⟨m0, w0⟩, turn⟩ := q D hDn
  -- the new list
  generalize hs3 : ({ s2 with heap := s2.heap.push { cls := .type "set", dict := none, data := .set #[] 0 (.fresh 0 0 (!X.w.params.followText "set-order")) } } : Shared) = s3
  have I3 : Inv X pins σ (upd H2 D (SetIO X.w D [])) s3 := by
    rw [← hs3]
    refine I2.laid (t' := s2.toks) (fun b o e => Heap.get?_push_of_some _ e) (Nat.le_of_eq hD) ?_
    rw [← hD]
    exact setIO_new (setR_fresh X.w)
  have h3 : s3.heap = s2.heap.push { cls := .type "set", dict := none, data := .set #[] 0 (.fresh 0 0 (!X.w.params.followText "set-order")) } := by rw [← hs3]
  have sz : ∀ b ∈ fp, b < s2.heap.objs.size := fun b hb => by
    obtain ⟨o, e, _⟩ := T.obj _ _ st2 b hb
    exact Heap.lt_size e
  have f3 : ∀ b ∈ fp, FpOk X pins (upd H2 D (SetIO X.w D [])) b ∧ b < s3.heap.objs.size := fun b hb => by
    have hlt := sz b hb
    refine ⟨⟨?_, (f2 b hb).2⟩, by rw [h3, Heap.size_push]; exact Nat.lt_succ_of_lt hlt⟩
    rw [upd_ne (by rw [← hD]; exact Nat.ne_of_lt hlt)]
    exact (f2 b hb).1
  have st3 : tn 0 s3.heap := T.keep _ _ _ st2 fun b _ o e => by rw [h3]; exact Heap.get?_push_of_some _ e
  have I4 := block_start I3 ok hN f3
  have pg := hg s3 (upd H2 D (SetIO X.w D [])) s3.heap.objs.size (cellsFrom (s3.heap.objs.size + 1) scope.names (cloFrom X.env.cells scope.names [])) fp
  have pt := ht s3 (upd H2 D (SetIO X.w D [])) s3.heap.objs.size (cellsFrom (s3.heap.objs.size + 1) scope.names (cloFrom X.env.cells scope.names [])) fp
  have pe := he s3 (upd H2 D (SetIO X.w D [])) s3.heap.objs.size (cellsFrom (s3.heap.objs.size + 1) scope.names (cloFrom X.env.cells scope.names [])) fp
  have pi1 := hi1 s3 (upd H2 D (SetIO X.w D [])) s3.heap.objs.size (cellsFrom (s3.heap.objs.size + 1) scope.names (cloFrom X.env.cells scope.names [])) fp
  have pg1 := hg1 s3 (upd H2 D (SetIO X.w D [])) s3.heap.objs.size (cellsFrom (s3.heap.objs.size + 1) scope.names (cloFrom X.env.cells scope.names [])) fp
  have pt1 := ht1 s3 (upd H2 D (SetIO X.w D [])) s3.heap.objs.size (cellsFrom (s3.heap.objs.size + 1) scope.names (cloFrom X.env.cells scope.names [])) fp
  show codeAny _ _ (.compStart (.SetComp elt [⟨tg, iter, ifs, 0⟩, ⟨tg1, iter1, ifs1, 0⟩] scope pos) 0 (.ref it) (.ref D) (compEnvC scope (cellsFrom (s3.heap.objs.size + 1) scope.names (cloFrom X.env.cells scope.names [])) s3.heap.objs.size X.env)) (compPost (model X.prog X.w) X.A X.xe use Qf (.ref D) s3.heap.objs.size) { s3 with heap := pushCells (s3.heap.push { cls := .type "dict", data := .dict #[] }) scope.names }
  have nfp : ∀ b ∈ fp, (upd H2 D (SetIO X.w D [])) b = none := fun b hb => (f3 b hb).1.1
  generalize hce : compEnvC scope (cellsFrom (s3.heap.objs.size + 1) scope.names (cloFrom X.env.cells scope.names [])) s3.heap.objs.size X.env = ce at I4 pg pt pe pi1 pg1 pt1 ⊢
  have cL : ce.locals = s3.heap.objs.size := by subst hce; rfl
  generalize hH3 : upd H2 D (SetIO X.w D []) = H3 at I3 I4 pg pt pe pi1 pg1 pt1 w0 nfp f3
  generalize hs4 : ({ s3 with heap := pushCells (s3.heap.push { cls := .type "dict", data := .dict #[] }) scope.names } : Shared) = s4 at I4 ⊢
  have st4 : tn 0 s4.heap := T.keep _ _ _ st3 fun b _ o e => by rw [← hs4]; exact pushCells_keeps _ _ _ _ (Heap.get?_push_of_some _ e)
  have stat : ∀ {σ'   : L2.St} {H' : Hp} {s' : Shared}, Inv (X.blk s3 H3 scope ce fp) [] σ' H' s' → (∀ b ∈ fp, H' b = none) → ∀ b ∈ fp, FpOk (X.blk s3 H3 scope ce fp) [] H' b := fun {σ' H' s'} I' hn b hb =>
    ⟨hn b hb, (I'.ok.exf b hb).1, I'.ok.exfs b hb, .inl hb, fun x c e => (I'.ok.exf b hb).2 x c e, fun p hp => absurd (show p ∈ ([] : List (Addr × Obj)) ++ [] from hp) (by simp)⟩
  have loop : codeAny (model X.prog X.w) X.A (.compLoop (.SetComp elt [⟨tg, iter, ifs, 0⟩, ⟨tg1, iter1, ifs1, 0⟩] scope pos) 0 (.ref it) (.ref D) ce) (compPost (model X.prog X.w) X.A X.xe use Qf (.ref D) s3.heap.objs.size) s4 := by
    refine scLoop_out (hs1 ce) (fun n s' => ∃ i H', Inv (X.blk s3 H3 scope ce fp) [] (wipe σ (own.map (·.2))) H' s' ∧ tn i s'.heap ∧ (∀ b ∈ fp, H' b = none) ∧ W i n H') ?_ m0 ⟨0, H3, I4, st4, nfp, w0⟩
    rintro n s5 ⟨i, H5, I5, st5, n5, w5⟩
    rcases turn i n H5 w5 with ⟨stop, qq⟩ | ⟨go, Nx, hNx, step⟩
    · have td := T.done (X.blk s3 H3 scope ce fp) rfl rfl rfl hc i [] s5 _ H5 (fun _ _ => False) I5 (stat I5 n5) st5 stop
      refine thnF td fun r s6 ⟨hr, I6⟩ => ?_
      subst hr
      -- back in the def's context
      have I7 : Inv X pins σ H5 s6 := I3.call' (ch := fp) I6.os I6.base I6.hok I6.bare fun b hb => ⟨(f3 b hb).1.2.2.2.1, (f3 b hb).1.2.1, (f3 b hb).1.2.2.2.2.1, (f3 b hb).1.2.2.2.2.2⟩
      have nC : H5 s3.heap.objs.size = none := by
        have z : H5 ce.locals = none := I6.free
        rw [cL] at z
        exact z
      obtain ⟨m, hn, _⟩ := I6.loc
      have hn : s6.heap.Ns ce.locals m := hn
      rw [cL] at hn
      exact hRR D s3.heap.objs.size s6 m H5 I7 qq hn (I3.fpOk (Nat.le_refl _) nC)
    · have ti := T.item (X.blk s3 H3 scope ce fp) rfl rfl rfl hc i [] s5 _ H5 (fun _ _ => False) I5 (stat I5 n5) st5 go
      refine thnF ti fun r s6 ⟨u, hr, h6⟩ => ?_
      subst hr
      refine thnF h6 fun _ s7 ⟨x, H7, I7, r7, y7, st7, n7⟩ => ?_
      have I7' := I7.pinned (stat I7 n7) (T.obj _ _ st7)
      refine thnF (pg.run _ s7 _ H7 x u _ I7' r7 (step x H7 y7)) fun _ s8 ⟨σ8, H8, I8, hw8, q8⟩ => ?_
      refine thnF (pt.run _ s8 σ8 H8 _ I8 q8) fun b s9 ⟨H9, I9, q9⟩ => ?_
      -- the turn's end, from any slots that know what the block knew at its start
      have fin : ∀ {σ9   : L2.St} {s' : Shared} {H' : Hp}, Inv (X.blk s3 H3 scope ce fp) ([] ++ pinsAt fp s7.heap) σ9 H' s' → (wipe σ (own.map (·.2))).length = σ9.length → (∀ (j : Nat) v, (wipe σ (own.map (·.2)))[j]? = some (some v) → σ9[j]? = some (some v)) → Nx H' →
          ∃ m, m < n ∧ ∃ i H', Inv (X.blk s3 H3 scope ce fp) [] (wipe σ (own.map (·.2))) H' s' ∧ tn i s'.heap ∧ (∀ b ∈ fp, H' b = none) ∧ W i m H' := fun {σ9 s' H'} I' hl hk nx => by
        obtain ⟨m', hm, w'⟩ := hNx H' nx
        have pin' : ∀ b ∈ fp, ∀ o, s7.heap.get? b = some o → s'.heap.get? b = some o ∧ H' b = none := fun b hb o e =>
          let z := I'.pin (b, o) (List.mem_append_right _ (List.mem_append_right _ (mem_pinsAt hb e)))
          ⟨z.1, z.2.1⟩
        refine ⟨m', hm, i + 1, H', (I'.unpinned (pins := [])).weak hl hk, T.keep _ _ _ st7 fun b hb o e => (pin' b hb o e).1, fun b hb => ?_, w'⟩
        obtain ⟨o, e, _⟩ := T.obj _ _ st7 b hb
        exact (pin' b hb o e).2
      have hl8 : (wipe σ (own.map (·.2))).length = σ8.length := by rw [← hw8, wipe_length]
      have hk8 : ∀ (j : Nat) v, (wipe σ (own.map (·.2)))[j]? = some (some v) → σ8[j]? = some (some v) := fun j v e => by
        rw [← hw8] at e
        exact (wipe_some e).1
      have hk9 : ∀ (j : Nat) v, (wipe σ (own.map (·.2)))[j]? = some (some v) → (wipe σ8 vs1)[j]? = some (some v) := fun j v e => by
        rw [← hw8] at e
        obtain ⟨e1, e2⟩ := wipe_some e
        rw [wipe_out fun z => e2 (hv j z)]
        exact e1
      cases b with
      | false =>
        simp only [Bool.false_eq_true, if_false] at q9 ⊢
        exact fin I9 hl8 hk8 q9
      | true =>
        simp only [if_true] at q9 ⊢
        refine thnF (pi1.run _ s9 σ8 H9 _ I9 q9) fun xv s10 hx => thnF hx fun itv s11 h11 => ?_
        obtain ⟨it1, fp1, tn1, J1, H11, e1, I11, T1, st11, f11, W1, ⟨m1, w1⟩, turn1⟩ := h11
        subst e1
        -- the inner loop
        have stat1 : ∀ {H' : Hp}, (∀ b ∈ fp1, H' b = none) → ∀ b ∈ fp1, FpOk (X.blk s3 H3 scope ce fp) ([] ++ pinsAt fp s7.heap) H' b := fun hn b hb => ⟨hn b hb, (f11 b hb).2⟩
        have loop1 : codeAny (model X.prog X.w) X.A (.compLoop (.SetComp elt [⟨tg, iter, ifs, 0⟩, ⟨tg1, iter1, ifs1, 0⟩] scope pos) 1 (.ref it1) (.ref D) ce)
            (fun r s' => match r with
              | .ok _ => ∃ m, m < n ∧ ∃ i H', Inv (X.blk s3 H3 scope ce fp) [] (wipe σ (own.map (·.2))) H' s' ∧ tn i s'.heap ∧ (∀ b ∈ fp, H' b = none) ∧ W i m H'
              | .error _ => False) s11 := by
          refine scLoop_in (fun k s' => ∃ j H', Inv (X.blk s3 H3 scope ce fp) ([] ++ pinsAt fp s7.heap) (wipe σ8 vs1) H' s' ∧ tn1 j s'.heap ∧ (∀ b ∈ fp1, H' b = none) ∧ W1 j k H') ?_ m1 ⟨0, H11, I11.weak (wipe_length _ _) (fun j v e => (wipe_some e).1), st11, fun b hb => (f11 b hb).1, w1⟩
          rintro k s12 ⟨j, H12, I12, st12, n12, w12⟩
          rcases turn1 j k H12 w12 with ⟨stop1, nx1⟩ | ⟨go1, Nx1, hNx1, step1⟩
          · refine thnF (T1.done (X.blk s3 H3 scope ce fp) rfl rfl rfl hc j _ s12 (wipe σ8 vs1) H12 (fun _ _ => False) I12 (stat1 n12) st12 stop1) fun r s13 ⟨hr, I13⟩ => ?_
            subst hr
            exact fin I13 (hl8.trans (wipe_length σ8 vs1).symm) hk9 nx1
          · refine thnF (T1.item (X.blk s3 H3 scope ce fp) rfl rfl rfl hc j _ s12 (wipe σ8 vs1) H12 (fun _ _ => False) I12 (stat1 n12) st12 go1) fun r s13 ⟨u1, hr, h13⟩ => ?_
            subst hr
            refine thnF h13 fun _ s14 ⟨x1, H14, I14, r14, y14, st14, n14⟩ => ?_
            have I14' := I14.pinned (stat1 n14) (T1.obj _ _ st14)
            refine thnF (pg1.run _ s14 (wipe σ8 vs1) H14 x1 u1 _ I14' r14 (step1 x1 H14 y14)) fun _ s15 ⟨σ15, H15, I15, hw15, q15⟩ => ?_
            refine thnF (pt1.run _ s15 σ15 H15 _ I15 q15) fun b1 s16 ⟨H16, I16, q16⟩ => ?_
            have fin1 : ∀ {s' : Shared} {H' : Hp}, Inv (X.blk s3 H3 scope ce fp) (([] ++ pinsAt fp s7.heap) ++ pinsAt fp1 s14.heap) σ15 H' s' → Nx1 H' → ∃ m, m < k ∧ ∃ j H', Inv (X.blk s3 H3 scope ce fp) ([] ++ pinsAt fp s7.heap) (wipe σ8 vs1) H' s' ∧ tn1 j s'.heap ∧ (∀ b ∈ fp1, H' b = none) ∧ W1 j m H' := fun {s' H'} I' nx => by
              obtain ⟨m', hm, w'⟩ := hNx1 H' nx
              have pin' : ∀ b ∈ fp1, ∀ o, s14.heap.get? b = some o → s'.heap.get? b = some o ∧ H' b = none := fun b hb o e =>
                let z := I'.pin (b, o) (List.mem_append_right _ (List.mem_append_right _ (mem_pinsAt hb e)))
                ⟨z.1, z.2.1⟩
              refine ⟨m', hm, j + 1, H', I'.unpinned.weak (by rw [← hw15, wipe_length]) (fun j v e => by rw [← hw15] at e; exact (wipe_some e).1), T1.keep _ _ _ st14 fun b hb o e => (pin' b hb o e).1, fun b hb => ?_, w'⟩
              obtain ⟨o, e, _⟩ := T1.obj _ _ st14 b hb
              exact (pin' b hb o e).2
            cases b1 with
            | false =>
              simp only [Bool.false_eq_true, if_false] at q16 ⊢
              exact fin1 I16 q16
            | true =>
              simp only [if_true] at q16 ⊢
              refine thnF (pe.run _ s16 σ15 H16 _ I16 q16) fun z s17 ⟨yv, H17, I17, r17, kk, ks, ey, hD17, hz17, nx⟩ => ?_
              subst ey
              exact addI_ok (X := X.blk s3 H3 scope ce fp) I17 hD17 hz17 r17 fun s18 I18 => fin1 I18 nx
        exact scStart_ok loop1 (T1.self X.A 0 _ _ _ st11 loop1)
  exact PpSet.codeAny_compStart_set loop (T.self X.A 0 _ _ _ st4 loop)
/-- as a value -/
theorem pe_sc2 {elt tg iter tg1 iter1 : Expr} {ifs ifs1 : List Expr} {scope : Scope} {own : List (Str × Nat)} {vs1 : List Nat} {pos : Pos} {wi wi1 : TI} {g g1 : TG} {tt tt1 : TT} {te : TE} (hc : X.calm = true) (hN : X.N.Nodup) (hi : PI X tg iter wi) (ok : BlkOk X.N X.env.scope scope own) (hv : ∀ i ∈ vs1, i ∈ own.map (·.2))
    (hg : ∀ (s : Shared) (H : Hp) (C : Addr) (cl : List (Str × Addr)) (fp : List Addr), PG (X.blk s H scope (compEnvC scope cl C X.env) fp) tg g) (ht : ∀ (s : Shared) (H : Hp) (C : Addr) (cl : List (Str × Addr)) (fp : List Addr), PTs (X.blk s H scope (compEnvC scope cl C X.env) fp) ifs tt)
    (hi1 : ∀ (s : Shared) (H : Hp) (C : Addr) (cl : List (Str × Addr)) (fp : List Addr), PI (X.blk s H scope (compEnvC scope cl C X.env) fp) tg1 iter1 wi1)
    (hg1 : ∀ (s : Shared) (H : Hp) (C : Addr) (cl : List (Str × Addr)) (fp : List Addr), PG (X.blk s H scope (compEnvC scope cl C X.env) fp) tg1 g1) (ht1 : ∀ (s : Shared) (H : Hp) (C : Addr) (cl : List (Str × Addr)) (fp : List Addr), PTs (X.blk s H scope (compEnvC scope cl C X.env) fp) ifs1 tt1)
    (he : ∀ (s : Shared) (H : Hp) (C : Addr) (cl : List (Str × Addr)) (fp : List Addr), PE (X.blk s H scope (compEnvC scope cl C X.env) fp) elt te) (hs : ∀ x, foldedSetIterable iter X.env x = pure x := by intro _; rfl) (hs1 : ∀ env x, foldedSetIterable iter1 env x = pure x := by intro _ _; rfl) :
    PE X (.SetComp elt [⟨tg, iter, ifs, 0⟩, ⟨tg1, iter1, ifs1, 0⟩] scope pos) (tSc2 X.w wi g tt wi1 g1 tt1 te (own.map (·.2)) vs1) := by
  refine ⟨fun pins s σ H Q I h => ?_⟩
  rw [PpSet.eval_SetComp]
  refine sc2_core hc hN I hi ok hv hg ht he hs hi1 hg1 ht1 hs1 h fun D C s' m H' I' q hn f => ⟨m, hn, fun h'' sb => ?_⟩
  obtain ⟨f0, f1, f2, f3, f4, f5⟩ := f
  exact ⟨.ref D, H', I'.turned (t' := s'.toks) (fun b o hb e => (sb.2 b hb).trans e) f0 f1 f3 f4 f5, rfl, q⟩
end
end
end Sh

/-! Sets of ints by two clauses, as a meaning. -/
namespace Sh
open PySem PySem.Spec PyProof.Rows L2
def nx {α β : Type} (r : Res α) (k : α → List Sl → Res β) : Res β := match r with
  | .ok a ρ => k a ρ
  | _ => .bad
@[simp] theorem nx_ok {α β : Type} (a : α) (ρ : List Sl) (k : α → List Sl → Res β) : nx (.ok a ρ) k = k a ρ := rfl
@[simp] theorem nx_exc {α β : Type} (x : Ex) (ρ : List Sl) (k : α → List Sl → Res β) : nx (.exc x ρ : Res α) k = .bad := rfl
@[simp] theorem nx_bad {α β : Type} (k : α → List Sl → Res β) : nx (.bad : Res α) k = .bad := rfl
def tgB {β : Type} (r : Option (List Sl)) (k : List Sl → Res β) : Res β := match r with
  | some ρ => k ρ
  | none => .bad
@[simp] theorem tgB_some {β : Type} (ρ : List Sl) (k : List Sl → Res β) : tgB (some ρ) k = k ρ := rfl
@[simp] theorem tgB_none {β : Type} (k : List Sl → Res β) : tgB none k = .bad := rfl
def setPut (acc : List Int) (y : D) (k : List Int → Res (List Int)) : Res (List Int) := match y with
  | .int i => if acc.length < 60 then k (addK acc i) else .bad
  | _ => .bad
def setIn (vs vs1 : List Nat) (t : SemG) (f : SemE D) : List D → List Int → List Sl → Res (List Int)
  | [], acc, ρ => .ok acc ρ
  | d :: ds, acc, ρ => if noOwn vs ρ = true then tgB (t d ρ) fun ρ1 => nx (f ρ1) fun y ρ2 => setPut acc y fun a => setIn vs vs1 t f ds a (blank vs1 ρ2) else .bad
def setOut (vs vs1 : List Nat) (t : SemG) (it : SemE (List D)) (t1 : SemG) (f : SemE D) : List D → List Int → List Sl → Res (List Int)
  | [], acc, ρ => .ok acc ρ
  | d :: ds, acc, ρ => tgB (t d ρ) fun ρ1 => nx (it ρ1) fun es ρ2 => nx (setIn vs vs1 t1 f es acc (blank vs1 ρ2)) fun a ρ3 => setOut vs vs1 t it t1 f ds a (blank vs ρ3)
def sSc2 (vs vs1 : List Nat) (it : SemE (List D)) (t : SemG) (it1 : SemE (List D)) (t1 : SemG) (f : SemE D) : SemE (List Int) := fun ρ => (it ρ).bind fun ds ρ1 =>
  if noOwn vs ρ1 = true then nx (setOut vs vs1 t it1 t1 f ds [] (blank vs ρ1)) fun acc ρ2 => .ok acc (merge vs ρ1 ρ2) else .bad
theorem blank_blank {vs vs1 : List Nat} (hv : ∀ i ∈ vs1, i ∈ vs) (ρ : List Sl) : blank vs (blank vs1 ρ) = blank vs ρ := by
  apply List.ext_getElem?
  intro i
  by_cases hi : i ∈ vs
  · unfold blank
    simp only [List.getElem?_mapIdx]
    cases ρ[i]? with
    | none => rfl
    | some x => simp [hi]
  · rw [blank_out hi, blank_out fun z => hi (hv i z), blank_out hi]
theorem wipe_wipe {vs vs1 : List Nat} (hv : ∀ i ∈ vs1, i ∈ vs) (σ : Sg) : wipe (wipe σ vs1) vs = wipe σ vs := by
  apply List.ext_getElem?
  intro i
  by_cases hi : i ∈ vs
  · by_cases hl : i < σ.length
    · rw [wipe_in hi (by rw [wipe_length]; exact hl), wipe_in hi hl]
    · rw [List.getElem?_eq_none (by rw [wipe_length, wipe_length]; omega), List.getElem?_eq_none (by rw [wipe_length]; omega)]
  · rw [wipe_out hi, wipe_out hi, wipe_out fun z => hi (hv i z)]
theorem own_in {ρ : List Sl} {τ : Sg} {vs : List Nat} (no : noOwn vs ρ = true) {a : Addr} (z : Own ρ τ a) : Own (blank vs ρ) (wipe τ vs) a := by
  obtain ⟨i, q, m, e1, e2⟩ := z
  have hi : i ∉ vs := fun hi => by
    obtain ⟨s, f1, f2⟩ := noOwn_get no hi
    rw [e1] at f1
    exact f2 q m (Option.some.inj f1).symm
  exact ⟨i, q, m, by rw [blank_out hi]; exact e1, by rw [wipe_out hi]; exact e2⟩
theorem own_out {ρ : List Sl} {τ : Sg} {vs : List Nat} {a : Addr} (z : Own (blank vs ρ) (wipe τ vs) a) : Own ρ τ a := by
  obtain ⟨i, q, m, e1, e2⟩ := z
  by_cases hi : i ∈ vs
  · cases blank_in hi e1
  · rw [blank_out hi] at e1; rw [wipe_out hi] at e2; exact ⟨i, q, m, e1, e2⟩
theorem Step.blank2 {K : PySem.W.Frag} {ρ ρ' : List Sl} {τ : Sg} {G A G' A' : Hp} {vs : List Nat} (s : Step K ρ τ G A ρ' τ G' A') (no : noOwn vs ρ = true) : Step K (blank vs ρ) (wipe τ vs) G A (blank vs ρ') (wipe τ vs) G' A' := by
  refine ⟨s.rel.blank (wipe_length τ vs) fun j hj => wipe_out hj, ⟨s.grow.gg, fun a e1 e2 e3 => s.grow.fr a e1 e2 fun z => e3 (own_in no z), fun a x e1 e2 e3 => s.grow.keep a x e1 e2 fun z => e3 (own_in no z), s.grow.stay⟩, fun a z => ?_, fun i m e => ?_, by rw [blank_len, blank_len]; exact s.len⟩
  · rcases s.own a (own_out z) with q | q
    · exact .inl (own_in no q)
    · exact .inr q
  · by_cases hi : i ∈ vs
    · cases blank_in hi e
    · rw [blank_out hi] at e
      obtain ⟨h1, m', e2⟩ := s.pin i m e
      exact ⟨by rw [wipe_out hi], m', by rw [blank_out hi]; exact e2⟩
/-- the invariant of a set comprehension's loop -/
structure CompS (K : PySem.W.Frag) (ρ0 : List Sl) (σ : Sg) (G0 H0 : Hp) (p : Addr) (vs : List Nat) (ρ : List Sl) (G H : Hp) (o : HO) : Prop where
  rel : Rel K ρ (wipe σ vs) G H
  step : Step K (blank vs ρ0) (wipe σ vs) G0 (upd H0 p (.lst [])) ρ (wipe σ vs) G (upd H p (.lst []))
  gD : G p = none
  hD : H p = some o
  nD : ¬ Own ρ (wipe σ vs) p
theorem CompS.fin {K : PySem.W.Frag} {ρ0 ρ : List Sl} {σ : Sg} {G0 H0 G H : Hp} {p : Addr} {vs : List Nat} {o : HO} (c : CompS K ρ0 σ G0 H0 p vs ρ G H o) (r0 : Rel K ρ0 σ G0 H0) (hp : H0 p = none) (no : noOwn vs ρ0 = true) :
    Step K ρ0 σ G0 H0 (merge vs ρ0 ρ) σ G (hide p H) ∧ upd (hide p H) p o = H := by
  have c' : CompI K ρ0 σ G0 H0 p vs ρ G (upd H p (.lst [])) [] [] := ⟨c.rel.beside c.gD c.nD, by rw [L2.upd_upd]; exact c.step, c.gD, upd_same, c.nD, .nil⟩
  obtain ⟨h1, h2⟩ := c'.fin r0 hp no
  have e : hide p (upd H p (.lst [])) = hide p H := by
    funext b
    unfold hide
    by_cases q : b = p
    · rw [if_pos q, if_pos q]
    · rw [if_neg q, if_neg q, upd_ne q]
  rw [e] at h1
  refine ⟨h1, ?_⟩
  funext b
  by_cases q : b = p
  · subst q; rw [upd_same, c.hD]
  · rw [upd_ne q]; exact if_neg q
/-- that of the inner one -/
structure CompN (K : PySem.W.Frag) (ρ0 : List Sl) (σ : Sg) (G0 H0 : Hp) (p : Addr) (vs : List Nat) (τ : Sg) (ρ : List Sl) (G H : Hp) (o : HO) : Prop where
  rel : Rel K ρ τ G H
  step : Step K (blank vs ρ0) (wipe σ vs) G0 (upd H0 p (.lst [])) (blank vs ρ) (wipe σ vs) G (upd H p (.lst []))
  gD : G p = none
  hD : H p = some o
  nD : ¬ Own ρ τ p
section
variable {K : PySem.W.Frag} {W : WX} {w : World} {wi wi1 : TI} {g g1 : TG} {te : TE} {vs vs1 ti ti1 : List Nat} {it it1 : SemE (List D)} {t t1 : SemG} {f : SemE D}
theorem sc2_sound (hv : ∀ i ∈ ti, i ∈ vs) (hv1 : ∀ i ∈ ti1, i ∈ vs1) (hvv : ∀ i ∈ vs1, i ∈ vs)
    (i2 : ∀ ρ σ G H R, Rel K ρ σ G H → Asks K ρ σ G H W (it ρ) (fun ds _ G' H' => ∀ J, ItOk K G' J ds → R J H') → wi σ H R)
    (g2 : ∀ ρ σ G H v d Q, Rel K ρ σ G H → Ds K G v d → TgAsk ti K ρ σ G H (fun σ' => Q σ' H) (t d ρ) → g v σ H Q)
    (i3 : ∀ ρ σ G H R, Rel K ρ σ G H → Asks K ρ σ G H (fun _ _ _ _ => False) (it1 ρ) (fun ds _ G' H' => ∀ J, ItOk K G' J ds → R J H') → wi1 σ H R)
    (g3 : ∀ ρ σ G H v d Q, Rel K ρ σ G H → Ds K G v d → TgAsk ti1 K ρ σ G H (fun σ' => Q σ' H) (t1 d ρ) → g1 v σ H Q)
    (e2 : ∀ ρ σ G H Q, Rel K ρ σ G H → Asks K ρ σ G H (fun _ _ _ _ => False) (f ρ) (fun d _ G' H' => ∀ v, Ds K G' v d → Q v H') → te σ H Q) :
    ∀ ρ σ G H Q, Rel K ρ σ G H → Asks K ρ σ G H W (sSc2 vs vs1 it t it1 t1 f ρ) (fun ks _ G' H' => ∀ p, H' p = none → Q (.ref p) (upd H' p (SetIO w p ks))) → tSc2 w wi g tYes wi1 g1 tYes te vs vs1 σ H Q := by
  intro ρ σ G H Q rl q
  refine i2 ρ σ G H _ rl ((Asks.bind q).imp fun ds ρ1 G1 H1 ei s1 q1 J hJ p hp => ?_)
  split at q1
  case isFalse => exact q1.elim
  rename_i no
  cases ec : setOut vs vs1 t it1 t1 f ds [] (blank vs ρ1) with
  | bad => rw [ec] at q1; exact q1.elim
  | exc x ρF => rw [ec] at q1; exact q1.elim
  | ok accF ρF =>
    rw [ec] at q1
    have gp : G1 p = none := s1.rel.same.free hp
    have rb : Rel K (blank vs ρ1) (wipe σ vs) G1 H1 := s1.rel.blank (wipe_length σ vs) fun j hj => wipe_out hj
    have nb : ¬ Own (blank vs ρ1) (wipe σ vs) p := fun ⟨i, pn, m, z1, z2⟩ => by
      obtain ⟨a, o, y1, _, y3, _⟩ := rb.sl i _ z1
      rw [z2] at y1
      cases y1
      rw [hp] at y3
      cases y3
    refine ⟨fun i m H' => ∃ ρ' G' ks, m = ds.length - i ∧ i ≤ ds.length ∧ CompS K ρ1 σ G1 H1 p vs ρ' G' H' (SetIO w p ks) ∧ setOut vs vs1 t it1 t1 f (ds.drop i) ks ρ' = .ok accF ρF ∧ Same G1 G',
      ⟨ds.length, blank vs ρ1, G1, [], by simp, Nat.zero_le _, ⟨rb.beside gp nb, ?_, gp, upd_same, nb⟩, by simpa using ec, Same.refl _⟩, ?_⟩
    · rw [L2.upd_upd]
      exact Step.refl (rb.beside gp nb)
    rintro i m H' ⟨ρ', G', ks, rfl, hi, c, ecc, sm⟩
    by_cases hlt : i < ds.length
    · have hdr : ds.drop i = ds[i] :: ds.drop (i + 1) := List.drop_eq_getElem_cons hlt
      rw [hdr] at ecc
      obtain ⟨go, yl⟩ := hJ.go i G' H' _ sm c.rel.same (List.getElem?_eq_getElem hlt)
      refine .inr ⟨go, fun H2 => ∃ ρ' G' ks, i + 1 ≤ ds.length ∧ CompS K ρ1 σ G1 H1 p vs ρ' G' H2 (SetIO w p ks) ∧ setOut vs vs1 t it1 t1 f (ds.drop (i + 1)) ks ρ' = .ok accF ρF ∧ Same G1 G',
        fun H2 ⟨ρ', G', ks, z1, z2, z3, z4⟩ => ⟨ds.length - (i + 1), by omega, ρ', G', ks, rfl, z1, z2, z3, z4⟩, fun x H2 hy => ?_⟩
      obtain ⟨G2, gr, sm2, hx⟩ := yl x H2 hy
      have st2 := c.rel.step gr sm2
      refine g2 ρ' (wipe σ vs) G2 H2 x _ _ st2.rel hx ?_
      unfold setOut at ecc
      cases e3 : t ds[i] ρ' with
      | none => rw [e3] at ecc; cases ecc
      | some ρ3 =>
        rw [e3, tgB_some] at ecc
        intro σ3 s3 n3
        have hl3 : σ3.length = σ.length := by
          have z1 := s3.rel.len
          have z2 := s3.len
          have z3 := c.rel.len
          rw [wipe_length] at z3
          omega
        have hw : wipe σ3 vs = wipe σ vs := wipe_eq hv hl3 n3
        refine ⟨hw, ?_⟩
        show wi1 σ3 H2 _
        refine i3 ρ3 σ3 G2 H2 _ s3.rel ?_
        cases e4 : it1 ρ3 with
        | bad => rw [e4] at ecc; cases ecc
        | exc x ρ4 => rw [e4] at ecc; cases ecc
        | ok es ρ4 =>
          rw [e4, nx_ok] at ecc
          intro G4 H4 s4 J1 hJ1
          cases e5 : setIn vs vs1 t1 f es ks (blank vs1 ρ4) with
          | bad => rw [e5] at ecc; cases ecc
          | exc x ρ5 => rw [e5] at ecc; cases ecc
          | ok ksF ρ5 =>
            rw [e5, nx_ok] at ecc
            have S := (st2.trans s3).trans s4
            obtain ⟨k1, k2, k3⟩ := S.other c.gD c.hD c.nD
            have B0 := S.block (u := .lst []) c.rel hw hl3 c.gD c.hD c.nD
            have r4 : Rel K (blank vs1 ρ4) (wipe σ3 vs1) G4 H4 := s4.rel.blank (wipe_length σ3 vs1) fun j hj => wipe_out hj
            have ww : wipe (wipe σ3 vs1) vs = wipe σ vs := by rw [wipe_wipe hvv, hw]
            refine ⟨fun j m H' => ∃ ρ' G' ks', m = es.length - j ∧ j ≤ es.length ∧ CompN K ρ1 σ G1 H1 p vs (wipe σ3 vs1) ρ' G' H' (SetIO w p ks') ∧ setIn vs vs1 t1 f (es.drop j) ks' ρ' = .ok ksF ρ5 ∧ Same G4 G',
              ⟨es.length, blank vs1 ρ4, G4, ks, by simp, Nat.zero_le _, ⟨r4, by rw [blank_blank hvv]; exact c.step.trans B0, k1, k2, fun z => k3 (own_out z)⟩, by simpa using e5, Same.refl _⟩, ?_⟩
            rintro j m H5 ⟨ρ6, G6, ks6, rfl, hj, d, edd, sm6⟩
            by_cases hlj : j < es.length
            · have hdr : es.drop j = es[j] :: es.drop (j + 1) := List.drop_eq_getElem_cons hlj
              rw [hdr] at edd
              obtain ⟨go1, yl1⟩ := hJ1.go j G6 H5 _ sm6 d.rel.same (List.getElem?_eq_getElem hlj)
              refine .inr ⟨go1, fun H2 => ∃ ρ' G' ks', j + 1 ≤ es.length ∧ CompN K ρ1 σ G1 H1 p vs (wipe σ3 vs1) ρ' G' H2 (SetIO w p ks') ∧ setIn vs vs1 t1 f (es.drop (j + 1)) ks' ρ' = .ok ksF ρ5 ∧ Same G4 G',
                fun H2 ⟨ρ', G', ks, z1, z2, z3, z4⟩ => ⟨es.length - (j + 1), by omega, ρ', G', ks, rfl, z1, z2, z3, z4⟩, fun x1 H7 hy1 => ?_⟩
              obtain ⟨G7, gr7, sm7, hx7⟩ := yl1 x1 H7 hy1
              have st7 := d.rel.step gr7 sm7
              unfold setIn at edd
              split at edd
              case isFalse => cases edd
              rename_i no6
              refine g3 ρ6 (wipe σ3 vs1) G7 H7 x1 _ _ st7.rel hx7 ?_
              cases e7 : t1 es[j] ρ6 with
              | none => rw [e7] at edd; cases edd
              | some ρ8 =>
                rw [e7, tgB_some] at edd
                intro σ8 s8 n8
                have hl8 : σ8.length = σ3.length := by
                  have z1 := s8.rel.len
                  have z2 := s8.len
                  have z3 := d.rel.len
                  rw [wipe_length] at z3
                  omega
                have hw8 : wipe σ8 vs1 = wipe σ3 vs1 := wipe_eq hv1 hl8 n8
                refine ⟨hw8, ?_⟩
                show te σ8 H7 _
                refine e2 ρ8 σ8 G7 H7 _ s8.rel ?_
                cases e8 : f ρ8 with
                | bad => rw [e8] at edd; cases edd
                | exc x ρ5 => rw [e8] at edd; cases edd
                | ok y ρ9 =>
                  rw [e8, nx_ok] at edd
                  intro G9 H9 s9 v hv'
                  cases y with
                  | int k =>
                    unfold setPut at edd
                    dsimp only at edd
                    split at edd
                    case isFalse => cases edd
                    rename_i hlen
                    have ev : v = .int k := by cases hv'; rfl
                    have S := (st7.trans s8).trans s9
                    obtain ⟨m1, m2, m3⟩ := S.other d.gD d.hD d.nD
                    have B := S.block (u := SetIO w p (addK ks6 k)) d.rel hw8 hl8 d.gD d.hD d.nD
                    have B1 := (S.block (u := .lst []) d.rel hw8 hl8 d.gD d.hD d.nD).blank2 no6
                    rw [ww] at B1
                    refine ⟨k, ks6, ev, m2, Nat.lt_of_lt_of_le (Nat.succ_lt_succ hlen) (by decide), blank vs1 ρ9, G9, addK ks6 k, hlj, ⟨B.rel, ?_, m1, upd_same, fun z => ?_⟩, edd, sm6.trans S.grow.gg⟩
                    · rw [L2.upd_upd]
                      exact d.step.trans B1
                    · obtain ⟨i', pn, mm, y1, y2⟩ := z
                      have hi' := B.rel.nOwn y1
                      rw [blank_out hi'] at y1
                      exact m3 ⟨i', pn, mm, y1, by rw [← y2, ← hw8, wipe_out hi']⟩
                  | _ => unfold setPut at edd; cases edd
            · have e : j = es.length := by omega
              subst e
              rw [List.drop_length] at edd
              have edd : Res.ok ks6 ρ6 = .ok ksF ρ5 := edd
              cases edd
              refine .inl ⟨hJ1.stop _ G6 H5 sm6 d.rel.same (Nat.le_refl _), blank vs ρ5, G6, ksF, hlt, ⟨?_, d.step, d.gD, d.hD, fun z => d.nD (own_out (by rw [ww]; exact z))⟩, ecc, (sm.trans S.grow.gg).trans sm6⟩
              have z := d.rel.blank (is := vs) (wipe_length (wipe σ3 vs1) vs) fun j hj => wipe_out hj
              rw [ww] at z
              exact z
    · have e : i = ds.length := by omega
      subst e
      rw [List.drop_length] at ecc
      have ecc : Res.ok ks ρ' = .ok accF ρF := ecc
      cases ecc
      obtain ⟨F1, F2⟩ := c.fin s1.rel hp no
      refine .inl ⟨hJ.stop _ G' H' sm c.rel.same (Nat.le_refl _), ?_⟩
      have q2 := q1 _ _ F1 p (if_pos rfl)
      rw [F2] at q2
      exact q2
end
end Sh

/-! sorted({.. for .. for ..}), and a class whose __init__ judges its two arguments and keeps them. -/
namespace Sh
open PySem PySem.Spec PyProof.Rows L2
theorem perm_len : ∀ {ns ks : List Int}, ns.Nodup → (∀ n ∈ ns, n ∈ ks) → ns.length = ks.length → ns.Perm ks
  | [], ks, _, _, h => by
    cases ks with
    | nil => exact .nil
    | cons => cases h
  | n :: ns, ks, nd, sub, h => by
    obtain ⟨n1, n2⟩ := List.nodup_cons.mp nd
    have hn : n ∈ ks := sub n (List.mem_cons_self ..)
    have p : ks.Perm (n :: ks.erase n) := List.perm_cons_erase hn
    have hl : ns.length = (ks.erase n).length := by
      have := p.length_eq
      simp only [List.length_cons] at this h
      omega
    refine (List.Perm.cons n (perm_len n2 (fun m hm => ?_) hl)).trans p.symm
    have hne : m ≠ n := fun z => n1 (z ▸ hm)
    exact (List.mem_erase_of_ne hne).mpr (sub m (List.mem_cons_of_mem _ hm))
theorem lt_nodup : ∀ {ns : List Int}, ns.Pairwise (· < ·) → ns.Nodup
  | [], _ => List.nodup_nil
  | n :: ns, h => by
    obtain ⟨h1, h2⟩ := List.pairwise_cons.mp h
    exact List.nodup_cons.mpr ⟨fun z => absurd (h1 n z) (by omega), lt_nodup h2⟩
theorem sortI_set {ns ks : List Int} (h1 : ns.Pairwise (· < ·)) (h2 : ∀ k : Int, k ∈ ns ↔ ks.contains k = true) (h3 : ns.length = ks.length) : ns = sortI ks :=
  sortI_eq (perm_len (lt_nodup h1) (fun n hn => by simpa using (h2 n).mp hn) h3) (h1.imp fun h => by omega)
def sSortSet2 (vs vs1 : List Nat) (it : SemE (List D)) (t : SemG) (it1 : SemE (List D)) (t1 : SemG) (f : SemE D) : SemE D := fun ρ => (sSc2 vs vs1 it t it1 t1 f ρ).bind fun ks ρ1 =>
  if ks.length < 64 then .ok (.lst ((sortI ks).map .int)) ρ1 else .bad
section
variable {X : Cx} {W : WX} {tg iter tg1 iter1 elt : Expr} {scope : Scope} {own : List (Str × Nat)} {vs1 ti ti1 : List Nat} {it it1 : SemE (List D)} {t t1 : SemG} {f : SemE D} {pos cpos p : Pos}
theorem se_sortSet2 (hc : X.calm = true) (hN : X.N.Nodup) (hi : SI X W tg iter it) (ok : blkC X.N X.env.scope scope own = true) (hvv : ∀ i ∈ vs1, i ∈ own.map (·.2))
    (hg : ∀ (s : Shared) (H : Hp) (C : Addr) (cl : List (Str × Addr)) (fp : List Addr), SG (X.blk s H scope (compEnvC scope cl C X.env) fp) tg ti t)
    (hi1 : ∀ (s : Shared) (H : Hp) (C : Addr) (cl : List (Str × Addr)) (fp : List Addr), SI (X.blk s H scope (compEnvC scope cl C X.env) fp) (fun _ _ _ _ => False) tg1 iter1 it1)
    (hg1 : ∀ (s : Shared) (H : Hp) (C : Addr) (cl : List (Str × Addr)) (fp : List Addr), SG (X.blk s H scope (compEnvC scope cl C X.env) fp) tg1 ti1 t1)
    (he : ∀ (s : Shared) (H : Hp) (C : Addr) (cl : List (Str × Addr)) (fp : List Addr), SE (X.blk s H scope (compEnvC scope cl C X.env) fp) (fun _ _ _ _ => False) elt f)
    (hm : X.mg "sorted" = none) (hv : ∀ i ∈ ti, i ∈ own.map (·.2) := by decide) (hv1 : ∀ i ∈ ti1, i ∈ vs1 := by decide) (hs : ∀ x, foldedSetIterable iter X.env x = pure x := by intro _; rfl) (hs1 : ∀ env x, foldedSetIterable iter1 env x = pure x := by intro _ _; rfl)
    (hb : bootBuiltins "sorted" = some (.builtin "sorted") := by decide +kernel) (hgl : Gl X "sorted" := by rfl)
    (hst : starEach [.SetComp elt [⟨tg, iter, [], 0⟩, ⟨tg1, iter1, [], 0⟩] scope pos] X.env = (false, eval (.SetComp elt [⟨tg, iter, [], 0⟩, ⟨tg1, iter1, [], 0⟩] scope pos) X.env) :: starEach [] X.env := by rfl) (hpl : (backTo cpos (starEach [] X.env)).any (·.1) = false := by rfl) :
    SE X W (.Call (.Name "sorted" p) [.SetComp elt [⟨tg, iter, [], 0⟩, ⟨tg1, iter1, [], 0⟩] scope pos] [] cpos) (sSortSet2 (own.map (·.2)) vs1 it t it1 t1 f) := by
  obtain ⟨wi, i1, i2⟩ := hi
  have hpe : PE X (.SetComp elt [⟨tg, iter, [], 0⟩, ⟨tg1, iter1, [], 0⟩] scope pos) (tSc2 X.w wi (canG X.K ti t) tYes (canI X.K (fun _ _ _ _ => False) it1) (canG X.K ti1 t1) tYes (canE X.K (fun _ _ _ _ => False) f) (own.map (·.2)) vs1) :=
    pe_sc2 hc hN i1 (blkOk_by ok) hvv (fun s H C cl fp => (hg s H C cl fp).can) (fun s H C cl fp => pts_nil) (fun s H C cl fp => (hi1 s H C cl fp).can) (fun s H C cl fp => (hg1 s H C cl fp).can) (fun s H C cl fp => pts_nil) (fun s H C cl fp => (he s H C cl fp).can) hs hs1
  refine ⟨_, pe_callB (L2.cr_sortedSet hc) hgl hm hb (pa_cons hpe pa_nil hst) (by decide) (by decide) hst hpl, fun ρ σ G H Q rl q => ?_⟩
  refine (?_ : tSc2 X.w wi (canG X.K ti t) tYes (canI X.K (fun _ _ _ _ => False) it1) (canG X.K ti1 t1) tYes (canE X.K (fun _ _ _ _ => False) f) (own.map (·.2)) vs1 σ H fun v H1 => rSortedSet X.w [v] H1 Q)
  refine sc2_sound hv hv1 hvv i2 (fun ρ σ G H v d Q rl hd q => ⟨ρ, G, d, rl, hd, q⟩) (fun ρ σ G H R rl q => ⟨ρ, G, rl, q⟩) (fun ρ σ G H v d Q rl hd q => ⟨ρ, G, d, rl, hd, q⟩) (fun ρ σ G H Q rl q => ⟨ρ, G, rl, q⟩) ρ σ G H _ rl ?_
  refine (Asks.bind q).imp fun ks ρ1 G1 H1 e1 s1 q1 a ha => ?_
  split at q1
  case isFalse => exact q1.elim
  rename_i hl
  refine ⟨a, (fun j => ks.contains j), ks.length, rfl, upd_same, hl, fun ns p h1 h2 h3 h4 => ?_⟩
  have hp : H1 p = none ∧ p ≠ a := by
    by_cases e : p = a
    · subst e; rw [upd_same] at h4; cases h4
    · rw [upd_ne e] at h4; exact ⟨h4, e⟩
  rw [sortI_set h1 h2 h3]
  have ga : G1 a = none := s1.rel.same.free ha
  -- the set is neither frozen nor own: it stands beside
  have g2 : Grow (fun _ => False) G1 H1 (upd G1 p (.lst ((sortI ks).map V.int))) (upd (upd H1 a (SetIO X.w a ks)) p (.lst ((sortI ks).map V.int))) := by
    refine ⟨Same.at s1.rel.same hp.1, fun b z1 z2 _ => ?_, fun b o z1 z2 _ => ?_, fun b z => ?_⟩
    · rw [upd_ne (fun z => by rw [z, hp.1] at z2; exact z2 rfl)]; exact z1
    · rw [upd_ne (fun z => by rw [z, hp.1] at z2; cases z2), upd_ne (fun z => by rw [z, ha] at z2; cases z2)]; exact z2
    · by_cases e : b = p
      · rw [e, upd_same]; exact fun z => nomatch z
      · rw [upd_ne e]
        by_cases e2 : b = a
        · rw [e2, upd_same]; exact fun z => nomatch z
        · rw [upd_ne e2]; exact z
  have sm : Same (upd G1 p (.lst ((sortI ks).map V.int))) (upd (upd H1 a (SetIO X.w a ks)) p (.lst ((sortI ks).map V.int))) := fun b u e => by
    by_cases eb : b = p
    · rw [eb, upd_same] at e ⊢; exact e
    · rw [upd_ne eb] at e ⊢
      rw [upd_ne (fun z => by rw [z, ga] at e; cases e)]
      exact s1.rel.same b u e
  exact q1 _ _ (s1.rel.step g2 sm) _ (.lst upd_same (DsL.of_ints _))
end

/-! ### two arguments judged and kept -/
theorem backs_d2 (ρ r : List Sl) (a b : D) : backs ρ [.d a, .d b] r = ρ := by
  cases r with
  | nil => rfl
  | cons x r => cases r <;> simp [backs]
/-- __init__(self, a, b): F(a, b) is asked, then both are stored -/
def InitP (K : PySem.W.Frag) (C : Addr) (f1 f2 : Str) (F : List Sl → Res D) : Sp := fun vs H Q E => ∃ x dx v1 v2 d1 d2 G, vs = [V.ref x, v1, v2] ∧ H x = some (.ins C dx []) ∧ G x = none ∧ Same G H ∧ Ds K G v1 d1 ∧ Ds K G v2 d2 ∧
  (∃ d ρ', F [.v d1, .v d2] = .ok d ρ') ∧ ∀ G' H' w1 w2, Same G' H' → Grow (fun _ => False) G H G' H' → Ds K G' w1 d1 → Ds K G' w2 d2 → Q .non (upd H' x (.ins C dx [(f1, w1), (f2, w2)]))
section
variable {P : Program} {w : World} {K : PySem.W.Frag} {mg : Str → Option Value} {base : Heap}
theorem fn_init {x qual f1 f2 : Str} {st : Stmt} {f C : Addr} {fd : FuncData} {N ps : List Str} {k : Nat} {F : List Sl → Res D} {s1 s2 s3 : Stmt} (FU : Fun K x qual st f fd) (S : FnScope N ps (defScope st)) (hN : N.length = 3) (hp : ps.length = 3) (hb : defBody st = [s1, s2, s3])
    (cl : Cls K C) (n1 : NoAttr K C f1) (n2 : NoAttr K C f2) (hf : ¬ f1 = f2)
    (h1 : ∀ (cdv : Value) (A : Around) (outer : List Env) (s : Shared) (H : Hp) (E : XK), Room k (A.deeper (envOfC qual (defScope st) s.heap.objs.size f cdv)) →
      SS (cxOf (L2.CX P w) P w K mg base N qual (defScope st) f cdv A outer s H E) (fun cls d _ H' => E cls d H') s1 (sDrop (sCall F [.e (sVar 1), .e (sVar 2)])))
    (h2 : ∀ (cdv : Value) (A : Around) (outer : List Env) (s : Shared) (H : Hp) (E : XK), PS (cxOf (L2.CX P w) P w K mg base N qual (defScope st) f cdv A outer s H E) s2 (sFld K (tVar 0) (tVar 1) f1))
    (h3 : ∀ (cdv : Value) (A : Around) (outer : List Env) (s : Shared) (H : Hp) (E : XK), PS (cxOf (L2.CX P w) P w K mg base N qual (defScope st) f cdv A outer s H E) s3 (sFld K (tVar 0) (tVar 2) f2)) :
    FnOk P w K mg base (L2.CX P w) (k + 1) f fd ps (InitP K C f1 f2 F) := by
  refine FU.okX S (fun vs H Q E h => by obtain ⟨x, dx, v1, v2, d1, d2, G, rfl, _⟩ := h; rw [hp]; rfl) (fun cdv A outer s H vs Q E hr h => ?_)
  obtain ⟨t1, p1, q1⟩ := h1 cdv A outer s H E hr
  refine ⟨tSeq t1 (tSeq (sFld K (tVar 0) (tVar 1) f1) (sFld K (tVar 0) (tVar 2) f2)), ?_, ?_⟩
  · rw [hb]
    exact pss_cons p1 (pss_cons (h2 cdv A outer s H E) (pss_one (h3 cdv A outer s H E)))
  obtain ⟨x, dx, v1, v2, d1, d2, G, rfl, hx, gx, sm, e1, e2, ⟨d, ρ', eF⟩, q⟩ := h
  have e0 : L2.start N [V.ref x, v1, v2] = [some (.ref x), some v1, some v2] := by unfold L2.start; rw [hN]; rfl
  rw [e0]
  have rl : Rel K [.v (.ref x), .v d1, .v d2] [some (.ref x), some v1, some v2] G H := by
    refine ⟨rfl, sm, fun i s e => ?_, fun i j a p q m n hi hj h1 h2 => ?_⟩
    · match i, e with
      | 0, e => cases e; exact ⟨_, rfl, .ref x⟩
      | 1, e => cases e; exact ⟨_, rfl, e1⟩
      | 2, e => cases e; exact ⟨_, rfl, e2⟩
    · match i, hi with
      | 0, hi => cases hi
      | 1, hi => cases hi
      | 2, hi => cases hi
  refine q1 [.v (.ref x), .v d1, .v d2] _ G H _ rl ?_
  have es : sDrop (sCall F [.e (sVar 1), .e (sVar 2)]) [.v (.ref x), .v d1, .v d2] = .nx [.v (.ref x), .v d1, .v d2] := by
    simp [sDrop, sCall, evA, sVar, callF, mkArgs, mkArg, eF, owns, nodupB, backs_d2]
  rw [es]
  intro σ' G' H' s
  obtain ⟨no1, ho, _⟩ := s.other gx hx fun ⟨i, p, m, z1, z2⟩ => by
    match i, z1 with
    | 0, z1 => cases z1
    | 1, z1 => cases z1
    | 2, z1 => cases z1
  obtain ⟨y0, a0, b0⟩ := s.rel.sl 0 _ rfl
  obtain ⟨y1, a1, b1⟩ := s.rel.sl 1 _ rfl
  obtain ⟨y2, a2, b2⟩ := s.rel.sl 2 _ rfl
  cases b0
  refine ⟨y1, a1, V.ref x, a0, x, C, dx, [], rfl, ho, cl, n1, Nat.zero_lt_succ _, ?_⟩
  refine ⟨y2, a2, V.ref x, a0, x, C, dx, _, rfl, upd_same, cl, n2, Nat.lt_of_le_of_lt (Nat.le_refl 1) (by decide), ?_⟩
  show Q .non _
  rw [L2.upd_upd]
  have noow : ∀ {a}, ¬ Own [.v (.ref x), .v d1, .v d2] [some (.ref x), some v1, some v2] a := fun ⟨i, p, m, z1, z2⟩ => by
    match i, z1 with
    | 0, z1 => cases z1
    | 1, z1 => cases z1
    | 2, z1 => cases z1
  have g : Grow (fun _ => False) G H G' H' := ⟨s.grow.gg, fun a z1 z2 _ => s.grow.fr a z1 z2 noow, fun a o z1 z2 _ => s.grow.keep a o z1 z2 noow, s.grow.stay⟩
  have ep : putF f2 y2 (putF f1 y1 []) = [(f1, y1), (f2, y2)] := by
    simp [putF, hf]
  rw [ep]
  exact q G' H' y1 y2 s.rel.same g b1 b2
end
def sMake2 (C : Addr) (f1 f2 : Str) (F : List Sl → Res D) (fs : SemE (List D)) : SemE D := fun ρ => (fs ρ).bind fun as ρ1 => match as with
  | [d1, d2] => (match F [.v d1, .v d2] with
    | .ok _ _ => .ok (.obj C [(f1, d1), (f2, d2)]) ρ1
    | _ => .bad)
  | _ => .bad
section
variable {X : Cx} {W W' : WX} {e : Expr} {es : List Expr} {fs : SemE (List D)} {pos p : Pos}
theorem se_make2 {k : Nat} {C fa : Addr} {fd : FuncData} {ps : List Str} {F : List Sl → Res D} {x f1 f2 : Str} (M : Mk X.K C fa) (FO : FnOk X.prog X.w X.K X.mg X.base (L2.CX X.prog X.w) k fa fd ps (InitP X.K C f1 f2 F)) (hr : Room (k + 1) X.A) (hm : X.mg x = some (.ref C))
    (hb : Binds X.K fd ps []) (tk : Takes X W') (ha : SA X W (e :: es) fs) (hg : Gl X x := by rfl) (hdb : (x == ("__debug__" : Str)) = false := by decide)
    (he : starEach (e :: es) X.env = (false, eval e X.env) :: starEach es X.env := by rfl) (hpl : (backTo pos (starEach es X.env)).any (·.1) = false := by rfl) : SE X W (.Call (.Name x p) (e :: es) [] pos) (sMake2 C f1 f2 F fs) := by
  obtain ⟨ta, h1, h2⟩ := ha
  refine ⟨_, pe_make M FO hr hg hm hb .nil (E := fun _ _ _ => False) (passes_call tk fun _ _ _ _ h => h.elim) h1 hdb he hpl, fun ρ σ G H Q rl q => ?_⟩
  refine h2 ρ σ G H _ rl ((Asks.bind q).imp fun as ρ1 G1 H1 e1 s1 q1 vs hvs a dx ha hdx hne => ?_)
  split at q1
  case h_2 => exact q1.elim
  rename_i d1 d2
  split at q1
  case h_2 => exact q1.elim
  rename_i r ρr er
  rw [List.append_nil]
  cases hvs with
  | cons z1 hvs => cases hvs with
    | cons z2 hvs =>
      cases hvs
      rename_i v1 v2
      have ga : G1 a = none := s1.rel.same.free ha
      have gdx : G1 dx = none := s1.rel.same.free hdx
      have sm0 : Same G1 (upd (upd H1 dx (.own a)) a (.ins C dx [])) := fun b u e => by
        rw [upd_ne (fun z => by rw [z, ga] at e; cases e), upd_ne (fun z => by rw [z, gdx] at e; cases e)]
        exact s1.rel.same b u e
      refine ⟨a, dx, v1, v2, d1, d2, G1, rfl, upd_same, ga, sm0, z1, z2, ⟨_, _, er⟩, fun G' H' w1 w2 sm g k1 k2 => ⟨rfl, ?_⟩⟩
      have ga' : G' a = none := g.fr a ga (by rw [upd_same]; exact fun z => nomatch z) (fun z => z)
      have gr : Grow (fun _ => False) G1 H1 (upd G' a (.ins C dx [(f1, w1), (f2, w2)])) (upd H' a (.ins C dx [(f1, w1), (f2, w2)])) := by
        have na : ∀ b o, H1 b = some o → b ≠ a ∧ b ≠ dx := fun b o z => ⟨fun y => (by rw [y, ha] at z; cases z), fun y => (by rw [y, hdx] at z; cases z)⟩
        have nn : ∀ b, H1 b ≠ none → b ≠ a ∧ b ≠ dx := fun b z => ⟨fun y => z (by rw [y]; exact ha), fun y => z (by rw [y]; exact hdx)⟩
        refine ⟨fun b u e => ?_, fun b z1 z2 _ => ?_, fun b o z1 z2 _ => ?_, fun b z => ?_⟩
        · rw [upd_ne (fun z => by rw [z, ga] at e; cases e)]; exact g.gg b u e
        · rw [upd_ne (nn b z2).1]
          exact g.fr b z1 (by rw [upd_ne (nn b z2).1, upd_ne (nn b z2).2]; exact z2) (fun z => z)
        · rw [upd_ne (na b o z2).1]
          exact g.keep b o z1 (by rw [upd_ne (na b o z2).1, upd_ne (na b o z2).2]; exact z2) (fun z => z)
        · rw [upd_ne (nn b z).1]
          exact g.stay b (by rw [upd_ne (nn b z).1, upd_ne (nn b z).2]; exact z)
      have sm2 : Same (upd G' a (.ins C dx [(f1, w1), (f2, w2)])) (upd H' a (.ins C dx [(f1, w1), (f2, w2)])) := fun b u e => by
        by_cases eb : b = a
        · rw [eb, upd_same] at e ⊢; exact e
        · rw [upd_ne eb] at e ⊢; exact sm b u e
      have up : Same G' (upd G' a (.ins C dx [(f1, w1), (f2, w2)])) := fun b u e => by rw [upd_ne (fun z => by rw [z, ga'] at e; cases e)]; exact e
      exact q1 _ _ (s1.rel.step gr sm2) _ (.obj upd_same rfl (.cons (k1.mono up) (.cons (k2.mono up) .nil)))
end
end Sh

/-! == and != of two dicts whose keys are tuples and whose values are ints. -/
namespace PySem.W
open PySem
section
variable {prog : Program} {w : World} {K : Type} [DecidableEq K] {knd : HeapKind prog w K} {A : Around} {s : Shared} {E : Value → Shared → Prop}
/-- a loop that ends with False at the first index that fails, and has no effect -/
theorem loop_all {f : Nat → Option Bool × Unit → Sem (ForInStep (Option Bool × Unit))} {c : Nat → Bool} :
    ∀ (m a : Nat), (∀ i, a ≤ i → i < a + m → ∀ R : ForInStep (Option Bool × Unit) → Shared → Prop, R (if c i = true then .yield (none, ()) else .done (some false, ())) s → wpAny (model prog w) A (f i (none, ())) R E s) →
    ∀ Q : Option Bool × Unit → Shared → Prop, Q (if (List.range' a m).all c = true then (none, ()) else (some false, ())) s → wpAny (model prog w) A (forIn (List.range' a m) (none, ()) f) Q E s
  | 0, a, _, Q, h => wpAny_pure (by simpa using h)
  | m + 1, a, hb, Q, h => by
    rw [List.range'_succ, List.forIn_cons]
    rw [List.range'_succ, List.all_cons] at h
    refine wpAny_bind (hb a (Nat.le_refl _) (by omega) _ ?_)
    by_cases q : c a = true
    · rw [if_pos q]
      rw [q, Bool.true_and] at h
      exact loop_all m (a + 1) (fun i h1 h2 => hb i (by omega) (by omega)) Q h
    · rw [if_neg q]
      rw [show c a = false by simpa using q, Bool.false_and, if_neg Bool.false_ne_true] at h
      exact wpAny_pure h
/-- entry i of the one stands in the other with an equal value: c i -/
def HitAt (A : Around) (s : Shared) (xs ys : List (K × Addr × Value)) (c : Nat → Bool) : Prop := ∀ (i : Nat) (x : K × Addr × Value), xs[i]? = some x →
  (atKey ys x.1 = none ∧ c i = false) ∨ ∃ q, atKey ys x.1 = some q ∧ SeqAt.EqAt A s x.2.2 q.2 (c i)
theorem key_at : ∀ {ys : List (K × Addr × Value)} {k : K} {j : Nat} {p : Addr × Value}, (ys.map (·.1)).Nodup → ys[j]? = some (k, p) → atKey ys k = some p
  | [], _, _, _, _, h => absurd h (by simp)
  | y :: ys, k, 0, p, _, h => by
    cases (Option.some.inj ((List.getElem?_cons_zero (a := y) (l := ys)).symm.trans h))
    simp [atKey]
  | y :: ys, k, j + 1, p, n, h => by
    have h2 : ys[j]? = some (k, p) := by rw [← h, List.getElem?_cons_succ]
    have ne : ¬ y.1 = k := fun e => (List.nodup_cons.mp n).1 (by show y.1 ∈ _; rw [e]; exact List.mem_map.mpr ⟨_, List.mem_of_getElem? h2, rfl⟩)
    rw [← key_at (List.nodup_cons.mp n).2 h2]
    unfold atKey
    rw [List.find?_cons_of_neg (by simpa using ne)]
theorem key_off {ys : List (K × Addr × Value)} {k : K} (h : ∀ (j : Nat) (p : Addr × Value), ys[j]? ≠ some (k, p)) : atKey ys k = none := by
  refine Option.map_eq_none_iff.mpr (List.find?_eq_none.mpr fun x hx e => ?_)
  obtain ⟨j, ej⟩ := List.getElem?_of_mem hx
  exact h j x.2 (ej.trans (congrArg some (Prod.ext (of_decide_eq_true e) rfl)))
theorem pairsT {nm : String} {a b : Addr} {xs ys : List (K × Addr × Value)} {c : Nat → Bool} {Q : Bool → Shared → Prop} (hu : knd.room A) (na : (a == sysModules) = false) (nb : (b == sysModules) = false)
    (da : s.heap.DictOfH knd a xs) (db : s.heap.DictOfH knd b ys) (hc : HitAt A s xs ys c) (h : Q (xs.length == ys.length && (List.range' 0 xs.length).all c) s) :
    wpAny (model prog w) A (Builtin.Dict.samePairs nm a b) Q E s := by
  obtain ⟨o1, t1, ep, g1, _, d1, m1, k1, _⟩ := da
  obtain ⟨o2, t2, ep2, g2, _, d2, m2, k2, n2⟩ := db
  have z1 := size_of_entries m1
  have z2 := size_of_entries m2
  unfold Builtin.Dict.samePairs Builtin.Dict.showsAll
  rw [na, nb, if_neg Bool.false_ne_true]
  refine wpAny_bind (wpAny_pure (wpAny_bind (wpAny_pure (wpAny_bind (wpAny_dictEntries g1 d1 ?_)))))
  refine wpAny_bind (wpAny_dictEntries g2 d2 ?_)
  rw [← z1, ← z2] at h
  by_cases e : t1.size = t2.size
  · rw [if_neg (by simp [e])]
    rw [show (t1.size == t2.size) = true by simp [e], Bool.true_and] at h
    refine wpAny_bind (wpAny_dictEpoch g1 d1 (wpAny_bind ?_))
    rw [Std.Legacy.Range.forIn_eq_forIn_range']
    simp only [Std.Legacy.Range.size, Nat.sub_zero, Nat.add_sub_cancel, Nat.div_one]
    refine loop_all (c := c) t1.size 0 (fun i _ hi R hR => ?_) _ ?_
    · have hi : i < xs.length := by rw [← z1]; omega
      have ex : xs[i]? = some xs[i] := List.getElem?_eq_getElem hi
      refine wpAny_bind (wpAny_dictEntries g1 d1 ?_)
      rw [entry_at m1 i, ex]
      show wpAny _ _ (holding [.ref xs[i].2.1, xs[i].2.2] _ >>= _) _ _ _
      have out : ∀ {k : Bool}, k = c i → wpAny (model prog w) A (if (!k) = true then pure (ForInStep.done (some false, ())) else do
          let e ← dictEpoch a
          if (e != ep) = true then do unsupported (toString nm ++ toString ":changed-during-callback"); pure (ForInStep.yield (none, ())) else pure (ForInStep.yield (none, ()))) R E s := fun {k} ek => by
        cases k with
        | false => rw [← ek, if_neg Bool.false_ne_true] at hR; exact wpAny_pure hR
        | true =>
          rw [← ek, if_pos rfl] at hR
          refine wpAny_bind (wpAny_dictEpoch g1 d1 ?_)
          rw [if_neg (by simp)]
          exact wpAny_pure hR
      refine wpAny_bind (wpAny_holding (wpAny_bind (wpAny_dictFind_heap hu (k1 _ (List.mem_of_getElem? ex)) g2 d2 m2 k2 n2 (fun no => ?_) fun j p yes => ?_)))
      · rcases hc i _ ex with ⟨_, f⟩ | ⟨q, f, _⟩
        · exact wpAny_pure (out f.symm)
        · exact nomatch (key_off no).symm.trans f
      · rcases hc i _ ex with ⟨f, _⟩ | ⟨q, f, eq⟩
        · exact nomatch f.symm.trans (key_at n2 yes)
        · cases Option.some.inj ((key_at n2 yes).symm.trans f)
          refine wpAny_bind (wpAny_dictEntries g2 d2 ?_)
          rw [entry_at m2 j, yes]
          exact wpAny_holding (eq prog w _ _ (out rfl))
    · cases hall : (List.range' 0 t1.size).all c with
      | true =>
        rw [hall] at h
        rw [if_pos rfl]
        exact wpAny_pure h
      | false =>
        rw [hall] at h
        rw [if_neg Bool.false_ne_true]
        exact wpAny_pure h
  · rw [if_pos (by simpa using e)]
    rw [show (t1.size == t2.size) = false by simpa using e, Bool.false_and] at h
    exact wpAny_bind (wpAny_rule (wpAny_pure h))
theorem opT {op : CmpOp} {k : Bool} (hop : (op = .Eq ∧ k = false) ∨ (op = .NotEq ∧ k = true)) {a b : Addr} {xs ys : List (K × Addr × Value)} {c : Nat → Bool} {Q : Value → Shared → Prop} (hr : knd.room A.in1) (na : (a == sysModules) = false) (nb : (b == sysModules) = false)
    (da : s.heap.DictOfH knd a xs) (db : s.heap.DictOfH knd b ys) (hu : A.units < cLine) (hc : HitAt A.in1 s xs ys c) (h : Q (.bool (if k then !(xs.length == ys.length && (List.range' 0 xs.length).all c) else xs.length == ys.length && (List.range' 0 xs.length).all c)) s) :
    wpAny (model prog w) A (compareOp op (.ref a) (.ref b)) Q E s := by
  have tb : s.TypeIs (.ref b) "dict" := db.typeIs
  rcases hop with ⟨rfl, rfl⟩ | ⟨rfl, rfl⟩
  · refine wpAny_richCompare_same_room (op := .Eq) da.typeIs tb PySem.F.slot_dict_eq (wpAny_call_entry PySem.F.slot_dict_eq da.typeIs PySem.F.entry_dict_eq (?_ : wpAny _ _ (Builtin.Dict.dictSlotArgs _ _ >>= _) _ _ s) (PySem.F.args_dict_eq_2 _ _)) hu
    refine wpAny_bind ?_
    unfold Builtin.Dict.dictSlotArgs
    refine wpAny_bind (wpAny_notOrdered_dict da.typeIs (wpAny_pure (wpAny_bind (wpAny_isInstance (T := "dict") tb PySem.F.sub_dict_dict ?_))))
    rw [if_neg (by decide)]
    exact wpAny_bind (wpAny_pure (wpAny_bind (wpAny_pure (wpAny_bind (pairsT hr na nb da db hc (wpAny_pure ⟨_, rfl, (fun z => nomatch z), by simpa using h⟩))))))
  · refine wpAny_richCompare_same_room (op := .NotEq) da.typeIs tb PySem.F.slot_dict_ne (wpAny_call_entry PySem.F.slot_dict_ne da.typeIs PySem.F.entry_dict_ne (?_ : wpAny _ _ (Builtin.Dict.dictSlotArgs _ _ >>= _) _ _ s) (PySem.F.args_dict_ne_2 _ _)) hu
    refine wpAny_bind ?_
    unfold Builtin.Dict.dictSlotArgs
    refine wpAny_bind (wpAny_notOrdered_dict da.typeIs (wpAny_pure (wpAny_bind (wpAny_isInstance (T := "dict") tb PySem.F.sub_dict_dict ?_))))
    rw [if_neg (by decide)]
    exact wpAny_bind (wpAny_pure (wpAny_bind (wpAny_pure (wpAny_bind (pairsT hr na nb da db hc (wpAny_pure ⟨_, rfl, (fun z => nomatch z), by simpa using h⟩))))))
end
end PySem.W
namespace Sh
open PySem PySem.Spec PyProof.Rows L2
/-- equal values at the first's keys, all values ints -/
def eqTV : List (List Key × V) → List (List Key × V) → Option Bool
  | [], _ => some true
  | (k, v) :: r, ls => match v, valV ls k with
    | .int i, some (.int j) => (eqTV r ls).map fun b => decide (i = j) && b
    | .int _, none => (eqTV r ls).map fun _ => false
    | _, _ => none
def eqT : List (List Key × D) → List (List Key × D) → Option Bool
  | [], _ => some true
  | (k, v) :: r, ls => match v, lookD ls k with
    | .int i, some (.int j) => (eqT r ls).map fun b => decide (i = j) && b
    | .int _, none => (eqT r ls).map fun _ => false
    | _, _ => none
def neTF (neg : Bool) : D → D → Option D
  | .dT a, .dT b => (eqT a b).map fun r => .bl (if neg then !(decide (a.length = b.length) && r) else (decide (a.length = b.length) && r))
  | _, _ => none
def rDT (neg : Bool) : R2 := fun x y H Q => ∃ a b ks ls r, x = .ref a ∧ y = .ref b ∧ H a = some (.dT ks) ∧ H b = some (.dT ls) ∧ eqTV ks ls = some r ∧
  Q (.bl (if neg then !(decide (ks.length = ls.length) && r) else (decide (ks.length = ls.length) && r))) H
section
variable {X : Cx}
/-- whether entry i of ks has an equal value in ls -/
def sameAt (ks ls : List (List Key × V)) (i : Nat) : Bool := match ks[i]? with
  | some (k, .int a) => (match valV ls k with
    | some (.int b) => decide (a = b)
    | _ => false)
  | _ => false
theorem kt_at {H : Hp} {ks : List (List Key × V)} {xs : List (List Key × Addr × Value)} (r : KT H ks xs) : ∀ {i : Nat} {x : List Key × Addr × Value}, xs[i]? = some x → ∃ v, ks[i]? = some (x.1, v) ∧ RelV v x.2.2 := by
  induction r with
  | nil => intro i x h; exact absurd h (by simp)
  | @cons p q ps qs h t ih =>
    intro i x hx
    cases i with
    | zero =>
      cases Option.some.inj ((List.getElem?_cons_zero (a := q) (l := qs)).symm.trans hx)
      exact ⟨p.2, by rw [List.getElem?_cons_zero, ← h.1], h.2.2⟩
    | succ i =>
      obtain ⟨v, h1, h2⟩ := ih (i := i) (x := x) (by rw [← hx, List.getElem?_cons_succ])
      exact ⟨v, by rw [List.getElem?_cons_succ]; exact h1, h2⟩
theorem eqTV_all {ls : List (List Key × V)} : ∀ {ks : List (List Key × V)} {r : Bool}, eqTV ks ls = some r →
    (∀ (i : Nat) (k : List Key) (v : V), ks[i]? = some (k, v) → (∃ a : Int, v = .int a) ∧ ((∃ b : Int, valV ls k = some (.int b)) ∨ valV ls k = none)) ∧ (List.range' 0 ks.length).all (sameAt ks ls) = r
  | [], r, e => by cases e; exact ⟨fun i k v h => absurd h (by simp), rfl⟩
  | (k, v) :: ks, r, e => by
    unfold eqTV at e
    have sh : (List.range' 0 ((k, v) :: ks).length).all (sameAt ((k, v) :: ks) ls) = (sameAt ((k, v) :: ks) ls 0 && (List.range' 0 ks.length).all (sameAt ks ls)) := by
      rw [List.length_cons, List.range'_succ, List.all_cons]
      congr 1
      rw [show (0 + 1 : Nat) = 1 from rfl, ← List.map_add_range' (a := 1) (s := 0) (n := ks.length) (step := 1), List.all_map]
      refine congrArg (fun f => (List.range' 0 ks.length).all f) (funext fun i => ?_)
      show sameAt _ ls (1 + i) = sameAt ks ls i
      unfold sameAt
      rw [Nat.add_comm, List.getElem?_cons_succ]
    have key : ∃ a : Int, v = .int a ∧ ((∃ b r2, valV ls k = some (.int b) ∧ eqTV ks ls = some r2 ∧ r = (decide (a = b) && r2)) ∨ ∃ r2, valV ls k = none ∧ eqTV ks ls = some r2 ∧ r = false) := by
      cases v with
      | int a =>
        refine ⟨a, rfl, ?_⟩
        cases hv : valV ls k with
        | none =>
          rw [hv] at e
          cases e2 : eqTV ks ls with
          | none => simp [e2] at e
          | some r2 => exact .inr ⟨r2, rfl, rfl, by simpa [e2, eq_comm] using e⟩
        | some y =>
          rw [hv] at e
          cases y with
          | int b =>
            cases e2 : eqTV ks ls with
            | none => simp [e2] at e
            | some r2 => exact .inl ⟨b, r2, rfl, rfl, by simpa [e2, eq_comm] using e⟩
          | _ => cases e
      | _ => cases e
    obtain ⟨a, rfl, kk⟩ := key
    have rest : ∀ r2, eqTV ks ls = some r2 → ((∃ b : Int, valV ls k = some (.int b)) ∨ valV ls k = none) → ∀ (i : Nat) (k' : List Key) (v : V), ((k, V.int a) :: ks)[i]? = some (k', v) → (∃ a : Int, v = .int a) ∧ ((∃ b : Int, valV ls k' = some (.int b)) ∨ valV ls k' = none) := fun r2 e2 hk i k' v h => by
      cases i with
      | zero =>
        rw [List.getElem?_cons_zero] at h
        cases h
        exact ⟨⟨a, rfl⟩, hk⟩
      | succ i => exact (eqTV_all e2).1 i k' v (by rw [← h, List.getElem?_cons_succ])
    rw [sh]
    rcases kk with ⟨b, r2, hb, e2, rfl⟩ | ⟨r2, hb, e2, rfl⟩
    · refine ⟨rest r2 e2 (.inl ⟨b, hb⟩), ?_⟩
      rw [(eqTV_all e2).2]
      simp [sameAt, hb]
    · refine ⟨rest r2 e2 (.inr hb), ?_⟩
      simp [sameAt, hb]
theorem hitsT {A : Around} {s : Shared} {H : Hp} {ks ls : List (List Key × V)} {xs ys : List (List Key × Addr × Value)} (ra : KT H ks xs) (rb : KT H ls ys)
    (all : ∀ (i : Nat) (k : List Key) (v : V), ks[i]? = some (k, v) → (∃ a : Int, v = .int a) ∧ ((∃ b : Int, valV ls k = some (.int b)) ∨ valV ls k = none)) : PySem.W.HitAt A s xs ys (sameAt ks ls) := by
  intro i x hx
  obtain ⟨v, h1, h2⟩ := kt_at ra hx
  obtain ⟨⟨a, rfl⟩, hv⟩ := all i _ v h1
  have rk := rb.val x.1
  rcases hv with ⟨b, hb⟩ | hb
  · rw [hb] at rk
    cases q : atKey ys x.1 with
    | none => rw [q] at rk; exact (show False from rk).elim
    | some z =>
      rw [q] at rk
      obtain ⟨t1, f1⟩ := (show ∃ t, x.2.2 = Value.int a t from h2)
      obtain ⟨t2, f2⟩ := (show ∃ t, z.2 = Value.int b t from rk)
      refine .inr ⟨z, rfl, ?_⟩
      have s0 : sameAt ks ls i = decide (a = b) := by simp [sameAt, h1, hb]
      rw [s0, f1, f2]
      have z := PySem.W.keq_flat (A := A) (s := s) (v := .int a t1) (y := .int b t2) (d := .int a) (e := .int b) (fun _ => .int a t1) (fun _ => .int b t2)
      rwa [show PyData.eqv (.int a) (.int b) = decide (a = b) by simp [PyData.eqv]; by_cases h : a = b <;> simp [h]] at z
  · rw [hb] at rk
    refine .inl ⟨?_, by simp [sameAt, h1, hb]⟩
    cases q : atKey ys x.1 with
    | none => rfl
    | some z => rw [q] at rk; exact (show False from rk).elim
theorem op_DT (neg : Bool) (hu : X.A.units + 64 < cLine) : OpR X (compareOp (if neg then .NotEq else .Eq)) (rDT neg) := by
  intro pins s σ H x y v u Q I rx ry h
  obtain ⟨a, b, ks, ls, r, rfl, rfl, ea, eb, hp, q⟩ := h
  cases rx
  cases ry
  obtain ⟨_, na, xs, ra, da⟩ := dt_of I.hok ea
  obtain ⟨_, nb, ys, rb, db⟩ := dt_of I.hok eb
  obtain ⟨h1, h2⟩ := eqTV_all hp
  refine PySem.W.opT (k := neg) (c := sameAt ks ls) (by cases neg <;> simp) (tupleKind_room_in1 (by omega)) na nb da db (by omega) (hitsT ra rb h1) (fin_bl I q ?_)
  have e1 : ks.length = xs.length := Paired.length ra
  rw [← Paired.length ra, ← Paired.length rb, h2]
  cases neg <;> by_cases z : ks.length = ls.length <;> simp [z]
theorem eqT_ok {K : PySem.W.Frag} {G : Hp} {ls : List (List Key × V)} {ms : List (List Key × D)} (e1 : ls.map (·.1) = ms.map (·.1)) (h1 : DsL K G (ls.map (·.2)) (ms.map (·.2))) :
    ∀ {ks : List (List Key × V)} {ds : List (List Key × D)} {r : Bool}, ks.map (·.1) = ds.map (·.1) → DsL K G (ks.map (·.2)) (ds.map (·.2)) → eqT ds ms = some r → eqTV ks ls = some r
  | [], [], r, _, _, e => by cases e; rfl
  | [], _ :: _, _, h, _, _ => by cases h
  | _ :: _, [], _, h, _, _ => by cases h
  | (k, v) :: ks, (k', d) :: ds, r, h, hl, e => by
    simp only [List.map_cons, List.cons.injEq] at h
    rw [List.map_cons, List.map_cons] at hl
    obtain ⟨hk, ht⟩ := h
    subst hk
    cases hl with
    | cons z1 z2 =>
      unfold eqT at e
      unfold eqTV
      dsimp only at e z1 ⊢
      cases d with
      | int i =>
        cases z1
        rcases look_of (k := k) e1 h1 with ⟨l1, l2⟩ | ⟨x, y, l1, l2, l3⟩
        · rw [l1] at e; rw [l2]
          cases e2 : eqT ds ms with
          | none => rw [e2] at e; cases e
          | some b => rw [e2] at e; rw [eqT_ok e1 h1 ht z2 e2]; exact e
        · rw [l1] at e
          rw [l2]
          cases y with
          | int j =>
            cases l3
            dsimp only at e ⊢
            cases e2 : eqT ds ms with
            | none => rw [e2] at e; cases e
            | some b => rw [e2] at e; rw [eqT_ok e1 h1 ht z2 e2]; exact e
          | _ => cases e
      | _ => cases e
theorem rb_DT {K : PySem.W.Frag} (neg : Bool) : RBin K (rDT neg) (neTF neg) := by
  intro G H x y dx dy d Q s hx hy e q
  cases dx with
  | dT ds =>
    cases dy with
    | dT ms =>
      cases hx with
      | @dT a ks _ a1 a2 a3 =>
        cases hy with
        | @dT b ls _ b1 b2 b3 =>
          have la : ks.length = ds.length := by have := congrArg List.length a2; simpa using this
          have lb : ls.length = ms.length := by have := congrArg List.length b2; simpa using this
          unfold neTF at e
          dsimp only at e
          cases e2 : eqT ds ms with
          | none => rw [e2] at e; cases e
          | some r =>
            rw [e2] at e
            cases e
            refine ⟨a, b, ks, ls, r, rfl, rfl, s _ _ a1, s _ _ b1, eqT_ok b2 b3 a2 a3 e2, ?_⟩
            rw [la, lb]
            exact q _ G H Grow.refl s (.bl _)
    | _ => cases e
  | _ => cases e
theorem eqTOk (hu : X.A.units + 64 < cLine) : ∃ r, OpR X (compareOp .Eq) r ∧ RBin X.K r (neTF false) := ⟨_, op_DT false hu, rb_DT false⟩
theorem neTOk (hu : X.A.units + 64 < cLine) : ∃ r, OpR X (compareOp .NotEq) r ∧ RBin X.K r (neTF true) := ⟨_, op_DT true hu, rb_DT true⟩
end
end Sh

/-! tuple * 0, tuple * 1. -/
namespace Sh
open PySem PySem.Spec PyProof.Rows L2
theorem tuple_mul0 (l : Addr) (items : Array Value) (n : Nat) (dd : Option Addr) (sl : Array (Option Value)) (u : Tok) (c1 : (items.isEmpty || (0 : Int) == 1) = false) :
    Meets (Builtin.«tuple.__mul__» ⟨[.ref l, .int 0 u], []⟩) (fun _ R s => s.heap.get? l = some { cls := .type "tuple", dict := dd, data := .seq items n, slots := sl } ∧
      R (.ok (.ret (Value.ref s.heap.objs.size))) { s with heap := s.heap.push { cls := Value.type "tuple", data := Data.seq #[] }, toks := s.toks }) :=
  .of_wp fun prog w A R s h => by
    obtain ⟨hp, g, d, tk, os⟩ := s
    obtain ⟨hl, h⟩ := h
    have f1 := AutoSeq1.idx_int
    wp_walk using wpAny_loadPart' hl
    repeat (first
      | (refine wpAny_ite_false (by decide) ?_; wp_walk using wpAny_loadPart' hl)
      | (refine wpAny_ite_false (by rw [c1]; decide) ?_; wp_walk using wpAny_loadPart' hl)
      | (refine wpAny_ite_true (by simp) ?_; wp_walk using wpAny_loadPart' hl))
    all_goals first
      | exact ⟨_, rfl, h⟩
      | skip
theorem tuple_mul1 (l : Addr) (items : Array Value) (n : Nat) (dd : Option Addr) (sl : Array (Option Value)) (u : Tok) :
    Meets (Builtin.«tuple.__mul__» ⟨[.ref l, .int 1 u], []⟩) (fun _ R s => s.heap.get? l = some { cls := .type "tuple", dict := dd, data := .seq items n, slots := sl } ∧
      R (.ok (.ret (Value.ref l))) s) :=
  .of_wp fun prog w A R s h => by
    obtain ⟨hp, g, d, tk, os⟩ := s
    obtain ⟨hl, h⟩ := h
    have f1 := AutoSeq1.idx_int
    have f2 : ∀ s : Shared, s.heap.get? l = some { cls := .type "tuple", dict := dd, data := .seq items n, slots := sl } → s.TypeIs (.ref l) "tuple" := fun s h => ⟨_, h, rfl⟩
    wp_walk using wpAny_loadPart' hl
    repeat (first
      | (refine wpAny_ite_false (by decide) ?_; wp_walk using wpAny_loadPart' hl)
      | (refine wpAny_ite_true (by simp) ?_; wp_walk using wpAny_loadPart' hl))
    all_goals first
      | exact ⟨_, rfl, h⟩
      | skip
def rRepS (K : PySem.W.Frag) : R2 := fun x y H Q => ∃ l k xs, x = .ref l ∧ y = .int k ∧ SqT K H l xs ∧ xs ≠ [] ∧ xs.length ≤ 1000 ∧ ((k = 1 ∧ Q (.ref l) H) ∨ (k = 0 ∧ ∀ p, H p = none → Q (.ref p) (upd H p (.tup []))))
section
variable {X : Cx} {K : PySem.W.Frag}
theorem op_repS : OpR X (binaryOp .Mult) (rRepS X.K) := by
  intro pins s σ H x y v u Q I rx ry h
  obtain ⟨l, k, xs, rfl, rfl, hT, hne, hz, q⟩ := h
  cases rx
  obtain ⟨t, rfl⟩ := ry
  obtain ⟨its, r, ⟨⟨cls, dd, data, sl⟩, ho, hc, n, hd⟩, hs⟩ := I.tuple hT
  simp only at hc hd
  subst hc hd
  have hle : its.length = xs.length := r.length.symm
  have hn : its ≠ [] := fun e => hne (by
    rw [e] at hle
    exact List.eq_nil_of_length_eq_zero hle.symm)
  have hi : its.toArray.isEmpty = false := by
    cases its with
    | nil => exact absurd rfl hn
    | cons a b => rfl
  rcases q with ⟨rfl, q⟩ | ⟨rfl, q⟩
  · exact wpAny_binaryOp_repeat_ref (T := "tuple") (U := "int") (by decide) ⟨_, ho, rfl⟩ (fun s' => typeIs_int s' 1 t) noFill_tuple_mul F.fills_int_mul F.slot_int_rmul repeat_tuple F.slot_int_index.lookup
      (call_meets F.slot_int_rmul (typeIs_int s 1 t) F.entry_int_rmul (F.args_int_rmul_2 _ _) (int_rmul_tuple 1 t l its.toArray n dd sl)
        ⟨ho, rfl, ⟨_, ho, rfl⟩, call_meets F.slot_tuple_mul ⟨_, ho, rfl⟩ F.entry_tuple_mul (F.args_tuple_mul_2 _ _) (tuple_mul1 l its.toArray n dd sl t) ⟨ho, .ref l, H, I.tok _, rfl, q⟩⟩)
  · refine wpAny_binaryOp_repeat_ref (T := "tuple") (U := "int") (by decide) ⟨_, ho, rfl⟩ (fun s' => typeIs_int s' 0 t) noFill_tuple_mul F.fills_int_mul F.slot_int_rmul repeat_tuple F.slot_int_index.lookup
      (call_meets F.slot_int_rmul (typeIs_int s 0 t) F.entry_int_rmul (F.args_int_rmul_2 _ _) (int_rmul_tuple 0 t l its.toArray n dd sl)
        ⟨ho, rfl, ⟨_, ho, rfl⟩, call_meets F.slot_tuple_mul ⟨_, ho, rfl⟩ F.entry_tuple_mul (F.args_tuple_mul_2 _ _) (tuple_mul0 l its.toArray n dd sl t (by rw [hi]; rfl)) ⟨ho, ?_⟩⟩)
    refine ⟨.ref s.heap.objs.size, _, I.laid (t' := s.toks) (o := .tup []) (fun b ob q => Heap.get?_push_of_some _ q) (Nat.le_refl _) ?_, rfl, q _ (I.hok.fresh (Nat.le_refl _))⟩
    exact ⟨Nat.zero_le _, [], .nil, IsTup.new _ _⟩
def mulS : D → D → Option D
  | .tup a, .int k => if a ≠ [] ∧ a.length ≤ 1000 then (if k = 1 then some (.tup a) else if k = 0 then some (.tup []) else none) else none
  | _, _ => none
theorem rb_mulS : RBin K (rRepS K) mulS := by
  intro G H x y dx dy d Q s hx hy e q
  cases dx with
  | tup a =>
    cases dy with
    | int k =>
      unfold mulS at e
      dsimp only at e
      split at e
      case isFalse => cases e
      rename_i hl
      cases hy
      cases hx with
      | tup h1 h2 =>
        refine ⟨_, k, _, rfl, rfl, SqT.of (s _ _ h1), fun z => ?_, by rw [h2.length]; exact hl.2, ?_⟩
        · subst z
          cases h2
          exact hl.1 rfl
        · split at e
          · cases e
            exact .inl ⟨by assumption, q _ G H Grow.refl s (.tup h1 h2)⟩
          · split at e
            · cases e
              exact .inr ⟨by assumption, fun p hp => q _ _ _ (Grow.new s hp) (Same.new s) (.tup upd_same .nil)⟩
            · cases e
    | _ => cases e
  | _ => cases e
def mulF2 : D → D → Option D := orE mulF mulS
theorem mulOk2 : ∃ r, OpR X (binaryOp .Mult) r ∧ RBin X.K r mulF2 := by
  obtain ⟨r, h1, h2⟩ := mulOk (X := X)
  exact ⟨_, OpR.or h1 op_repS, RBin.or h2 rb_mulS⟩
end
end Sh

/-! A law from its meaning. -/
namespace Sh
open PySem PySem.Spec PyProof.Rows L2
def spTop (K : PySem.W.Frag) : Sp := fun vs H Q _ => ∃ (a : Addr) (ns : List Int), vs = [V.ref a] ∧ SqL K H a (ns.map V.int) ∧ ns.length ≤ 63 ∧ ∀ H', Q (.bl true) H'
theorem DsL.ofInts {K : PySem.W.Frag} {G : Hp} : ∀ ns : List Int, DsL K G (ns.map V.int) (ns.map D.int)
  | [] => .nil
  | n :: ns => .cons (.int n) (DsL.ofInts ns)
theorem top_sp {K : PySem.W.Frag} {F : List Sl → Res D} (h : ∀ ns : List Int, ns.length ≤ 63 → ∃ ρ, F [.v (.scr (ns.map D.int))] = .ok (.bl true) ρ) (vs : List V) (H : Hp) (Q : VK) (E : XK) : spTop K vs H Q E → FnP K 1 F vs H Q E := by
  rintro ⟨a, ns, rfl, hS, hl, q⟩
  obtain ⟨ρ, e⟩ := h ns hl
  refine ⟨[.v (.scr (ns.map D.int))], H, rfl, ⟨rfl, fun _ _ z => z, fun i s z => ?_, fun i j b p q' m n hi hj _ _ => ?_⟩, fun i p m z => ?_, ?_⟩
  · match i, z with
    | 0, z => cases z; exact ⟨_, rfl, .scr hS (DsL.ofInts ns)⟩
  · match i, hi with
    | 0, hi => cases hi
  · match i, z with
    | 0, z => cases z
  · rw [e]
    intro G' H' s v hv
    cases hv
    exact q H'
theorem no_cx {P : Program} {w : World} {H : Hp} {s s' : Shared} {e : Value} (h : L2.CX P w [] H s (fun _ _ _ => False) e s') : False := by
  obtain ⟨_, _, _, _, _, _, _, _, _, _, _, _, z⟩ := h
  exact z
end Sh

/-! The meanings, as equations to compute with. -/
namespace Sh
open PySem PySem.Spec PyProof.Rows L2
section
variable (f g h : SemE D) (p q : SemE Bool) (fs : SemE (List D)) (u v : SemS) (ρ : List Sl) (d x y : D) (i j k : Nat) (op : D → D → Option D)
@[simp] theorem q_C : sC d ρ = .ok d ρ := rfl
@[simp] theorem q_var : sVar i ρ = (match ρ[i]? with | some (.v d) => .ok d ρ | _ => .bad) := rfl
@[simp] theorem q_bin : sBin op f g ρ = (f ρ).bind fun x ρ1 => (g ρ1).bind fun y ρ2 => lift2 op x y ρ2 := rfl
@[simp] theorem q_lift2 : lift2 op x y ρ = (match op x y with | some d => .ok d ρ | none => .bad) := rfl
@[simp] theorem q_un (o : D → Option D) : sUn o f ρ = (f ρ).bind fun x ρ1 => (match o x with | some d => .ok d ρ1 | none => .bad) := rfl
@[simp] theorem q_toBok (b : Bool) : toB (.ok (.bl b) ρ) = .ok b ρ := rfl
@[simp] theorem q_T : sT f ρ = toB (f ρ) := rfl
@[simp] theorem q_and : sAnd p q ρ = (p ρ).bind fun b ρ1 => if b = true then q ρ1 else .ok false ρ1 := rfl
@[simp] theorem q_or : sOr p q ρ = (p ρ).bind fun b ρ1 => if b = true then .ok true ρ1 else q ρ1 := rfl
@[simp] theorem q_not : sNot p ρ = (p ρ).bind fun b ρ1 => .ok (!b) ρ1 := rfl
@[simp] theorem q_andV : sAndV f g ρ = (toB (f ρ)).bind fun b ρ1 => if b = true then g ρ1 else .ok (.bl false) ρ1 := rfl
@[simp] theorem q_orV : sOrV f g ρ = (toB (f ρ)).bind fun b ρ1 => if b = true then .ok (.bl true) ρ1 else g ρ1 := rfl
@[simp] theorem q_notV : sNotV f ρ = (toB (f ρ)).bind fun b ρ1 => .ok (.bl !b) ρ1 := rfl
@[simp] theorem q_if : sIf p f g ρ = (p ρ).bind fun b ρ1 => if b = true then f ρ1 else g ρ1 := rfl
@[simp] theorem q_nil : sNil ρ = .ok [] ρ := rfl
@[simp] theorem q_cons : sCons f fs ρ = (f ρ).bind fun x ρ1 => (fs ρ1).bind fun xs ρ2 => .ok (x :: xs) ρ2 := rfl
@[simp] theorem q_tup : sTup fs ρ = (fs ρ).bind fun xs ρ1 => if xs.length ≤ 10000000 then .ok (.tup xs) ρ1 else .bad := rfl
@[simp] theorem q_fn (fn : List D → Option D) : sFn fn fs ρ = (fs ρ).bind fun xs ρ1 => (match fn xs with | some d => .ok d ρ1 | none => .bad) := rfl
@[simp] theorem q_fnL (fn : List D → Option D) : sFnL fn fs ρ = (fs ρ).bind fun xs ρ1 => (match fn xs with | some d => .ok d ρ1 | none => .bad) := rfl
@[simp] theorem q_seq : sSeq u v ρ = (u ρ).then v := rfl
@[simp] theorem q_next : sNext ρ = .nx ρ := rfl
@[simp] theorem q_ret : sRet f ρ = (f ρ).st fun d ρ1 => .rt d ρ1 := rfl
@[simp] theorem q_ifS : sIfS p u v ρ = (p ρ).st fun b ρ1 => if b = true then u ρ1 else v ρ1 := rfl
@[simp] theorem q_put : put i d ρ = (match ρ[i]? with | some (.o true _) => none | none => none | some _ => some (ρ.set i (.v d))) := rfl
@[simp] theorem q_gput : gPut i d ρ = put i d ρ := rfl
@[simp] theorem q_ofput (r : List Sl) : ofPut (some r) = .nx r := rfl
@[simp] theorem q_asg (t : SemG) : sAsg f t ρ = (f ρ).st fun d ρ1 => ofPut (t d ρ1) := rfl
@[simp] theorem q_ixo : sIxO j g ρ = (match ρ[j]? with
  | some (.o _ _) => (g ρ).bind fun y ρ1 => (sOwn j ρ1).bind fun ds ρ2 => (match y with
    | .int i => (match atI ds i with
      | some d => .ok d ρ2
      | none => .bad)
    | _ => .bad)
  | _ => .bad) := rfl
@[simp] theorem q_own : sOwn j ρ = (match ρ[j]? with | some (.o _ (.l ds)) => .ok ds ρ | _ => .bad) := rfl
@[simp] theorem q_ls : sLs f ρ = (f ρ).bind fun d ρ1 => (match d with | .lst ds => .ok ds ρ1 | .scr ds => .ok ds ρ1 | _ => .bad) := rfl
@[simp] theorem q_set : sSet j g f ρ = (f ρ).st fun d ρ1 => (match ρ1[j]? with
  | some (.o _ _) => (g ρ1).st fun y ρ2 => (match ρ2[j]?, y with
    | some (.o p (.l ds)), .int i => (match ixN ds.length i with
      | some k => .nx (ρ2.set j (.o p (.l (ds.set k d))))
      | none => .bad)
    | _, _ => .bad)
  | _ => .bad) := rfl
@[simp] theorem q_iter : sIter f ρ = (f ρ).bind fun d ρ1 => (match d with | .lst ds => .ok ds ρ1 | .scr ds => .ok ds ρ1 | .tup ds => .ok ds ρ1 | _ => .bad) := rfl
@[simp] theorem q_rng1 : sRng1 fs ρ = (fs ρ).bind fun ds ρ1 => (match ds with | [.int n] => if n < 2 ^ 62 ∧ -(2 ^ 62) ≤ n then .ok (rangeD 0 n.toNat) ρ1 else .bad | _ => .bad) := rfl
@[simp] theorem q_enumT : sEnumT fs ρ = (fs ρ).bind fun ds ρ1 => (match ds with | [.tup xs] => .ok (enumD 0 xs) ρ1 | _ => .bad) := rfl
@[simp] theorem q_zip : sZip fs ρ = (fs ρ).bind fun ds ρ1 => (match ds with | [.tup xs, .tup ys] => .ok (zipD xs ys) ρ1 | [.lst xs, .lst ys] => .ok (zipD xs ys) ρ1 | _ => .bad) := rfl
@[simp] theorem q_gsnil : gsNil [] ρ = some ρ := rfl
@[simp] theorem q_gscons (t : SemG) (w : SemGs) (ds : List D) : gsCons t w (d :: ds) ρ = (t d ρ).bind fun ρ1 => w ds ρ1 := rfl
@[simp] theorem q_gtup (n : Nat) (t : SemGs) (ds : List D) : gTupS n t (.tup ds) ρ = if ds.length = n then t ds ρ else none := rfl
@[simp] theorem q_yes : sYes ρ = .ok true ρ := rfl
@[simp] theorem q_L : sL fs ρ = (fs ρ).bind fun ds ρ1 => .ok (.lst ds) ρ1 := rfl
@[simp] theorem q_lim : sLim fs ρ = (fs ρ).bind fun ds ρ1 => if ds.length ≤ 10000000 then .ok ds ρ1 else .bad := rfl
@[simp] theorem q_chain (f1 f2 : D → D → Option D) : sChain f1 f2 f g h ρ = (f ρ).bind fun x ρ1 => (g ρ1).bind fun y ρ2 => (toB (lift2 f1 x y ρ2)).bind fun k ρ3 => if k = true then (h ρ3).bind fun z ρ4 => lift2 f2 y z ρ4 else .ok (.bl false) ρ3 := rfl
@[simp] theorem q_noP : sNoP ρ = .ok none ρ := rfl
@[simp] theorem q_part : sPart f ρ = (f ρ).bind fun d ρ1 => (match d with | .int i => .ok (some i) ρ1 | _ => .bad) := rfl
@[simp] theorem q_cut (l r : SemE (Option Int)) : sCut f l r ρ = (f ρ).bind fun d ρ1 => (l ρ1).bind fun lo ρ2 => (r ρ2).bind fun hi ρ3 => (match d with | .tup ds => .ok (.tup (cutD ds lo hi)) ρ3 | _ => .bad) := rfl
@[simp] theorem q_ev0 : evA [] ρ = .ok [] ρ := rfl
@[simp] theorem q_ev1 (r : List AE) : evA (.e f :: r) ρ = (f ρ).bind fun d ρ1 => (evA r ρ1).bind fun as ρ2 => .ok (.d d :: as) ρ2 := rfl
@[simp] theorem q_ev2 (r : List AE) : evA (.o j :: r) ρ = (match ρ[j]? with | some (.o _ _) => (evA r ρ).bind fun as ρ1 => .ok (.o j :: as) ρ1 | _ => .bad) := rfl
@[simp] theorem q_mk0 : mkArgs ρ [] = some [] := rfl
@[simp] theorem q_mk1 (a : AV) (r : List AV) : mkArgs ρ (a :: r) = (mkArg ρ a).bind fun s => (mkArgs ρ r).bind fun ss => some (s :: ss) := rfl
@[simp] theorem q_mkd : mkArg ρ (.d d) = some (.v d) := rfl
@[simp] theorem q_mko : mkArg ρ (.o j) = (match ρ[j]? with | some (.o _ m) => some (.o true m) | _ => none) := rfl
@[simp] theorem q_ow0 : owns [] = [] := rfl
@[simp] theorem q_ow1 (r : List AV) : owns (.d d :: r) = owns r := rfl
@[simp] theorem q_ow2 (r : List AV) : owns (.o j :: r) = j :: owns r := rfl
@[simp] theorem q_nd0 : nodupB [] = true := rfl
@[simp] theorem q_nd1 (r : List Nat) : nodupB (j :: r) = ((!r.elem j) && nodupB r) := rfl
@[simp] theorem q_bk0 (ss : List Sl) : backs ρ [] ss = ρ := by cases ss <;> rfl
@[simp] theorem q_bkn (as : List AV) : backs ρ as [] = ρ := by
  cases as with
  | nil => rfl
  | cons a r => cases a <;> rfl
@[simp] theorem q_bkd (r : List AV) (s : Sl) (ss : List Sl) : backs ρ (.d d :: r) (s :: ss) = backs ρ r ss := rfl
@[simp] theorem q_bko (r : List AV) (s : Sl) (ss : List Sl) : backs ρ (.o j :: r) (s :: ss) = backs (setOwn ρ j s) r ss := rfl
@[simp] theorem q_so (s : Sl) : setOwn ρ j s = (match ρ[j]?, s with | some (.o p _), .o _ m => ρ.set j (.o p m) | _, _ => ρ) := rfl
@[simp] theorem q_callF (F : List Sl → Res D) (as : List AV) : callF F as ρ = (match mkArgs ρ as with
  | none => .bad
  | some args => if nodupB (owns as) = true then (match F args with
    | .ok d args' => .ok d (backs ρ as args')
    | .exc x args' => .exc x (backs ρ as args')
    | .bad => .bad) else .bad) := rfl
@[simp] theorem q_call (F : List Sl → Res D) (as : List AE) : sCall F as ρ = (evA as ρ).bind fun vs ρ1 => callF F vs ρ1 := rfl
@[simp] theorem q_callFN (F : List Sl → Res (List D)) (as : List AV) : callFN F as ρ = (match mkArgs ρ as with
  | none => .bad
  | some args => if nodupB (owns as) = true then (match F args with
    | .ok d args' => .ok d (backs ρ as args')
    | .exc x args' => .exc x (backs ρ as args')
    | .bad => .bad) else .bad) := rfl
@[simp] theorem q_callN (F : List Sl → Res (List D)) (as : List AE) : sCallN F as ρ = (evA as ρ).bind fun vs ρ1 => callFN F vs ρ1 := rfl
@[simp] theorem q_pk0 (m m' : Mu) (b b' : Bool) : pick (.o b m) (.o b' m') = .o b' m' := rfl
@[simp] theorem q_pk1 (s : Sl) : pick (.v d) s = .v d := rfl
@[simp] theorem q_pk2 (s : Sl) : pick .un s = .un := rfl
@[simp] theorem q_back (args : List Sl) : back args ρ = List.zipWith pick args ρ := rfl
theorem runFn_rt {k : Nat} {body : SemS} {args ρ' : List Sl} {d : D} (e : body (args ++ List.replicate k .un) = .rt d ρ') : runFn k body args = .ok d (back args ρ') := by unfold runFn; rw [e]
theorem runFn_nx {k : Nat} {body : SemS} {args ρ' : List Sl} (e : body (args ++ List.replicate k .un) = .nx ρ') : runFn k body args = .ok .non (back args ρ') := by unfold runFn; rw [e]
@[simp] theorem q_for (it : SemE (List D)) (t : SemG) (b : SemS) : sFor it t b ρ = (it ρ).st fun ds ρ1 => loopS t b ds ρ1 := rfl
@[simp] theorem q_loop0 (t : SemG) (b : SemS) : loopS t b [] ρ = .nx ρ := rfl
@[simp] theorem q_loop1 (t : SemG) (b : SemS) (ds : List D) : loopS t b (d :: ds) ρ = tgRun (t d ρ) fun ρ1 => turn (b ρ1) (loopS t b ds) := rfl
@[simp] theorem q_opI (C : Int → Int → Bool) (o : Int → Int → D) (a b : Int) : opII C o (.int a) (.int b) = if C a b = true then some (o a b) else none := rfl
@[simp] theorem q_add (a b : Int) : addF (.int a) (.int b) = some (.int (a + b)) := rfl
@[simp] theorem q_sub (a b : Int) : subF (.int a) (.int b) = some (.int (a - b)) := rfl
@[simp] theorem q_div (a b : Int) : divF (.int a) (.int b) = if divC a b = true then some (.int (a / b)) else none := rfl
@[simp] theorem q_mod (a b : Int) : modF (.int a) (.int b) = if modC a b = true then some (.int (a % b)) else none := rfl
@[simp] theorem q_pow (a b : Int) : powF (.int a) (.int b) = if powC a b = true then some (.int (a ^ b.toNat)) else none := rfl
theorem q_mul {a b : Int} (hc : mulC a b = true) : mulF2 (.int a) (.int b) = some (.int (a * b)) := by
  unfold mulF2 mulF orE mulI
  simp [hc]
@[simp] theorem q_gt (a b : Int) : gtF (.int a) (.int b) = some (.bl (decide (b < a))) := rfl
@[simp] theorem q_ge (a b : Int) : geF (.int a) (.int b) = some (.bl (decide (b ≤ a))) := rfl
@[simp] theorem q_le (a b : Int) : leF (.int a) (.int b) = some (.bl (decide (a ≤ b))) := rfl
@[simp] theorem q_lt (a b : Int) : ltF2 (.int a) (.int b) = some (.bl (decide (a < b))) := rfl
@[simp] theorem q_neg (a : Int) : negF (.int a) = some (.int (-a)) := rfl
@[simp] theorem q_int (a : Int) : intV [.int a] = some (.int a) := rfl
@[simp] theorem q_len1 (ds : List D) : lenV [.tup ds] = some (.int ds.length) := rfl
@[simp] theorem q_len2 (ds : List D) : lenV [.lst ds] = some (.int ds.length) := rfl
@[simp] theorem q_lenF (ds : List D) : lenF ds = some (.int ds.length) := rfl
@[simp] theorem q_tupF (ds : List D) : tupF ds = some (.tup ds) := rfl
@[simp] theorem q_lstF (ds : List D) : lstF ds = some (.lst ds) := rfl
@[simp] theorem q_min (a b : Int) : minV [.int a, .int b] = some (.int (if b < a then b else a)) := rfl
@[simp] theorem q_ix1 (ds : List D) (a : Int) : ixF (.tup ds) (.int a) = atI ds a := rfl
@[simp] theorem q_ix2 (ds : List D) (a : Int) : ixF (.lst ds) (.int a) = atI ds a := rfl
theorem atN {α : Type} {xs : List α} {i : Nat} {a : α} (e : xs[i]? = some a) : atI xs (i : Int) = some a := by
  have hi := (List.getElem?_eq_some_iff.mp e).1
  unfold atI ixN
  rw [if_pos (by omega), if_pos (by omega)]
  simpa using e
end
end Sh

/-! Comprehensions computed. -/
namespace Sh
open PySem PySem.Spec PyProof.Rows L2
theorem merge_blank (is : List Nat) (ρ : List Sl) : merge is ρ (blank is ρ) = ρ := by
  apply List.ext_getElem?
  intro i
  by_cases hi : i ∈ is
  · unfold merge blank
    simp only [List.getElem?_mapIdx]
    cases q : ρ[i]? with
    | none => rfl
    | some x => simp [hi, q]
  · rw [merge_out hi, blank_out hi]
theorem compL_map {is : List Nat} {t : SemG} {f : SemE D} {g : D → D} {ρ : List Sl} : ∀ (ds acc : List D), (∀ d ∈ ds, ∃ ρ1 ρ2, t d ρ = some ρ1 ∧ f ρ1 = .ok (g d) ρ2 ∧ blank is ρ2 = ρ) → acc.length + ds.length ≤ 10000000 →
    compL is t sYes f ds acc ρ = .ok (acc ++ ds.map g) ρ
  | [], acc, _, _ => by simp [compL]
  | d :: ds, acc, h, hl => by
    obtain ⟨ρ1, ρ2, h1, h2, h3⟩ := h d (List.mem_cons_self ..)
    rw [List.length_cons] at hl
    have ih := compL_map ds (acc ++ [g d]) (fun d hd => h d (List.mem_cons_of_mem _ hd)) (by rw [List.length_append, List.length_singleton]; omega)
    unfold compL
    rw [h1, tgComp_some, q_yes, noexc_ok, if_pos rfl, h2, noexc_ok, if_pos (by omega), h3, ih]
    simp
theorem sLc_map {is : List Nat} {it : SemE (List D)} {t : SemG} {f : SemE D} (g : D → D) {ρ ρ1 : List Sl} {ds : List D} (hi : it ρ = .ok ds ρ1) (no : noOwn is ρ1 = true) (hl : ds.length ≤ 10000000)
    (h : ∀ d ∈ ds, ∃ ρ2 ρ3, t d (blank is ρ1) = some ρ2 ∧ f ρ2 = .ok (g d) ρ3 ∧ blank is ρ3 = blank is ρ1) : sLc is it t sYes f ρ = .ok (ds.map g) ρ1 := by
  unfold sLc
  rw [hi, Res.bind_ok, if_pos no, compL_map ds [] h (by simpa using hl), noexc_ok, merge_blank]
  rfl
theorem allBl_ev : ∀ (ds : List D) (p : D → Bool), allBl (ds.map fun d => .bl (p d)) = some (ds.map p)
  | [], _ => rfl
  | d :: ds, p => by
    rw [List.map_cons, List.map_cons]
    show (allBl (ds.map fun d => D.bl (p d))).map (p d :: ·) = _
    rw [allBl_ev ds p]
    rfl
theorem allF_map (ds : List D) (p : D → Bool) : allF (ds.map fun d => .bl (p d)) = some (.bl (ds.all p)) := by
  unfold allF
  rw [allBl_ev]
  simp [List.all_map]
theorem allF_true {ds : List D} {p : D → Bool} (h : ∀ d ∈ ds, p d = true) : allF (ds.map fun d => .bl (p d)) = some (.bl true) := by
  rw [allF_map, List.all_eq_true.mpr h]
theorem shaped_int (n : Int) : SeqAt.shaped (.int n) = true := by rfl
theorem eqD_int (neg : Bool) (i j : Int) : eqD neg (.int i) (.int j) = some (.bl (if neg then !(decide (i = j)) else decide (i = j))) := by
  simp only [eqD, toPy, shaped_int, and_self, if_true, PyData.eqv]
  by_cases h : i = j <;> cases neg <;> simp [h]
theorem eqD_self (neg : Bool) {d : D} {p : PyData} (h : toPy d = some p) (s : SeqAt.shaped p = true) : eqD neg d d = some (.bl (!neg)) := by
  simp only [eqD, h, s, and_self, if_true, SeqAt.eqv_refl_plain p (PyData.plain_of_canLay0 p (SeqAt.canLay_of_shaped s))]
  cases neg <;> rfl
theorem compL_if {is : List Nat} {t : SemG} {tt : SemE Bool} {f : SemE D} {c : D → Bool} {g : D → D} {ρ : List Sl} : ∀ (ds acc : List D), (∀ d ∈ ds, ∃ ρ1 ρ2 ρ3, t d ρ = some ρ1 ∧ tt ρ1 = .ok (c d) ρ2 ∧ blank is ρ2 = ρ ∧ (c d = true → f ρ2 = .ok (g d) ρ3 ∧ blank is ρ3 = ρ)) → acc.length + ds.length ≤ 10000000 →
    compL is t tt f ds acc ρ = .ok (acc ++ (ds.filter c).map g) ρ
  | [], acc, _, _ => by simp [compL]
  | d :: ds, acc, h, hl => by
    obtain ⟨ρ1, ρ2, ρ3, h1, h2, h3, h4⟩ := h d (List.mem_cons_self ..)
    rw [List.length_cons] at hl
    have rest := fun acc (hl : acc.length + ds.length ≤ 10000000) => compL_if ds acc (fun d hd => h d (List.mem_cons_of_mem _ hd)) hl
    unfold compL
    rw [h1, tgComp_some, h2, noexc_ok]
    cases q : c d with
    | false =>
      rw [if_neg Bool.false_ne_true, h3, rest acc (by omega), List.filter_cons_of_neg (by simp [q])]
    | true =>
      obtain ⟨h5, h6⟩ := h4 q
      rw [if_pos rfl, h5, noexc_ok, if_pos (by omega), h6, rest (acc ++ [g d]) (by rw [List.length_append, List.length_singleton]; omega), List.filter_cons_of_pos q]
      simp
theorem sLc_if {is : List Nat} {it : SemE (List D)} {t : SemG} {tt : SemE Bool} {f : SemE D} (c : D → Bool) (g : D → D) {ρ ρ1 : List Sl} {ds : List D} (hi : it ρ = .ok ds ρ1) (no : noOwn is ρ1 = true) (hl : ds.length ≤ 10000000)
    (h : ∀ d ∈ ds, ∃ ρ2 ρ3 ρ4, t d (blank is ρ1) = some ρ2 ∧ tt ρ2 = .ok (c d) ρ3 ∧ blank is ρ3 = blank is ρ1 ∧ (c d = true → f ρ3 = .ok (g d) ρ4 ∧ blank is ρ4 = blank is ρ1)) : sLc is it t tt f ρ = .ok ((ds.filter c).map g) ρ1 := by
  unfold sLc
  rw [hi, Res.bind_ok, if_pos no, compL_if ds [] h (by simpa using hl), noexc_ok, merge_blank]
  rfl
theorem allInt_ints : ∀ ns : List Int, allInt (ns.map D.int) = some ns
  | [] => rfl
  | n :: ns => by
    rw [List.map_cons]
    show (allInt (ns.map D.int)).map (n :: ·) = _
    rw [allInt_ints ns]
    rfl
theorem q_in (neg : Bool) (i : Int) (ns : List Int) : inI neg (.int i) (.lst (ns.map .int)) = some (.bl (if neg then !ns.contains i else ns.contains i)) := by
  show (allInt (ns.map D.int)).map _ = _
  rw [allInt_ints]
  rfl
/-- a loop whose turns keep I -/
theorem loop_inv {t : SemG} {b : SemS} (I : Nat → List Sl → Prop) : ∀ (ds : List D) (k : Nat) (ρ : List Sl), I k ρ → (∀ (i : Nat) (d : D) (ρ : List Sl), ds[i]? = some d → I (k + i) ρ → ∃ ρ1 ρ2, t d ρ = some ρ1 ∧ b ρ1 = .nx ρ2 ∧ I (k + i + 1) ρ2) → ∃ ρ', loopS t b ds ρ = .nx ρ' ∧ I (k + ds.length) ρ'
  | [], k, ρ, h, _ => ⟨ρ, rfl, h⟩
  | d :: ds, k, ρ, h, st => by
    obtain ⟨ρ1, ρ2, h1, h2, h3⟩ := st 0 d ρ rfl h
    obtain ⟨ρ', h4, h5⟩ := loop_inv I ds (k + 1) ρ2 h3 fun i d' ρ hd hI => by
      have := st (i + 1) d' ρ (by rw [List.getElem?_cons_succ]; exact hd) (by rw [show k + (i + 1) = k + 1 + i by omega]; exact hI)
      rw [show k + (i + 1) + 1 = k + 1 + i + 1 by omega] at this
      exact this
    refine ⟨ρ', ?_, by rw [List.length_cons, show k + (ds.length + 1) = k + 1 + ds.length by omega]; exact h5⟩
    rw [q_loop1, h1, tgRun_some, h2, turn_nx, h4]
theorem big62 {n : Nat} (h : n ≤ 1000000) : (n : Int) < 2 ^ 62 ∧ -(2 ^ 62) ≤ (n : Int) := by
  have e : ((1000000 : Nat) : Int) ≤ 2 ^ 62 := by decide +kernel
  have e2 : -(2 ^ 62) ≤ (0 : Int) := by decide +kernel
  have e3 : ((1000000 : Nat) : Int) < 2 ^ 62 := by decide +kernel
  exact ⟨Int.lt_of_le_of_lt (Int.ofNat_le.mpr h) e3, Int.le_trans e2 (Int.natCast_nonneg n)⟩
theorem q_rngN {fs : SemE (List D)} {ρ ρ1 : List Sl} {n : Nat} (e : fs ρ = .ok [.int (n : Int)] ρ1) (h : n ≤ 1000000) : sRng1 fs ρ = .ok (rangeD 0 n) ρ1 := by
  rw [q_rng1, e, Res.bind_ok]
  show (if _ then _ else _) = _
  rw [if_pos (big62 h), Int.toNat_natCast]
end Sh

/-! More words: an own object read for good or anew, extend, index, abs. -/
namespace Sh
open PySem PySem.Spec PyProof.Rows L2
section
variable {X : Cx} {W : WX} {e a : Expr} {f : SemE D} {fs : SemE (List D)} {pos : Pos}
/-- a name that may hold an own object: given out for good; behind that, a value -/
def sFz (j : Nat) : SemE D := fun ρ => match ρ[j]? with
  | some (.v d) => .ok d ρ
  | some (.o false m) => .ok (muD m) (ρ.set j (.v (muD m)))
  | _ => .bad
theorem se_fz (j : Nat) (h : PE X e (tVar j)) : SE X W e (sFz j) := by
  refine ⟨_, h, fun ρ σ G H Q r q => ?_⟩
  unfold sFz at q
  split at q
  case h_3 => exact q.elim
  case h_1 d e1 =>
    obtain ⟨v, h1, h2⟩ := r.sl j _ e1
    exact ⟨v, h1, Asks.pure r q v h2⟩
  case h_2 m e1 =>
    obtain ⟨b, o, h1, h2, h3, h4⟩ := r.sl j _ e1
    obtain ⟨st, hd⟩ := r.frz e1 h1 h3 h2 h4
    exact ⟨_, h1, q _ _ st _ hd⟩
def absV : List D → Option D
  | [.int i] => some (.int (if i < 0 then -i else i))
  | _ => none
theorem rc_abs {K : PySem.W.Frag} : RCall K (fun xs H Q => ∃ i, xs = [V.int i] ∧ Q (.int (if i < 0 then -i else i)) H) absV := by
  intro G H xs ds d Q s h e q
  unfold absV at e
  split at e
  case h_2 => cases e
  rename_i i
  cases e
  cases h with
  | cons h1 h2 =>
    cases h2
    cases h1
    exact ⟨i, rfl, q _ G H Grow.refl s (.int _)⟩
/-- x.extend(a new list), x an own list -/
def sExt (j : Nat) (f : SemE (List D)) : SemS := fun ρ => match ρ[j]? with
  | some (.o _ (.l _)) => (f ρ).st fun es ρ1 => (match ρ1[j]? with
    | some (.o p (.l ds)) => if ds.length + es.length ≤ 10000000 then .nx (ρ1.set j (.o p (.l (ds ++ es)))) else .bad
    | _ => .bad)
  | _ => .bad
theorem ss_ext (j : Nat) {apos cpos : Pos} (ha : PE X a (tVar j)) (he : SN X W e fs) (hs : swapsWith (.Call (.Attribute a "extend" apos) [e] [] cpos) none pos.line X.env = pure false := by rfl)
    (hb : attributeBase a "extend" X.env (eval a X.env) = eval a X.env := by rfl)
    (hfew : ((backTo cpos (starEach (e :: []) X.env)).all (fun x => !x.1) && (backToKw cpos (keywordEach [] X.env)).all (fun x => x.1.isSome) && decide ((e :: []).length + ([] : List Keyword).length + (if ([] : List Keyword).isEmpty then 0 else 1) < 30)) = true := by rfl)
    (hline : (apos.endLine == cpos.line) = true := by rfl) (hse : starEach (e :: []) X.env = (false, eval e X.env) :: starEach [] X.env := by rfl) (hplain : (backTo cpos (starEach [] X.env)).any (·.1) = false := by rfl) :
    SS X W (.Expr (.Call (.Attribute a "extend" apos) [e] [] cpos) pos) (sExt j fs) := by
  obtain ⟨te, e1, e2⟩ := he
  refine ⟨_, ps_expr (pe_bm PySem.F.plainAttrs_list PySem.F.slot_list_extend PySem.F.type_list_extend mt_extend ha (pa_cons e1 pa_nil hse) hb hfew hline hse hplain) hs, fun ρ σ G H E rl q => ?_⟩
  unfold sExt at q
  split at q
  case h_2 => exact q.elim
  rename_i p ds0 y0
  obtain ⟨ad, vs0, y1, y3, y4, _⟩ := rl.own_l y0
  refine ⟨_, y1, .inl ⟨rfl, _, SqL.of y4⟩, e2 ρ σ G H _ rl ((Asks.stmt (k := fun es ρ1 => (match ρ1[j]? with
    | some (.o p (.l ds)) => if ds.length + es.length ≤ 10000000 then .nx (ρ1.set j (.o p (.l (ds ++ es)))) else .bad
    | _ => .bad)) q).imp fun es ρ1 G1 H1 z1 s1 q1 b us hb0 hus => ?_)⟩
  split at q1
  case h_2 => exact q1.elim
  rename_i p1 ds y2
  obtain ⟨a2, vs, k1, k2, k3, k4⟩ := s1.rel.own_l y2
  rw [y1] at k1
  cases k1
  split at q1
  case isFalse => exact q1.elim
  rename_i hl
  have s2 := s1.rel.step (Grow.new (o := .lst us) s1.rel.same hb0) (Same.new s1.rel.same)
  have up := Same.at (o := HO.lst us) s1.rel.same hb0
  have nab : ad ≠ b := ne_of_none k3 hb0
  have k3' : (upd H1 b (.lst us)) ad = some (.lst vs) := by rw [upd_ne nab]; exact k3
  have k2' : (upd G1 b (.lst us)) ad = none := by rw [upd_ne nab]; exact k2
  refine ⟨_, b, vs, us, rfl, rfl, k3', upd_same, Nat.le_trans (by rw [k4.length, hus.length]; exact hl) tenM, ?_⟩
  exact AskS.step s2 q1 _ _ _ (s2.rel.wr y2 y1 k3' k2' (show MuOk X.K (upd G1 b (.lst us)) (.l (ds ++ es)) (.lst (vs ++ us)) from (k4.mono up).append (hus.mono up)))
/-! list.index of an int, there -/
theorem idxOf_at : ∀ {ns : List Int} {i : Int} {k : Nat}, ns.idxOf? i = some k → ns[k]? = some i ∧ ∀ (m : Nat) (z : Int), m < k → ns[m]? = some z → z ≠ i
  | [], i, k, h => by cases h
  | n :: ns, i, k, h => by
    rw [List.idxOf?_cons] at h
    by_cases e : n = i
    · subst e
      simp at h
      subst h
      exact ⟨rfl, fun m z hm => by omega⟩
    · rw [if_neg (by simpa using e)] at h
      cases q : ns.idxOf? i with
      | none => rw [q] at h; cases h
      | some j =>
        rw [q] at h
        have hk : j + 1 = k := Option.some.inj h
        obtain ⟨h1, h2⟩ := idxOf_at q
        subst hk
        refine ⟨by rw [List.getElem?_cons_succ]; exact h1, fun m z hm hz => ?_⟩
        cases m with
        | zero => rw [List.getElem?_cons_zero] at hz; cases hz; exact e
        | succ m => exact h2 m z (by omega) (by rw [← hz, List.getElem?_cons_succ])
theorem DsL.ints_of {K : PySem.W.Frag} {G : Hp} {vs : List V} {xs : List D} {ns : List Int} (h : DsL K G vs xs) (e : allInt xs = some ns) : vs = ns.map V.int := by
  have ex := allInt_map e
  subst ex
  exact h.ints
def sIdx (f g : SemE D) : SemE D := fun ρ => (f ρ).bind fun x ρ1 => match x with
  | .lst xs => (g ρ1).bind fun y ρ2 => (match y with
    | .int i => (match (allInt xs).bind fun ns => ns.idxOf? i with
      | some k => .ok (.int (k : Int)) ρ2
      | none => .bad)
    | _ => .bad)
  | _ => .bad
theorem se_idx {apos cpos : Pos} {o : Expr} {g : SemE D} (ho : SE X W o f) (he : SE X W e g) (hb : attributeBase o "index" X.env (eval o X.env) = eval o X.env := by rfl)
    (hfew : ((backTo cpos (starEach (e :: []) X.env)).all (fun x => !x.1) && (backToKw cpos (keywordEach [] X.env)).all (fun x => x.1.isSome) && decide ((e :: []).length + ([] : List Keyword).length + (if ([] : List Keyword).isEmpty then 0 else 1) < 30)) = true := by rfl)
    (hline : (apos.endLine == cpos.line) = true := by rfl) (hse : starEach (e :: []) X.env = (false, eval e X.env) :: starEach [] X.env := by rfl) (hplain : (backTo cpos (starEach [] X.env)).any (·.1) = false := by rfl) :
    SE X W (.Call (.Attribute o "index" apos) [e] [] cpos) (sIdx f g) := by
  obtain ⟨to, o1, o2⟩ := ho
  obtain ⟨te, e1, e2⟩ := he
  refine ⟨_, pe_bm PySem.F.plainAttrs_list PySem.F.slot_list_index PySem.F.type_list_index mt_index o1 (pa_cons e1 pa_nil hse) hb hfew hline hse hplain, fun ρ σ G H Q rl q => ?_⟩
  refine o2 ρ σ G H _ rl ((Asks.bind q).imp fun x ρ1 G1 H1 z1 s1 q1 v hv => ?_)
  cases x with
  | lst xs =>
    cases hv with
    | lst h1 h2 =>
      refine ⟨.inl ⟨rfl, _, SqL.of (s1.rel.same _ _ h1)⟩, e2 ρ1 σ G1 H1 _ s1.rel ((Asks.bind q1).imp fun y ρ2 G2 H2 z2 s2 q2 u hu => ?_)⟩
      cases y with
      | int i =>
        cases hu
        cases ea : allInt xs with
        | none => rw [ea] at q2; exact q2.elim
        | some ns =>
          rw [ea] at q2
          dsimp only [Option.bind_some] at q2
          cases ek : ns.idxOf? i with
          | none => rw [ek] at q2; exact q2.elim
          | some k =>
            rw [ek] at q2
            have ev := h2.ints_of ea
            subst ev
            obtain ⟨k1, k2⟩ := idxOf_at ek
            refine ⟨_, _, _, k, .int i, rfl, rfl, SqL.of (s2.rel.same _ _ (s2.grow.gg _ _ h1)), rfl, ?_, ?_, ?_, fun m z hm hz => ?_, ?_⟩
            · rw [List.all_map]
              exact List.all_eq_true.mpr fun _ _ => rfl
            · rw [List.getElem?_map, k1]
              rfl
            · simp [eqV]
            · rw [List.getElem?_map] at hz
              cases em : ns[m]? with
              | none => rw [em] at hz; cases hz
              | some w =>
                rw [em] at hz
                cases hz
                have := k2 m w hm em
                simpa [eqV] using this
            · exact Asks.pure s2.rel q2 _ (.int _)
      | _ => exact q2.elim
  | _ => exact q1.elim
end
end Sh

/-! sorted pairs of ints. -/
namespace Sh
open PySem PySem.Spec PyProof.Rows L2
def sortP (ps : List (Int × Int)) : List (Int × Int) := ps.mergeSort fun a b => !SrtO.lexB b a
theorem sortP_perm (ps : List (Int × Int)) : (sortP ps).Perm ps := List.mergeSort_perm ps _
theorem sortP_ord (ps : List (Int × Int)) : (sortP ps).Pairwise fun x y => SrtO.lexB y x = false := by
  have h := List.pairwise_mergeSort (le := fun a b : Int × Int => !SrtO.lexB b a) (fun a b c h1 h2 => by
    simp only [Bool.not_eq_true'] at *
    rw [SrtO.lexB_no] at *
    omega) (fun a b => by
    simp only [Bool.or_eq_true, Bool.not_eq_true']
    rw [SrtO.lexB_no, SrtO.lexB_no]
    omega) ps
  exact h.imp fun h => by simpa using h
theorem sortP_uniq : ∀ {l m : List (Int × Int)}, l.Perm m → (l.Pairwise fun x y => SrtO.lexB y x = false) → (m.Pairwise fun x y => SrtO.lexB y x = false) → l = m
  | [], m, p, _, _ => (List.Perm.eq_nil p.symm).symm
  | x :: l, [], p, _, _ => absurd p.length_eq (by simp)
  | x :: l, y :: m, p, hl, hm => by
    have e : x = y := by
      by_cases q : x = y
      · exact q
      · have h1 : SrtO.lexB x y = false := ((List.pairwise_cons.mp hm).1 x) ((List.mem_cons.mp (p.mem_iff.mp (List.mem_cons_self ..))).resolve_left q)
        have h2 : SrtO.lexB y x = false := ((List.pairwise_cons.mp hl).1 y) ((List.mem_cons.mp (p.mem_iff.mpr (List.mem_cons_self ..))).resolve_left fun z => q z.symm)
        rw [SrtO.lexB_no] at h1 h2
        exact Prod.ext (by omega) (by omega)
    subst e
    rw [sortP_uniq p.cons_inv (List.pairwise_cons.mp hl).2 (List.pairwise_cons.mp hm).2]
theorem sortP_eq {ps qs : List (Int × Int)} (p : qs.Perm ps) (o : qs.Pairwise fun x y => SrtO.lexB y x = false) : qs = sortP ps := sortP_uniq (p.trans (sortP_perm ps).symm) o (sortP_ord ps)
def pairD (p : Int × Int) : D := .tup [.int p.1, .int p.2]
def allPair : List D → Option (List (Int × Int))
  | [] => some []
  | .tup [.int i, .int j] :: r => (allPair r).map ((i, j) :: ·)
  | _ :: _ => none
theorem allPair_map : ∀ {ds : List D} {ps : List (Int × Int)}, allPair ds = some ps → ds = ps.map pairD
  | [], ps, h => by cases h; rfl
  | d :: r, ps, h => by
    unfold allPair at h
    split at h
    · rename_i h1; cases h1
    · rename_i i j r' h1
      cases h1
      cases e : allPair r with
      | none => rw [e] at h; cases h
      | some m => rw [e] at h; cases h; rw [List.map_cons, ← allPair_map e]; rfl
    · cases h
def sortPF (ds : List D) : Option D := (allPair ds).map fun ps => .lst ((sortP ps).map pairD)
/-- which pair a value is, in the frozen part -/
def pairAt (G : Hp) : V → Int × Int
  | .ref t => match G t with
    | some (.tup [.int i, .int j]) => (i, j)
    | _ => (0, 0)
  | _ => (0, 0)
theorem pairs_of {K : PySem.W.Frag} {G : Hp} : ∀ {vs : List V} {ps : List (Int × Int)}, DsL K G vs (ps.map pairD) → vs.map (pairAt G) = ps ∧ ∀ v ∈ vs, ∃ t, v = .ref t ∧ G t = some (.tup [.int (pairAt G v).1, .int (pairAt G v).2])
  | [], ps, h => by
    cases ps with
    | nil => exact ⟨rfl, fun v hv => absurd hv (by simp)⟩
    | cons p ps => cases h
  | v :: vs, ps, h => by
    cases ps with
    | nil => cases h
    | cons p ps =>
      rw [List.map_cons] at h
      cases h with
      | cons h1 h2 =>
        obtain ⟨e1, e2⟩ := pairs_of h2
        obtain ⟨i, j⟩ := p
        cases h1 with
        | @tup t xs _ g1 g2 =>
          cases g2 with
          | cons a1 g2 => cases g2 with
            | cons a2 g2 =>
              cases g2
              cases a1
              cases a2
              have ep : pairAt G (.ref t) = (i, j) := by simp only [pairAt, g1]
              refine ⟨by rw [List.map_cons, ep, e1], fun u hu => ?_⟩
              rcases List.mem_cons.mp hu with rfl | hu
              · exact ⟨t, rfl, by rw [ep]; exact g1⟩
              · exact e2 u hu
theorem ds_pairs {K : PySem.W.Frag} {G : Hp} : ∀ {vs : List V}, (∀ v ∈ vs, ∃ t, v = .ref t ∧ G t = some (.tup [.int (pairAt G v).1, .int (pairAt G v).2])) → DsL K G vs ((vs.map (pairAt G)).map pairD)
  | [], _ => .nil
  | v :: vs, h => by
    obtain ⟨t, e, g⟩ := h v (List.mem_cons_self ..)
    rw [List.map_cons, List.map_cons]
    refine .cons ?_ (ds_pairs fun u hu => h u (List.mem_cons_of_mem _ hu))
    generalize pairAt G v = p at g
    subst e
    exact .tup g (.cons (.int _) (.cons (.int _) .nil))
theorem rl_sortP {K : PySem.W.Frag} : RCallL K (rSortedPO K) sortPF := by
  intro G H p vs ds d Q s hs hl e q
  unfold sortPF at e
  cases e1 : allPair ds with
  | none => rw [e1] at e; cases e
  | some ps =>
    rw [e1] at e
    cases e
    have ed := allPair_map e1
    subst ed
    obtain ⟨h1, h2⟩ := pairs_of hl
    refine ⟨p, vs, pairAt G, rfl, hs, fun x hx => ?_, fun ys a ho hst ha => ?_⟩
    · obtain ⟨t, e, g⟩ := h2 x hx
      exact ⟨t, e, s _ _ g⟩
    · have hy : ∀ v ∈ ys, ∃ t, v = .ref t ∧ G t = some (.tup [.int (pairAt G v).1, .int (pairAt G v).2]) := fun v hv => h2 v (hst.perm.mem_iff.mp hv)
      have ey : ys.map (pairAt G) = sortP ps := by
        refine sortP_eq ?_ (List.pairwise_map.mpr ho)
        rw [← h1]
        exact hst.perm.map _
      have hd := ds_pairs (K := K) hy
      rw [ey] at hd
      exact q _ _ _ (Grow.new s ha) (Same.new s) (.lst upd_same (hd.mono (Same.at s ha)))
end Sh

/-! is None, is True, is False. -/
namespace Sh
open PySem PySem.Spec PyProof.Rows L2
def isB (neg : Bool) : D → D → Option D
  | .bl a, .bl b => some (.bl (if neg then !(decide (a = b)) else decide (a = b)))
  | _, _ => none
def isF2 (neg : Bool) : D → D → Option D := orE (isF neg) (isB neg)
theorem rb_isb {K : PySem.W.Frag} : RBin K (fun x y H Q => ∃ a b, x = V.bl a ∧ y = V.bl b ∧ Q (.bl (decide (a = b))) H) (isB false) := by
  intro G H x y dx dy d Q s hx hy e q
  cases dx with
  | bl a =>
    cases dy with
    | bl b =>
      cases hx
      cases hy
      cases e
      exact ⟨a, b, rfl, rfl, q _ G H Grow.refl s (.bl _)⟩
    | _ => cases e
  | _ => cases e
theorem rb_isnb {K : PySem.W.Frag} : RBin K (fun x y H Q => ∃ a b, x = V.bl a ∧ y = V.bl b ∧ Q (.bl (!decide (a = b))) H) (isB true) := by
  intro G H x y dx dy d Q s hx hy e q
  cases dx with
  | bl a =>
    cases dy with
    | bl b =>
      cases hx
      cases hy
      cases e
      exact ⟨a, b, rfl, rfl, q _ G H Grow.refl s (.bl _)⟩
    | _ => cases e
  | _ => cases e
section
variable {X : Cx}
theorem isOk2 : ∃ r, OpR X (compareOp .Is) r ∧ RBin X.K r (isF2 false) := by
  obtain ⟨r, h1, h2⟩ := isOk (X := X)
  exact ⟨_, OpR.or h1 op_is_bl, RBin.or h2 rb_isb⟩
theorem isnotOk2 : ∃ r, OpR X (compareOp .IsNot) r ∧ RBin X.K r (isF2 true) := by
  obtain ⟨r, h1, h2⟩ := isnotOk (X := X)
  exact ⟨_, OpR.or h1 op_isnot_bl, RBin.or h2 rb_isnb⟩
end
end Sh

/-! d[k] of an own dict. -/
namespace Sh
open PySem PySem.Spec PyProof.Rows L2
section
variable {X : Cx} {W : WX} {o a : Expr} {f : SemE D} {pos : Pos}
def sDIx (j : Nat) (f : SemE D) : SemE D := fun ρ => match muAt j ρ with
  | none => .bad
  | some _ => (f ρ).bind fun k ρ1 => match (muAt j ρ1).bind fun m => getMu m k with
    | some (some d) => .ok d ρ1
    | _ => .bad
theorem se_dix (j : Nat) (hu : X.A.units + 1 < cLine) (ho : PE X o (tVar j)) (he : SE X W a f) (hs : NoSl a := by intro _ _; rfl) : SE X W (.Subscript o a pos) (sDIx j f) := by
  obtain ⟨ta, a1, a2⟩ := he
  refine ⟨_, pe_dget hu ho a1 hs, fun ρ σ G H Q rl q => ?_⟩
  unfold sDIx at q
  cases y0 : muAt j ρ with
  | none => rw [y0] at q; exact q.elim
  | some m0 =>
    rw [y0] at q
    obtain ⟨p0, ad, o0, h1, h2, h3, h4, h5⟩ := rl.mu y0
    refine ⟨_, h2, a2 ρ σ G H _ rl ((Asks.bind q).imp fun k ρ1 G1 H1 z1 s1 q1 v hv => ?_)⟩
    cases y1 : muAt j ρ1 with
    | none => rw [y1] at q1; exact q1.elim
    | some m =>
      rw [y1] at q1
      have q1 : Asks X.K ρ1 σ G1 H1 W (match getMu m k with | some (some d) => .ok d ρ1 | _ => .bad) (fun d _ G' H' => ∀ v, Ds X.K G' v d → Q v H') := q1
      cases y2 : getMu m k with
      | none => rw [y2] at q1; exact q1.elim
      | some r =>
        cases r with
        | none => rw [y2] at q1; exact q1.elim
        | some d =>
          rw [y2] at q1
          obtain ⟨p, a3, o2, k1, k2, k3, k4, k5⟩ := s1.rel.mu y1
          rw [h2] at k2
          cases k2
          obtain ⟨rv, g1, g2⟩ := get_mu s1.rel.same k4 k5 hv y2
          rcases g2 with ⟨z, _⟩ | ⟨x, y, e1, rfl, g3⟩
          · cases z
          · cases e1
            exact ⟨ad, x, rfl, g1, Asks.pure s1.rel q1 _ g3⟩
end
end Sh

namespace Sh
open PySem PySem.Spec PyProof.Rows L2

def topS (i : Nat) : Stmt := PySem.Challenge.pw_lastdoors_k06_whole_free_and_bounded_dea.main.body.getD i (.Pass ⟨0, 0, 0, 0⟩)
abbrev s__law_tape : Stmt := topS 37
abbrev s_is_integer : Stmt := topS 6
abbrev s_is_within : Stmt := topS 7
abbrev s__are_doors : Stmt := topS 15
abbrev s_is_ascending : Stmt := topS 11
abbrev s_freely : Stmt := topS 16
abbrev s__law_pick : Stmt := topS 38
abbrev s__lead_standing : Stmt := topS 18
abbrev s_never_ahead : Stmt := topS 17
abbrev s_is_below : Stmt := topS 8
abbrev s_is_number : Stmt := topS 34
abbrev s_pair_of : Stmt := topS 31
abbrev s_is_tuple_of : Stmt := topS 9
abbrev s_steps_taken : Stmt := topS 33
abbrev s_are_moves : Stmt := topS 35
abbrev s_doors_of : Stmt := topS 29
abbrev s_are_integers : Stmt := topS 10
abbrev s__is_standing : Stmt := topS 27
abbrev s__is_dealer : Stmt := topS 26
abbrev s_reached : Stmt := topS 30
abbrev s__is_joined : Stmt := topS 28
abbrev s__check : Stmt := topS 25
abbrev s__law_row_right : Stmt := topS 41
abbrev s__law_standing : Stmt := topS 39
abbrev s__law_due : Stmt := topS 40
abbrev s_law : Stmt := topS 42
abbrev s_Web_init : Stmt := inClass (topS 24) 0
structure Ads where
  f__law_tape : Addr
  fd__law_tape : FuncData
  f_is_integer : Addr
  fd_is_integer : FuncData
  f_is_within : Addr
  fd_is_within : FuncData
  f__are_doors : Addr
  fd__are_doors : FuncData
  f_is_ascending : Addr
  fd_is_ascending : FuncData
  f_freely : Addr
  fd_freely : FuncData
  f__law_pick : Addr
  fd__law_pick : FuncData
  f__lead_standing : Addr
  fd__lead_standing : FuncData
  f_never_ahead : Addr
  fd_never_ahead : FuncData
  f_is_below : Addr
  fd_is_below : FuncData
  f_is_number : Addr
  fd_is_number : FuncData
  f_pair_of : Addr
  fd_pair_of : FuncData
  f_is_tuple_of : Addr
  fd_is_tuple_of : FuncData
  f_steps_taken : Addr
  fd_steps_taken : FuncData
  f_are_moves : Addr
  fd_are_moves : FuncData
  f_doors_of : Addr
  fd_doors_of : FuncData
  f_are_integers : Addr
  fd_are_integers : FuncData
  f__is_standing : Addr
  fd__is_standing : FuncData
  f__is_dealer : Addr
  fd__is_dealer : FuncData
  f_reached : Addr
  fd_reached : FuncData
  f__is_joined : Addr
  fd__is_joined : FuncData
  f__check : Addr
  fd__check : FuncData
  f__law_row_right : Addr
  fd__law_row_right : FuncData
  f__law_standing : Addr
  fd__law_standing : FuncData
  f__law_due : Addr
  fd__law_due : FuncData
  f_law : Addr
  fd_law : FuncData
  f_Web_init : Addr
  fd_Web_init : FuncData
  C_Web : Addr
  t_HIGHEST_DOOR : Tok
  t_LOWEST_DOOR : Tok
  t_MOST_CUPS : Tok
  t_MOST_HOUSES : Tok
  t_MOST_STANDINGS : Tok
  t_MOST_STEPS : Tok
structure Txt (K : PySem.W.Frag) (mg : Str → Option Value) (A : Ads) : Prop where
  F__law_tape : Fun K "_law_tape" "_law_tape" s__law_tape A.f__law_tape A.fd__law_tape
  b__law_tape : Binds K A.fd__law_tape ["_law_script"] []
  g__law_tape : mg "_law_tape" = some (.ref A.f__law_tape)
  F_is_integer : Fun K "is_integer" "is_integer" s_is_integer A.f_is_integer A.fd_is_integer
  b_is_integer : Binds K A.fd_is_integer ["thing"] []
  g_is_integer : mg "is_integer" = some (.ref A.f_is_integer)
  F_is_within : Fun K "is_within" "is_within" s_is_within A.f_is_within A.fd_is_within
  b_is_within : Binds K A.fd_is_within ["thing", "low", "high"] []
  g_is_within : mg "is_within" = some (.ref A.f_is_within)
  F__are_doors : Fun K "_are_doors" "_are_doors" s__are_doors A.f__are_doors A.fd__are_doors
  b__are_doors : Binds K A.fd__are_doors ["thing", "most"] []
  g__are_doors : mg "_are_doors" = some (.ref A.f__are_doors)
  F_is_ascending : Fun K "is_ascending" "is_ascending" s_is_ascending A.f_is_ascending A.fd_is_ascending
  b_is_ascending : Binds K A.fd_is_ascending ["things"] []
  g_is_ascending : mg "is_ascending" = some (.ref A.f_is_ascending)
  F_freely : Fun K "freely" "freely" s_freely A.f_freely A.fd_freely
  b_freely : Binds K A.fd_freely ["doors"] []
  g_freely : mg "freely" = some (.ref A.f_freely)
  F__law_pick : Fun K "_law_pick" "_law_pick" s__law_pick A.f__law_pick A.fd__law_pick
  b__law_pick : Binds K A.fd__law_pick ["_law_tape_here", "_law_many"] []
  g__law_pick : mg "_law_pick" = some (.ref A.f__law_pick)
  F__lead_standing : Fun K "_lead_standing" "_lead_standing" s__lead_standing A.f__lead_standing A.fd__lead_standing
  b__lead_standing : Binds K A.fd__lead_standing ["one", "other", "leads", "lead"] []
  g__lead_standing : mg "_lead_standing" = some (.ref A.f__lead_standing)
  F_never_ahead : Fun K "never_ahead" "never_ahead" s_never_ahead A.f_never_ahead A.fd_never_ahead
  b_never_ahead : Binds K A.fd_never_ahead ["one", "other", "most"] []
  g_never_ahead : mg "never_ahead" = some (.ref A.f_never_ahead)
  F_is_below : Fun K "is_below" "is_below" s_is_below A.f_is_below A.fd_is_below
  b_is_below : Binds K A.fd_is_below ["thing", "limit"] []
  g_is_below : mg "is_below" = some (.ref A.f_is_below)
  F_is_number : Fun K "is_number" "is_number" s_is_number A.f_is_number A.fd_is_number
  b_is_number : Binds K A.fd_is_number ["web", "house", "standing", "number"] []
  g_is_number : mg "is_number" = some (.ref A.f_is_number)
  F_pair_of : Fun K "pair_of" "pair_of" s_pair_of A.f_pair_of A.fd_pair_of
  b_pair_of : Binds K A.fd_pair_of ["web", "step"] []
  g_pair_of : mg "pair_of" = some (.ref A.f_pair_of)
  F_is_tuple_of : Fun K "is_tuple_of" "is_tuple_of" s_is_tuple_of A.f_is_tuple_of A.fd_is_tuple_of
  b_is_tuple_of : Binds K A.fd_is_tuple_of ["thing", "many"] []
  g_is_tuple_of : mg "is_tuple_of" = some (.ref A.f_is_tuple_of)
  F_steps_taken : Fun K "steps_taken" "steps_taken" s_steps_taken A.f_steps_taken A.fd_steps_taken
  b_steps_taken : Binds K A.fd_steps_taken ["web", "moves"] []
  g_steps_taken : mg "steps_taken" = some (.ref A.f_steps_taken)
  F_are_moves : Fun K "are_moves" "are_moves" s_are_moves A.f_are_moves A.fd_are_moves
  b_are_moves : Binds K A.fd_are_moves ["web", "thing"] []
  g_are_moves : mg "are_moves" = some (.ref A.f_are_moves)
  F_doors_of : Fun K "doors_of" "doors_of" s_doors_of A.f_doors_of A.fd_doors_of
  b_doors_of : Binds K A.fd_doors_of ["dealer"] []
  g_doors_of : mg "doors_of" = some (.ref A.f_doors_of)
  F_are_integers : Fun K "are_integers" "are_integers" s_are_integers A.f_are_integers A.fd_are_integers
  b_are_integers : Binds K A.fd_are_integers ["things"] []
  g_are_integers : mg "are_integers" = some (.ref A.f_are_integers)
  F__is_standing : Fun K "_is_standing" "_is_standing" s__is_standing A.f__is_standing A.fd__is_standing
  b__is_standing : Binds K A.fd__is_standing ["thing", "cups", "houses", "standings"] []
  g__is_standing : mg "_is_standing" = some (.ref A.f__is_standing)
  F__is_dealer : Fun K "_is_dealer" "_is_dealer" s__is_dealer A.f__is_dealer A.fd__is_dealer
  b__is_dealer : Binds K A.fd__is_dealer ["thing", "cups", "houses"] []
  g__is_dealer : mg "_is_dealer" = some (.ref A.f__is_dealer)
  F_reached : Fun K "reached" "reached" s_reached A.f_reached A.fd_reached
  b_reached : Binds K A.fd_reached ["arrows", "start"] []
  g_reached : mg "reached" = some (.ref A.f_reached)
  F__is_joined : Fun K "_is_joined" "_is_joined" s__is_joined A.f__is_joined A.fd__is_joined
  b__is_joined : Binds K A.fd__is_joined ["dealer"] []
  g__is_joined : mg "_is_joined" = some (.ref A.f__is_joined)
  F__check : Fun K "_check" "_check" s__check A.f__check A.fd__check
  b__check : Binds K A.fd__check ["cups", "dealers"] []
  g__check : mg "_check" = some (.ref A.f__check)
  F__law_row_right : Fun K "_law_row_right" "_law_row_right" s__law_row_right A.f__law_row_right A.fd__law_row_right
  b__law_row_right : Binds K A.fd__law_row_right ["_law_tape_here", "_law_most"] []
  g__law_row_right : mg "_law_row_right" = some (.ref A.f__law_row_right)
  F__law_standing : Fun K "_law_standing" "_law_standing" s__law_standing A.f__law_standing A.fd__law_standing
  b__law_standing : Binds K A.fd__law_standing ["_law_ahead"] []
  g__law_standing : mg "_law_standing" = some (.ref A.f__law_standing)
  F__law_due : Fun K "_law_due" "_law_due" s__law_due A.f__law_due A.fd__law_due
  b__law_due : Binds K A.fd__law_due ["_law_one", "_law_other", "_law_most"] []
  g__law_due : mg "_law_due" = some (.ref A.f__law_due)
  F_law : Fun K "law" "law" s_law A.f_law A.fd_law
  b_law : Binds K A.fd_law ["_law_script"] []
  g_law : mg "law" = some (.ref A.f_law)
  F_Web_init : Fun K "__init__" "Web.__init__" s_Web_init A.f_Web_init A.fd_Web_init
  b_Web_init : Binds K A.fd_Web_init ["self", "cups", "dealers"] []
  z_abs : mg "abs" = none
  z_all : mg "all" = none
  z_bool : mg "bool" = none
  z_enumerate : mg "enumerate" = none
  z_int : mg "int" = none
  z_isinstance : mg "isinstance" = none
  z_len : mg "len" = none
  z_list : mg "list" = none
  z_range : mg "range" = none
  z_sorted : mg "sorted" = none
  z_tuple : mg "tuple" = none
  z_zip : mg "zip" = none
  m_HIGHEST_DOOR : mg "HIGHEST_DOOR" = some (.int (7) A.t_HIGHEST_DOOR)
  m_LOWEST_DOOR : mg "LOWEST_DOOR" = some (.int (-6) A.t_LOWEST_DOOR)
  m_MOST_CUPS : mg "MOST_CUPS" = some (.int (6) A.t_MOST_CUPS)
  m_MOST_HOUSES : mg "MOST_HOUSES" = some (.int (8) A.t_MOST_HOUSES)
  m_MOST_STANDINGS : mg "MOST_STANDINGS" = some (.int (8) A.t_MOST_STANDINGS)
  m_MOST_STEPS : mg "MOST_STEPS" = some (.int (6) A.t_MOST_STEPS)
  cl_Web : Cls K A.C_Web
  na_cups : NoAttr K A.C_Web "cups"
  na_dealers : NoAttr K A.C_Web "dealers"
  mk_Web : Mk K A.C_Web A.f_Web_init
  g_Web : mg "Web" = some (.ref A.C_Web)
/-! _law_tape(_law_script): _law_script 0 -/
theorem sc__law_tape : FnScope ["_law_script"] ["_law_script"] (defScope s__law_tape) := ⟨rfl, rfl, rfl, by decide +kernel, rfl, by decide +kernel, by decide +kernel⟩
noncomputable def B__law_tape : SemN :=
    (sLim (sCons (sFnL lstF (sLs (sVar 0))) (sCons (sC (.int 0)) (sCons (sC (.int 0)) (sCons (sC (.int 1)) (sCons (sC (.int 0)) sNil))))))
noncomputable def F__law_tape : List Sl → Res (List D) := runFnN 0 (B__law_tape)
theorem ok__law_tape {P : Program} {w : World} {K : PySem.W.Frag} {mg : Str → Option Value} {base : Heap} {A : Ads} (T : Txt K mg A) : FnOk P w K mg base (L2.CX P w) 1 A.f__law_tape A.fd__law_tape ["_law_script"] (FnPN K 1 (F__law_tape)) := by
  have S := sc__law_tape
  refine fn_shN T.F__law_tape S fun cdv A' outer s H E hr => ?_
  exact (ss_retF (sn_lst (sa_cons (se_callLTy call_list_of rl_lst T.z_list (by decide +kernel) (sbl_se (se_var 0 (pv 0)))) (sa_cons se_int (sa_cons se_int (sa_cons se_int (sa_cons se_int sa_nil)))))))

/-! is_integer(thing): thing 0 -/
theorem sc_is_integer : FnScope ["thing"] ["thing"] (defScope s_is_integer) := ⟨rfl, rfl, rfl, by decide +kernel, rfl, by decide +kernel, by decide +kernel⟩
noncomputable def B_is_integer : SemS :=
    (sRet (sAndV (sFn isiV (sCons (sVar 0) (sCons (sC (.ty "int")) sNil))) (sNotV (sFn isiV (sCons (sVar 0) (sCons (sC (.ty "bool")) sNil))))))
noncomputable def F_is_integer : List Sl → Res D := runFn 0 (B_is_integer)
theorem ok_is_integer {P : Program} {w : World} {K : PySem.W.Frag} {mg : Str → Option Value} {base : Heap} {A : Ads} (T : Txt K mg A) : FnOk P w K mg base (L2.CX P w) 1 A.f_is_integer A.fd_is_integer ["thing"] (FnP K 1 (F_is_integer)) := by
  have S := sc_is_integer
  refine fn_sh T.F_is_integer S fun cdv A' outer s H E hr => ?_
  exact (ss_one (ss_ret (se_and (se_callB call_isi rc_isi T.z_isinstance (by decide +kernel) (sa_cons (se_var 0 (pv 0)) (sa_cons (se_bty T.z_int (by decide +kernel)) sa_nil))) (se_one (se_not (se_callB call_isi rc_isi T.z_isinstance (by decide +kernel) (sa_cons (se_var 0 (pv 0)) (sa_cons (se_bty T.z_bool (by decide +kernel)) sa_nil))))))))

/-! is_within(thing, low, high): thing 0 low 1 high 2 -/
theorem sc_is_within : FnScope ["thing", "low", "high"] ["thing", "low", "high"] (defScope s_is_within) := ⟨rfl, rfl, rfl, by decide +kernel, rfl, by decide +kernel, by decide +kernel⟩
noncomputable def B_is_within : SemS :=
    (sRet (sAndV (sCall (F_is_integer) [.e (sVar 0)]) (sChain leF leF (sVar 1) (sVar 0) (sVar 2))))
noncomputable def F_is_within : List Sl → Res D := runFn 0 (B_is_within)
theorem ok_is_within {P : Program} {w : World} {K : PySem.W.Frag} {mg : Str → Option Value} {base : Heap} {A : Ads} (T : Txt K mg A) : FnOk P w K mg base (L2.CX P w) 2 A.f_is_within A.fd_is_within ["thing", "low", "high"] (FnP K 3 (F_is_within)) := by
  have S := sc_is_within
  refine fn_sh T.F_is_within S fun cdv A' outer s H E hr => ?_
  exact (ss_one (ss_ret (se_and (se_call (ok_is_integer T) (hr.mono (by decide)) T.g_is_integer T.F_is_integer.kp T.b_is_integer (takes_of rfl rfl rfl rfl) (sv_e (se_var 0 (pv 0)) sv_nil)) (se_one (se_chain leOk leOk (se_var 1 (pv 1)) (se_var 0 (pv 0)) (se_var 2 (pv 2)))))))

/-! _are_doors(thing, most): thing 0 most 1 door 2 -/
theorem sc__are_doors : FnScope ["thing", "most", "door"] ["thing", "most"] (defScope s__are_doors) := ⟨rfl, rfl, rfl, by decide +kernel, rfl, by decide +kernel, by decide +kernel⟩
noncomputable def B__are_doors : SemS :=
    (sSeq (sIfS (sOr (sNot (sT (sFn isiV (sCons (sVar 0) (sCons (sC (.ty "tuple")) sNil))))) (sNot (sT (sChain leF leF (sC (.int 1)) (sFn lenV (sCons (sVar 0) sNil)) (sVar 1))))) (sRet (sC (.bl false))) sNext)
    (sRet (sFnL allF (sLc [2] (sIter (sVar 0)) (gPut 2) sYes (sCall (F_is_within) [.e (sVar 2), .e (sC (.int (-6))), .e (sC (.int 7))])))))
noncomputable def F__are_doors : List Sl → Res D := runFn 1 (B__are_doors)
theorem ok__are_doors {P : Program} {w : World} {K : PySem.W.Frag} {mg : Str → Option Value} {base : Heap} {A : Ads} (T : Txt K mg A) : FnOk P w K mg base (L2.CX P w) 3 A.f__are_doors A.fd__are_doors ["thing", "most"] (FnP K 2 (F__are_doors)) := by
  have S := sc__are_doors
  refine fn_sh T.F__are_doors S fun cdv A' outer s H E hr => ?_
  exact (ss_cons (ss_if (SW.st (sw_or (st_not (st_val (se_callB call_isi rc_isi T.z_isinstance (by decide +kernel) (sa_cons (se_var 0 (pv 0)) (sa_cons (se_bty T.z_tuple (by decide +kernel)) sa_nil))))) (sw_or1 (st_not (st_chain leOk leOk se_int (se_callB call_len_seq rc_len T.z_len PySem.boot_len (sa_cons (se_var 0 (pv 0)) sa_nil)) (se_var 1 (pv 1))))))) (ss_one (ss_ret se_bl)) ss_nil)
      (ss_one (ss_ret (se_callL (cr_all rfl) rl_all T.z_all (by decide +kernel) (sbl_sn (sn_lc (own := [("door", 2)]) rfl S.nd (si_seq (se_var 0 (pv 0))) (by show blkC ["thing", "most", "door"] (defScope s__are_doors) _ _ = true; decide +kernel) (fun _ _ _ _ _ => (sg_name 2 S.nd)) (fun _ _ _ _ _ => spt_nil) (fun _ _ _ _ _ => (se_call (ok_is_within T) (hr.mono (by decide)) T.g_is_within T.F_is_within.kp T.b_is_within takes0 (sv_e (se_var 2 (pv 2)) (sv_e (se_glob (v := (.int (-6))) (d := (.int (-6))) T.m_LOWEST_DOOR ⟨_, rfl⟩ fun _ => .int _) (sv_e (se_glob (v := (.int 7)) (d := (.int 7)) T.m_HIGHEST_DOOR ⟨_, rfl⟩ fun _ => .int _) sv_nil)))))))))))

/-! is_ascending(things): things 0 a 1 b 2 -/
theorem sc_is_ascending : FnScope ["things", "a", "b"] ["things"] (defScope s_is_ascending) := ⟨rfl, rfl, rfl, by decide +kernel, rfl, by decide +kernel, by decide +kernel⟩
noncomputable def B_is_ascending : SemS :=
    (sRet (sFnL allF (sLc [1, 2] (sZip (sCons (sVar 0) (sCons (sCut (sVar 0) (sPart (sC (.int 1))) sNoP) sNil))) (gTupS 2 (gsCons (gPut 1) (gsCons (gPut 2) gsNil))) sYes (sBin ltF2 (sVar 1) (sVar 2)))))
noncomputable def F_is_ascending : List Sl → Res D := runFn 2 (B_is_ascending)
theorem ok_is_ascending {P : Program} {w : World} {K : PySem.W.Frag} {mg : Str → Option Value} {base : Heap} {A : Ads} (T : Txt K mg A) : FnOk P w K mg base (L2.CX P w) 1 A.f_is_ascending A.fd_is_ascending ["things"] (FnP K 1 (F_is_ascending)) := by
  have S := sc_is_ascending
  refine fn_sh T.F_is_ascending S fun cdv A' outer s H E hr => ?_
  exact (ss_one (ss_ret (se_callL (cr_all rfl) rl_all T.z_all (by decide +kernel) (sbl_sn (sn_lc (own := [("a", 1), ("b", 2)]) rfl S.nd (si_zip T.z_zip (sa_cons (se_var 0 (pv 0)) (sa_cons (se_cutT (se_var 0 (pv 0)) (spo_some se_int) spo_none) sa_nil))) (by show blkC ["things", "a", "b"] (defScope s_is_ascending) _ _ = true; decide +kernel) (fun _ _ _ _ _ => (sg_tup rfl (sgs_cons (sg_name 1 S.nd) (sgs_cons (sg_name 2 S.nd) sgs_nil)))) (fun _ _ _ _ _ => spt_nil) (fun _ _ _ _ _ => (se_cmpE (ltOk hr.units0) (se_var 1 (pv 1)) (se_var 2 (pv 2)))))))))

/-! freely(doors): doors 0 door 1 -/
theorem sc_freely : FnScope ["doors", "door"] ["doors"] (defScope s_freely) := ⟨rfl, rfl, rfl, by decide +kernel, rfl, by decide +kernel, by decide +kernel⟩
noncomputable def B_freely : SemS :=
    (sSeq (sIfS (sNot (sAnd (sT (sCall (F__are_doors) [.e (sVar 0), .e (sC (.int 6))])) (sT (sCall (F_is_ascending) [.e (sVar 0)])))) sNever sNext)
    (sRet (sTup (sCons (sFnL tupF (sLc [1] (sIter (sVar 0)) (gPut 1) sYes (sTup (sCons (sVar 1) (sCons (sC (.int 0)) sNil))))) sNil))))
noncomputable def F_freely : List Sl → Res D := runFn 1 (B_freely)
theorem ok_freely {P : Program} {w : World} {K : PySem.W.Frag} {mg : Str → Option Value} {base : Heap} {A : Ads} (T : Txt K mg A) : FnOk P w K mg base (L2.CX P w) 4 A.f_freely A.fd_freely ["doors"] (FnP K 1 (F_freely)) := by
  have S := sc_freely
  refine fn_sh T.F_freely S fun cdv A' outer s H E hr => ?_
  exact (ss_cons (ss_if (st_not (SW.st (sw_and (st_val (se_call (ok__are_doors T) (hr.mono (by decide)) T.g__are_doors T.F__are_doors.kp T.b__are_doors (takes_of rfl rfl rfl rfl) (sv_e (se_var 0 (pv 0)) (sv_e se_int sv_nil)))) (sw_and1 (st_val (se_call (ok_is_ascending T) (hr.mono (by decide)) T.g_is_ascending T.F_is_ascending.kp T.b_is_ascending (takes_of rfl rfl rfl rfl) (sv_e (se_var 0 (pv 0)) sv_nil))))))) (ss_one ss_never) ss_nil)
      (ss_one (ss_ret (se_tup (sa_cons (se_callLTy call_tuple_of rl_tup T.z_tuple (by decide +kernel) (sbl_sn (sn_lc (own := [("door", 1)]) rfl S.nd (si_seq (se_var 0 (pv 0))) (by show blkC ["doors", "door"] (defScope s_freely) _ _ = true; decide +kernel) (fun _ _ _ _ _ => (sg_name 1 S.nd)) (fun _ _ _ _ _ => spt_nil) (fun _ _ _ _ _ => (se_tup (sa_cons (se_var 1 (pv 1)) (sa_cons se_int sa_nil))))))) sa_nil)))))

/-! _law_pick(_law_tape_here, _law_many): _law_tape_here 0 _law_many 1 _law_cell 2 _law_mixed 3 _law_digit 4 -/
theorem sc__law_pick : FnScope ["_law_tape_here", "_law_many", "_law_cell", "_law_mixed", "_law_digit"] ["_law_tape_here", "_law_many"] (defScope s__law_pick) := ⟨rfl, rfl, rfl, by decide +kernel, rfl, by decide +kernel, by decide +kernel⟩
noncomputable def B__law_pick : SemS :=
    (sSeq (sIfS (sT (sBin gtF (sIxO 0 (sC (.int 2))) (sC (.int 1)))) (sSeq (sAsg (sBin modF (sFn intV (sCons (sIxO 0 (sC (.int 2))) sNil)) (sVar 1)) (gPut 4))
    (sSeq (sSet 0 (sC (.int 2)) (sBin divF (sIxO 0 (sC (.int 2))) (sVar 1)))
    (sRet (sVar 4)))) sNext)
    (sSeq (sSet 0 (sC (.int 4)) (sBin addF (sIxO 0 (sC (.int 4))) (sC (.int 1))))
    (sSeq (sAsg (sC (.int 0)) (gPut 2))
    (sSeq (sIfS (sT (sBin ltF2 (sIxO 0 (sC (.int 1))) (sFn lenV (sCons (sIxO 0 (sC (.int 0))) sNil)))) (sSeq (sAsg (sBin ixF (sIxO 0 (sC (.int 0))) (sIxO 0 (sC (.int 1)))) (gPut 2))
    (sSet 0 (sC (.int 1)) (sBin addF (sIxO 0 (sC (.int 1))) (sC (.int 1))))) sNext)
    (sSeq (sIfS (sT (sBin geF (sVar 2) (sBin powF (sC (.int 10)) (sC (.int 18))))) (sSeq (sSet 0 (sC (.int 2)) (sBin divF (sVar 2) (sVar 1)))
    (sRet (sBin modF (sFn intV (sCons (sVar 2) sNil)) (sVar 1)))) sNext)
    (sSeq (sAsg (sBin modF (sFn intV (sCons (sBin addF (sBin addF (sBin mulF2 (sIxO 0 (sC (.int 3))) (sC (.int 48271))) (sBin modF (sFn intV (sCons (sVar 2) sNil)) (sC (.int 2147483629)))) (sBin mulF2 (sIxO 0 (sC (.int 4))) (sC (.int 69621)))) sNil)) (sC (.int 2147483647))) (gPut 3))
    (sSeq (sAsg (sBin modF (sFn intV (sCons (sBin mulF2 (sVar 3) (sBin addF (sBin divF (sVar 3) (sC (.int 1009))) (sC (.int 40692)))) sNil)) (sC (.int 2147483399))) (gPut 3))
    (sSeq (sSet 0 (sC (.int 3)) (sVar 3))
    (sRet (sBin modF (sFn intV (sCons (sBin divF (sVar 3) (sC (.int 16))) sNil)) (sVar 1)))))))))))
noncomputable def F__law_pick : List Sl → Res D := runFn 3 (B__law_pick)
theorem ok__law_pick {P : Program} {w : World} {K : PySem.W.Frag} {mg : Str → Option Value} {base : Heap} {A : Ads} (T : Txt K mg A) : FnOk P w K mg base (L2.CX P w) 1 A.f__law_pick A.fd__law_pick ["_law_tape_here", "_law_many"] (FnP K 2 (F__law_pick)) := by
  have S := sc__law_pick
  refine fn_sh T.F__law_pick S fun cdv A' outer s H E hr => ?_
  exact (ss_cons (ss_if (st_cmpE gtOk (se_ixo 0 (pv 0) se_int) se_int) (ss_cons (ss_set 4 S.nd (se_opE modOk (se_callTy call_int1 rc_int T.z_int (by decide +kernel) (sa_cons (se_ixo 0 (pv 0) se_int) sa_nil)) (se_var 1 (pv 1))))
      (ss_cons (ss_setO 0 (se_opE divOk (se_ixo 0 (pv 0) se_int) (se_var 1 (pv 1))) (pv 0) se_int)
      (ss_one (ss_ret (se_var 4 (pv 4)))))) ss_nil)
      (ss_cons (ss_setO 0 (se_opE addOk (se_ixo 0 (pv 0) se_int) se_int) (pv 0) se_int)
      (ss_cons (ss_set 2 S.nd se_int)
      (ss_cons (ss_if (st_cmpE (ltOk hr.units0) (se_ixo 0 (pv 0) se_int) (se_callB call_len_seq rc_len T.z_len PySem.boot_len (sa_cons (se_ixo 0 (pv 0) se_int) sa_nil))) (ss_cons (ss_set 2 S.nd (se_ix (se_ixo 0 (pv 0) se_int) (se_ixo 0 (pv 0) se_int)))
      (ss_one (ss_setO 0 (se_opE addOk (se_ixo 0 (pv 0) se_int) se_int) (pv 0) se_int))) ss_nil)
      (ss_cons (ss_if (st_cmpE geOk (se_var 2 (pv 2)) (se_opE powOk se_int se_int)) (ss_cons (ss_setO 0 (se_opE divOk (se_var 2 (pv 2)) (se_var 1 (pv 1))) (pv 0) se_int)
      (ss_one (ss_ret (se_opE modOk (se_callTy call_int1 rc_int T.z_int (by decide +kernel) (sa_cons (se_var 2 (pv 2)) sa_nil)) (se_var 1 (pv 1)))))) ss_nil)
      (ss_cons (ss_set 3 S.nd (se_opE modOk (se_callTy call_int1 rc_int T.z_int (by decide +kernel) (sa_cons (se_opE addOk (se_opE addOk (se_opE mulOk2 (se_ixo 0 (pv 0) se_int) se_int) (se_opE modOk (se_callTy call_int1 rc_int T.z_int (by decide +kernel) (sa_cons (se_var 2 (pv 2)) sa_nil)) se_int)) (se_opE mulOk2 (se_ixo 0 (pv 0) se_int) se_int)) sa_nil)) se_int))
      (ss_cons (ss_set 3 S.nd (se_opE modOk (se_callTy call_int1 rc_int T.z_int (by decide +kernel) (sa_cons (se_opE mulOk2 (se_var 3 (pv 3)) (se_opE addOk (se_opE divOk (se_var 3 (pv 3)) se_int) se_int)) sa_nil)) se_int))
      (ss_cons (ss_setO 0 (se_var 3 (pv 3)) (pv 0) se_int)
      (ss_one (ss_ret (se_opE modOk (se_callTy call_int1 rc_int T.z_int (by decide +kernel) (sa_cons (se_opE divOk (se_var 3 (pv 3)) se_int) sa_nil)) (se_var 1 (pv 1)))))))))))))

/-! _lead_standing(one, other, leads, lead): one 0 other 1 leads 2 lead 3 pairs 4 door 5 after 6 -/
theorem sc__lead_standing : FnScope ["one", "other", "leads", "lead", "pairs", "door", "after"] ["one", "other", "leads", "lead"] (defScope s__lead_standing) := ⟨rfl, rfl, rfl, by decide +kernel, rfl, by decide +kernel, by decide +kernel⟩
noncomputable def B__lead_standing : SemS :=
    (sSeq (sAsg (sL (sLim (sCons (sTup (sCons (sVar 0) (sCons (sBin addF (sVar 3) (sC (.int 1))) sNil))) (sCons (sTup (sCons (sVar 1) (sCons (sBin subF (sVar 3) (sC (.int 1))) sNil))) sNil)))) (gPut 4))
    (sRet (sFnL tupF (sLs (sFnL sortPF (sLc [5, 6] (sIter (sVar 4)) (gTupS 2 (gsCons (gPut 5) (gsCons (gPut 6) gsNil))) (sT (sBin (inI false) (sVar 6) (sVar 2))) (sTup (sCons (sVar 5) (sCons (sIdx (sVar 2) (sVar 6)) sNil)))))))))
noncomputable def F__lead_standing : List Sl → Res D := runFn 3 (B__lead_standing)
theorem ok__lead_standing {P : Program} {w : World} {K : PySem.W.Frag} {mg : Str → Option Value} {base : Heap} {A : Ads} (T : Txt K mg A) : FnOk P w K mg base (L2.CX P w) 1 A.f__lead_standing A.fd__lead_standing ["one", "other", "leads", "lead"] (FnP K 4 (F__lead_standing)) := by
  have S := sc__lead_standing
  refine fn_sh T.F__lead_standing S fun cdv A' outer s H E hr => ?_
  exact (ss_cons (ss_set 4 S.nd (SN.se (sn_lst (sa_cons (se_tup (sa_cons (se_var 0 (pv 0)) (sa_cons (se_opE addOk (se_var 3 (pv 3)) se_int) sa_nil))) (sa_cons (se_tup (sa_cons (se_var 1 (pv 1)) (sa_cons (se_opE subOk (se_var 3 (pv 3)) se_int) sa_nil))) sa_nil)))))
      (ss_one (ss_ret (se_callLTy call_tuple_of rl_tup T.z_tuple (by decide +kernel) (sbl_se (se_callL cr_sortedPO rl_sortP T.z_sorted (by decide +kernel) (sbl_sn (sn_lc (own := [("door", 5), ("after", 6)]) rfl S.nd (si_seq (se_var 4 (pv 4))) (by show blkC ["one", "other", "leads", "lead", "pairs", "door", "after"] (defScope s__lead_standing) _ _ = true; decide +kernel) (fun _ _ _ _ _ => (sg_tup rfl (sgs_cons (sg_name 5 S.nd) (sgs_cons (sg_name 6 S.nd) sgs_nil)))) (fun _ _ _ _ _ => (spt_one (st_cmpE inOk (se_var 6 (pv 6)) (se_var 2 (pv 2))))) (fun _ _ _ _ _ => (se_tup (sa_cons (se_var 5 (pv 5)) (sa_cons (se_idx (se_var 2 (pv 2)) (se_var 6 (pv 6))) sa_nil))))))))))))

/-! never_ahead(one, other, most): one 0 other 1 most 2 leads 3 lead 4 -/
theorem sc_never_ahead : FnScope ["one", "other", "most", "leads", "lead"] ["one", "other", "most"] (defScope s_never_ahead) := ⟨rfl, rfl, rfl, by decide +kernel, rfl, by decide +kernel, by decide +kernel⟩
noncomputable def B_never_ahead : SemS :=
    (sSeq (sIfS (sOr (sNot (sT (sCall (F__are_doors) [.e (sTup (sCons (sVar 0) (sCons (sVar 1) sNil))), .e (sC (.int 2))]))) (sT (sBin (eqD false) (sVar 0) (sVar 1)))) sNever sNext)
    (sSeq (sIfS (sNot (sT (sCall (F_is_within) [.e (sVar 2), .e (sC (.int 1)), .e (sC (.int 3))]))) sNever sNext)
    (sSeq (sNewL 3 (sLim (sCons (sC (.int 0)) sNil)))
    (sSeq (sFor (sRng2 (sCons (sC (.int 1)) (sCons (sBin addF (sVar 2) (sC (.int 1))) sNil))) (gPut 4) (sExt 3 (sLim (sCons (sVar 4) (sCons (sUn negF (sVar 4)) sNil)))))
    (sRet (sFnL tupF (sLc [4] (sIter (sFz 3)) (gPut 4) sYes (sCall (F__lead_standing) [.e (sVar 0), .e (sVar 1), .e (sFz 3), .e (sVar 4)]))))))))
noncomputable def F_never_ahead : List Sl → Res D := runFn 2 (B_never_ahead)
theorem ok_never_ahead {P : Program} {w : World} {K : PySem.W.Frag} {mg : Str → Option Value} {base : Heap} {A : Ads} (T : Txt K mg A) : FnOk P w K mg base (L2.CX P w) 4 A.f_never_ahead A.fd_never_ahead ["one", "other", "most"] (FnP K 3 (F_never_ahead)) := by
  have S := sc_never_ahead
  refine fn_sh T.F_never_ahead S fun cdv A' outer s H E hr => ?_
  exact (ss_cons (ss_if (SW.st (sw_or (st_not (st_val (se_call (ok__are_doors T) (hr.mono (by decide)) T.g__are_doors T.F__are_doors.kp T.b__are_doors (takes_of rfl rfl rfl rfl) (sv_e (se_tup (sa_cons (se_var 0 (pv 0)) (sa_cons (se_var 1 (pv 1)) sa_nil))) (sv_e se_int sv_nil))))) (sw_or1 (st_cmpE (eqOk hr.units) (se_var 0 (pv 0)) (se_var 1 (pv 1)))))) (ss_one ss_never) ss_nil)
      (ss_cons (ss_if (st_not (st_val (se_call (ok_is_within T) (hr.mono (by decide)) T.g_is_within T.F_is_within.kp T.b_is_within (takes_of rfl rfl rfl rfl) (sv_e (se_var 2 (pv 2)) (sv_e se_int (sv_e se_int sv_nil)))))) (ss_one ss_never) ss_nil)
      (ss_cons (ss_newL 3 S.nd (sn_lst (sa_cons se_int sa_nil)))
      (ss_cons (ss_for (passes_of rfl) rfl (si_range2 T.z_range (sa_cons se_int (sa_cons (se_opE addOk (se_var 2 (pv 2)) se_int) sa_nil))) (sg_name 4 S.nd) (ss_one (ss_ext 3 (pv 3) (sn_lst (sa_cons (se_var 4 (pv 4)) (sa_cons (se_un un_neg ru_neg (se_var 4 (pv 4))) sa_nil))))))
      (ss_one (ss_ret (se_callLTy call_tuple_of rl_tup T.z_tuple (by decide +kernel) (sbl_sn (sn_lc (own := [("lead", 4)]) rfl S.nd (si_seq (se_fz 3 (pv 3))) (by show blkC ["one", "other", "most", "leads", "lead"] (defScope s_never_ahead) _ _ = true; decide +kernel) (fun _ _ _ _ _ => (sg_name 4 S.nd)) (fun _ _ _ _ _ => spt_nil) (fun _ _ _ _ _ => (se_call (ok__lead_standing T) (hr.mono (by decide)) T.g__lead_standing T.F__lead_standing.kp T.b__lead_standing takes0 (sv_e (se_var 0 (pv 0)) (sv_e (se_var 1 (pv 1)) (sv_e (se_fz 3 (pv 3)) (sv_e (se_var 4 (pv 4)) sv_nil)))))))))))))))

/-! is_below(thing, limit): thing 0 limit 1 -/
theorem sc_is_below : FnScope ["thing", "limit"] ["thing", "limit"] (defScope s_is_below) := ⟨rfl, rfl, rfl, by decide +kernel, rfl, by decide +kernel, by decide +kernel⟩
noncomputable def B_is_below : SemS :=
    (sRet (sCall (F_is_within) [.e (sVar 0), .e (sC (.int 0)), .e (sBin subF (sVar 1) (sC (.int 1)))]))
noncomputable def F_is_below : List Sl → Res D := runFn 0 (B_is_below)
theorem ok_is_below {P : Program} {w : World} {K : PySem.W.Frag} {mg : Str → Option Value} {base : Heap} {A : Ads} (T : Txt K mg A) : FnOk P w K mg base (L2.CX P w) 3 A.f_is_below A.fd_is_below ["thing", "limit"] (FnP K 2 (F_is_below)) := by
  have S := sc_is_below
  refine fn_sh T.F_is_below S fun cdv A' outer s H E hr => ?_
  exact (ss_one (ss_ret (se_call (ok_is_within T) (hr.mono (by decide)) T.g_is_within T.F_is_within.kp T.b_is_within (takes_of rfl rfl rfl rfl) (sv_e (se_var 0 (pv 0)) (sv_e se_int (sv_e (se_opE subOk (se_var 1 (pv 1)) se_int) sv_nil))))))

/-! is_number(web, house, standing, number): web 0 house 1 standing 2 number 3 -/
theorem sc_is_number : FnScope ["web", "house", "standing", "number"] ["web", "house", "standing", "number"] (defScope s_is_number) := ⟨rfl, rfl, rfl, by decide +kernel, rfl, by decide +kernel, by decide +kernel⟩
noncomputable def B_is_number (C : Addr) : SemS :=
    (sRet (sCall (F_is_below) [.e (sVar 3), .e (sFn lenV (sCons (sBin ixF (sBin ixF (sFldC C "dealers" (sVar 0)) (sVar 1)) (sVar 2)) sNil))]))
noncomputable def F_is_number (C : Addr) : List Sl → Res D := runFn 0 (B_is_number C)
theorem ok_is_number {P : Program} {w : World} {K : PySem.W.Frag} {mg : Str → Option Value} {base : Heap} {A : Ads} (T : Txt K mg A) : FnOk P w K mg base (L2.CX P w) 4 A.f_is_number A.fd_is_number ["web", "house", "standing", "number"] (FnP K 4 (F_is_number A.C_Web)) := by
  have S := sc_is_number
  refine fn_sh T.F_is_number S fun cdv A' outer s H E hr => ?_
  exact (ss_one (ss_ret (se_call (ok_is_below T) (hr.mono (by decide)) T.g_is_below T.F_is_below.kp T.b_is_below (takes_of rfl rfl rfl rfl) (sv_e (se_var 3 (pv 3)) (sv_e (se_callB call_len_seq rc_len T.z_len PySem.boot_len (sa_cons (se_ix (se_ix (se_fld (se_var 0 (pv 0)) T.cl_Web T.na_dealers) (se_var 1 (pv 1))) (se_var 2 (pv 2))) sa_nil)) sv_nil)))))

/-! pair_of(web, step): web 0 step 1 house 2 standing 3 number 4 -/
theorem sc_pair_of : FnScope ["web", "step", "house", "standing", "number"] ["web", "step"] (defScope s_pair_of) := ⟨rfl, rfl, rfl, by decide +kernel, rfl, by decide +kernel, by decide +kernel⟩
noncomputable def B_pair_of (C : Addr) : SemS :=
    (sSeq (sAsg (sVar 1) (gTupS 3 (gsCons (gPut 2) (gsCons (gPut 3) (gsCons (gPut 4) gsNil)))))
    (sRet (sBin ixF (sBin ixF (sBin ixF (sFldC C "dealers" (sVar 0)) (sVar 2)) (sVar 3)) (sVar 4))))
noncomputable def F_pair_of (C : Addr) : List Sl → Res D := runFn 3 (B_pair_of C)
theorem ok_pair_of {P : Program} {w : World} {K : PySem.W.Frag} {mg : Str → Option Value} {base : Heap} {A : Ads} (T : Txt K mg A) : FnOk P w K mg base (L2.CX P w) 1 A.f_pair_of A.fd_pair_of ["web", "step"] (FnP K 2 (F_pair_of A.C_Web)) := by
  have S := sc_pair_of
  refine fn_sh T.F_pair_of S fun cdv A' outer s H E hr => ?_
  exact (ss_cons (ss_asg (se_var 1 (pv 1)) (sg_tup rfl (sgs_cons (sg_name 2 S.nd) (sgs_cons (sg_name 3 S.nd) (sgs_cons (sg_name 4 S.nd) sgs_nil)))))
      (ss_one (ss_ret (se_ix (se_ix (se_ix (se_fld (se_var 0 (pv 0)) T.cl_Web T.na_dealers) (se_var 2 (pv 2))) (se_var 3 (pv 3))) (se_var 4 (pv 4))))))

/-! is_tuple_of(thing, many): thing 0 many 1 -/
theorem sc_is_tuple_of : FnScope ["thing", "many"] ["thing", "many"] (defScope s_is_tuple_of) := ⟨rfl, rfl, rfl, by decide +kernel, rfl, by decide +kernel, by decide +kernel⟩
noncomputable def B_is_tuple_of : SemS :=
    (sRet (sAndV (sFn isiV (sCons (sVar 0) (sCons (sC (.ty "tuple")) sNil))) (sBin (eqD false) (sFn lenV (sCons (sVar 0) sNil)) (sVar 1))))
noncomputable def F_is_tuple_of : List Sl → Res D := runFn 0 (B_is_tuple_of)
theorem ok_is_tuple_of {P : Program} {w : World} {K : PySem.W.Frag} {mg : Str → Option Value} {base : Heap} {A : Ads} (T : Txt K mg A) : FnOk P w K mg base (L2.CX P w) 1 A.f_is_tuple_of A.fd_is_tuple_of ["thing", "many"] (FnP K 2 (F_is_tuple_of)) := by
  have S := sc_is_tuple_of
  refine fn_sh T.F_is_tuple_of S fun cdv A' outer s H E hr => ?_
  exact (ss_one (ss_ret (se_and (se_callB call_isi rc_isi T.z_isinstance (by decide +kernel) (sa_cons (se_var 0 (pv 0)) (sa_cons (se_bty T.z_tuple (by decide +kernel)) sa_nil))) (se_one (se_cmpE (eqOk hr.units) (se_callB call_len_seq rc_len T.z_len PySem.boot_len (sa_cons (se_var 0 (pv 0)) sa_nil)) (se_var 1 (pv 1)))))))

/-! steps_taken(web, moves): web 0 moves 1 stands 2 taken 3 move 4 house 5 number 6 -/
theorem sc_steps_taken : FnScope ["web", "moves", "stands", "taken", "move", "house", "number"] ["web", "moves"] (defScope s_steps_taken) := ⟨rfl, rfl, rfl, by decide +kernel, rfl, by decide +kernel, by decide +kernel⟩
noncomputable def B_steps_taken (C : Addr) : SemS :=
    (sSeq (sIfS (sNot (sT (sFn isiV (sCons (sVar 1) (sCons (sC (.ty "tuple")) sNil))))) (sRet (sC .non)) sNext)
    (sSeq (sNewL 2 (sRep (sLim (sCons (sC (.int 0)) sNil)) (sFn lenV (sCons (sFldC C "dealers" (sVar 0)) sNil))))
    (sSeq (sNewL 3 (sLim sNil))
    (sSeq (sFor (sIter (sVar 1)) (gPut 4) (sSeq (sIfS (sNot (sAnd (sT (sCall (F_is_tuple_of) [.e (sVar 4), .e (sC (.int 2))])) (sT (sCall (F_is_below) [.e (sBin ixF (sVar 4) (sC (.int 0))), .e (sFnL lenF (sOwn 2))])))) (sRet (sC .non)) sNext)
    (sSeq (sAsg (sVar 4) (gTupS 2 (gsCons (gPut 5) (gsCons (gPut 6) gsNil))))
    (sSeq (sIfS (sNot (sT (sCall (F_is_number C) [.e (sVar 0), .e (sVar 5), .e (sIxO 2 (sVar 5)), .e (sVar 6)]))) (sRet (sC .non)) sNext)
    (sSeq (sApp 3 (sTup (sCons (sVar 5) (sCons (sIxO 2 (sVar 5)) (sCons (sVar 6) sNil)))))
    (sSet 2 (sVar 5) (sBin ixF (sCall (F_pair_of C) [.e (sVar 0), .e (sIxO 3 (sUn negF (sC (.int 1))))]) (sC (.int 1)))))))))
    (sRet (sFz 3))))))
noncomputable def F_steps_taken (C : Addr) : List Sl → Res D := runFn 5 (B_steps_taken C)
theorem ok_steps_taken {P : Program} {w : World} {K : PySem.W.Frag} {mg : Str → Option Value} {base : Heap} {A : Ads} (T : Txt K mg A) : FnOk P w K mg base (L2.CX P w) 5 A.f_steps_taken A.fd_steps_taken ["web", "moves"] (FnP K 2 (F_steps_taken A.C_Web)) := by
  have S := sc_steps_taken
  refine fn_sh T.F_steps_taken S fun cdv A' outer s H E hr => ?_
  exact (ss_cons (ss_if (st_not (st_val (se_callB call_isi rc_isi T.z_isinstance (by decide +kernel) (sa_cons (se_var 1 (pv 1)) (sa_cons (se_bty T.z_tuple (by decide +kernel)) sa_nil))))) (ss_one (ss_ret se_non)) ss_nil)
      (ss_cons (ss_newL 2 S.nd (sn_rep (sn_lst (sa_cons se_int sa_nil)) (se_callB call_len_seq rc_len T.z_len PySem.boot_len (sa_cons (se_fld (se_var 0 (pv 0)) T.cl_Web T.na_dealers) sa_nil))))
      (ss_cons (ss_newL 3 S.nd (sn_lst sa_nil))
      (ss_cons (ss_for (passes_of rfl) rfl (si_seq (se_var 1 (pv 1))) (sg_name 4 S.nd) (ss_cons (ss_if (st_not (SW.st (sw_and (st_val (se_call (ok_is_tuple_of T) (hr.mono (by decide)) T.g_is_tuple_of T.F_is_tuple_of.kp T.b_is_tuple_of (takes_of rfl rfl rfl rfl) (sv_e (se_var 4 (pv 4)) (sv_e se_int sv_nil)))) (sw_and1 (st_val (se_call (ok_is_below T) (hr.mono (by decide)) T.g_is_below T.F_is_below.kp T.b_is_below (takes_of rfl rfl rfl rfl) (sv_e (se_ix (se_var 4 (pv 4)) se_int) (sv_e (se_callL call_len_seq rl_len T.z_len PySem.boot_len (sbl_own 2 (pv 2))) sv_nil)))))))) (ss_one (ss_ret se_non)) ss_nil)
      (ss_cons (ss_asg (se_var 4 (pv 4)) (sg_tup rfl (sgs_cons (sg_name 5 S.nd) (sgs_cons (sg_name 6 S.nd) sgs_nil))))
      (ss_cons (ss_if (st_not (st_val (se_call (ok_is_number T) (hr.mono (by decide)) T.g_is_number T.F_is_number.kp T.b_is_number (takes_of rfl rfl rfl rfl) (sv_e (se_var 0 (pv 0)) (sv_e (se_var 5 (pv 5)) (sv_e (se_ixo 2 (pv 2) (se_var 5 (pv 5))) (sv_e (se_var 6 (pv 6)) sv_nil))))))) (ss_one (ss_ret se_non)) ss_nil)
      (ss_cons (ss_app 3 (pv 3) (se_tup (sa_cons (se_var 5 (pv 5)) (sa_cons (se_ixo 2 (pv 2) (se_var 5 (pv 5))) (sa_cons (se_var 6 (pv 6)) sa_nil)))))
      (ss_one (ss_setO 2 (se_ix (se_call (ok_pair_of T) (hr.mono (by decide)) T.g_pair_of T.F_pair_of.kp T.b_pair_of (takes_of rfl rfl rfl rfl) (sv_e (se_var 0 (pv 0)) (sv_e (se_ixo 3 (pv 3) (se_un un_neg ru_neg se_int)) sv_nil))) se_int) (pv 2) (se_var 5 (pv 5)))))))))
      (ss_one (ss_ret (se_fz 3 (pv 3))))))))

/-! are_moves(web, thing): web 0 thing 1 -/
theorem sc_are_moves : FnScope ["web", "thing"] ["web", "thing"] (defScope s_are_moves) := ⟨rfl, rfl, rfl, by decide +kernel, rfl, by decide +kernel, by decide +kernel⟩
noncomputable def B_are_moves (C : Addr) : SemS :=
    (sRet (sBin (isF2 true) (sCall (F_steps_taken C) [.e (sVar 0), .e (sVar 1)]) (sC .non)))
noncomputable def F_are_moves (C : Addr) : List Sl → Res D := runFn 0 (B_are_moves C)
theorem ok_are_moves {P : Program} {w : World} {K : PySem.W.Frag} {mg : Str → Option Value} {base : Heap} {A : Ads} (T : Txt K mg A) : FnOk P w K mg base (L2.CX P w) 6 A.f_are_moves A.fd_are_moves ["web", "thing"] (FnP K 2 (F_are_moves A.C_Web)) := by
  have S := sc_are_moves
  refine fn_sh T.F_are_moves S fun cdv A' outer s H E hr => ?_
  exact (ss_one (ss_ret (se_cmpE isnotOk2 (se_call (ok_steps_taken T) (hr.mono (by decide)) T.g_steps_taken T.F_steps_taken.kp T.b_steps_taken (takes_of rfl rfl rfl rfl) (sv_e (se_var 0 (pv 0)) (sv_e (se_var 1 (pv 1)) sv_nil))) se_non)))

/-! doors_of(dealer): dealer 0 standing 1 door 2 _ 3 -/
theorem sc_doors_of : FnScope ["dealer", "standing", "door", "_"] ["dealer"] (defScope s_doors_of) := ⟨rfl, rfl, rfl, by decide +kernel, rfl, by decide +kernel, by decide +kernel⟩
noncomputable def B_doors_of : SemS :=
    (sRet (sSortSet2 [1, 2, 3] [2, 3] (sIter (sVar 0)) (gPut 1) (sIter (sVar 1)) (gTupS 2 (gsCons (gPut 2) (gsCons (gPut 3) gsNil))) (sVar 2)))
noncomputable def F_doors_of : List Sl → Res D := runFn 3 (B_doors_of)
theorem ok_doors_of {P : Program} {w : World} {K : PySem.W.Frag} {mg : Str → Option Value} {base : Heap} {A : Ads} (T : Txt K mg A) : FnOk P w K mg base (L2.CX P w) 1 A.f_doors_of A.fd_doors_of ["dealer"] (FnP K 1 (F_doors_of)) := by
  have S := sc_doors_of
  refine fn_sh T.F_doors_of S fun cdv A' outer s H E hr => ?_
  exact (ss_one (ss_ret (se_sortSet2 (own := [("standing", 1), ("door", 2), ("_", 3)]) (vs1 := [2, 3]) rfl S.nd (si_seq (se_var 0 (pv 0))) (by show blkC ["dealer", "standing", "door", "_"] (defScope s_doors_of) _ _ = true; decide +kernel) (by decide) (fun _ _ _ _ _ => (sg_name 1 S.nd)) (fun _ _ _ _ _ => (si_seq (se_var 1 (pv 1)))) (fun _ _ _ _ _ => (sg_tup rfl (sgs_cons (sg_name 2 S.nd) (sgs_cons (sg_name 3 S.nd) sgs_nil)))) (fun _ _ _ _ _ => (se_var 2 (pv 2))) T.z_sorted)))

/-! are_integers(things): things 0 thing 1 -/
theorem sc_are_integers : FnScope ["things", "thing"] ["things"] (defScope s_are_integers) := ⟨rfl, rfl, rfl, by decide +kernel, rfl, by decide +kernel, by decide +kernel⟩
noncomputable def B_are_integers : SemS :=
    (sRet (sFnL allF (sLc [1] (sIter (sVar 0)) (gPut 1) sYes (sCall (F_is_integer) [.e (sVar 1)]))))
noncomputable def F_are_integers : List Sl → Res D := runFn 1 (B_are_integers)
theorem ok_are_integers {P : Program} {w : World} {K : PySem.W.Frag} {mg : Str → Option Value} {base : Heap} {A : Ads} (T : Txt K mg A) : FnOk P w K mg base (L2.CX P w) 2 A.f_are_integers A.fd_are_integers ["things"] (FnP K 1 (F_are_integers)) := by
  have S := sc_are_integers
  refine fn_sh T.F_are_integers S fun cdv A' outer s H E hr => ?_
  exact (ss_one (ss_ret (se_callL (cr_all rfl) rl_all T.z_all (by decide +kernel) (sbl_sn (sn_lc (own := [("thing", 1)]) rfl S.nd (si_seq (se_var 0 (pv 0))) (by show blkC ["things", "thing"] (defScope s_are_integers) _ _ = true; decide +kernel) (fun _ _ _ _ _ => (sg_name 1 S.nd)) (fun _ _ _ _ _ => spt_nil) (fun _ _ _ _ _ => (se_call (ok_is_integer T) (hr.mono (by decide)) T.g_is_integer T.F_is_integer.kp T.b_is_integer takes0 (sv_e (se_var 1 (pv 1)) sv_nil))))))))

/-! _is_standing(thing, cups, houses, standings): thing 0 cups 1 houses 2 standings 3 pair 4 door 5 after 6 -/
theorem sc__is_standing : FnScope ["thing", "cups", "houses", "standings", "pair", "door", "after"] ["thing", "cups", "houses", "standings"] (defScope s__is_standing) := ⟨rfl, rfl, rfl, by decide +kernel, rfl, by decide +kernel, by decide +kernel⟩
noncomputable def B__is_standing : SemS :=
    (sSeq (sIfS (sOr (sNot (sT (sFn isiV (sCons (sVar 0) (sCons (sC (.ty "tuple")) sNil))))) (sNot (sT (sChain leF leF (sC (.int 1)) (sFn lenV (sCons (sVar 0) sNil)) (sC (.int 6)))))) (sRet (sC (.bl false))) sNext)
    (sSeq (sIfS (sNot (sT (sFnL allF (sLc [4] (sIter (sVar 0)) (gPut 4) sYes (sAndV (sCall (F_is_tuple_of) [.e (sVar 4), .e (sC (.int 2))]) (sCall (F_are_integers) [.e (sVar 4)])))))) (sRet (sC (.bl false))) sNext)
    (sSeq (sIfS (sNot (sT (sFnL allF (sLc [5, 6] (sIter (sVar 0)) (gTupS 2 (gsCons (gPut 5) (gsCons (gPut 6) gsNil))) sYes (sAndV (sChain leF ltF2 (sUn negF (sVar 1)) (sVar 5) (sVar 2)) (sChain leF ltF2 (sC (.int 0)) (sVar 6) (sVar 3))))))) (sRet (sC (.bl false))) sNext)
    (sRet (sCall (F_is_ascending) [.e (sVar 0)])))))
noncomputable def F__is_standing : List Sl → Res D := runFn 3 (B__is_standing)
theorem ok__is_standing {P : Program} {w : World} {K : PySem.W.Frag} {mg : Str → Option Value} {base : Heap} {A : Ads} (T : Txt K mg A) : FnOk P w K mg base (L2.CX P w) 3 A.f__is_standing A.fd__is_standing ["thing", "cups", "houses", "standings"] (FnP K 4 (F__is_standing)) := by
  have S := sc__is_standing
  refine fn_sh T.F__is_standing S fun cdv A' outer s H E hr => ?_
  exact (ss_cons (ss_if (SW.st (sw_or (st_not (st_val (se_callB call_isi rc_isi T.z_isinstance (by decide +kernel) (sa_cons (se_var 0 (pv 0)) (sa_cons (se_bty T.z_tuple (by decide +kernel)) sa_nil))))) (sw_or1 (st_not (st_chain leOk leOk se_int (se_callB call_len_seq rc_len T.z_len PySem.boot_len (sa_cons (se_var 0 (pv 0)) sa_nil)) (se_glob (v := (.int 6)) (d := (.int 6)) T.m_MOST_STEPS ⟨_, rfl⟩ fun _ => .int _)))))) (ss_one (ss_ret se_bl)) ss_nil)
      (ss_cons (ss_if (st_not (st_val (se_callL (cr_all rfl) rl_all T.z_all (by decide +kernel) (sbl_sn (sn_lc (own := [("pair", 4)]) rfl S.nd (si_seq (se_var 0 (pv 0))) (by show blkC ["thing", "cups", "houses", "standings", "pair", "door", "after"] (defScope s__is_standing) _ _ = true; decide +kernel) (fun _ _ _ _ _ => (sg_name 4 S.nd)) (fun _ _ _ _ _ => spt_nil) (fun _ _ _ _ _ => (se_and (se_call (ok_is_tuple_of T) (hr.mono (by decide)) T.g_is_tuple_of T.F_is_tuple_of.kp T.b_is_tuple_of takes0 (sv_e (se_var 4 (pv 4)) (sv_e se_int sv_nil))) (se_one (se_call (ok_are_integers T) (hr.mono (by decide)) T.g_are_integers T.F_are_integers.kp T.b_are_integers takes0 (sv_e (se_var 4 (pv 4)) sv_nil)))))))))) (ss_one (ss_ret se_bl)) ss_nil)
      (ss_cons (ss_if (st_not (st_val (se_callL (cr_all rfl) rl_all T.z_all (by decide +kernel) (sbl_sn (sn_lc (own := [("door", 5), ("after", 6)]) rfl S.nd (si_seq (se_var 0 (pv 0))) (by show blkC ["thing", "cups", "houses", "standings", "pair", "door", "after"] (defScope s__is_standing) _ _ = true; decide +kernel) (fun _ _ _ _ _ => (sg_tup rfl (sgs_cons (sg_name 5 S.nd) (sgs_cons (sg_name 6 S.nd) sgs_nil)))) (fun _ _ _ _ _ => spt_nil) (fun _ _ _ _ _ => (se_and (se_chain leOk (ltOk hr.units0) (se_un un_neg ru_neg (se_var 1 (pv 1))) (se_var 5 (pv 5)) (se_var 2 (pv 2))) (se_one (se_chain leOk (ltOk hr.units0) se_int (se_var 6 (pv 6)) (se_var 3 (pv 3))))))))))) (ss_one (ss_ret se_bl)) ss_nil)
      (ss_one (ss_ret (se_call (ok_is_ascending T) (hr.mono (by decide)) T.g_is_ascending T.F_is_ascending.kp T.b_is_ascending (takes_of rfl rfl rfl rfl) (sv_e (se_var 0 (pv 0)) sv_nil)))))))

/-! _is_dealer(thing, cups, houses): thing 0 cups 1 houses 2 standing 3 -/
theorem sc__is_dealer : FnScope ["thing", "cups", "houses", "standing"] ["thing", "cups", "houses"] (defScope s__is_dealer) := ⟨rfl, rfl, rfl, by decide +kernel, rfl, by decide +kernel, by decide +kernel⟩
noncomputable def B__is_dealer : SemS :=
    (sSeq (sIfS (sOr (sNot (sT (sFn isiV (sCons (sVar 0) (sCons (sC (.ty "tuple")) sNil))))) (sNot (sT (sChain leF leF (sC (.int 1)) (sFn lenV (sCons (sVar 0) sNil)) (sC (.int 8)))))) (sRet (sC (.bl false))) sNext)
    (sRet (sFnL allF (sLc [3] (sIter (sVar 0)) (gPut 3) sYes (sCall (F__is_standing) [.e (sVar 3), .e (sVar 1), .e (sVar 2), .e (sFn lenV (sCons (sVar 0) sNil))])))))
noncomputable def F__is_dealer : List Sl → Res D := runFn 1 (B__is_dealer)
theorem ok__is_dealer {P : Program} {w : World} {K : PySem.W.Frag} {mg : Str → Option Value} {base : Heap} {A : Ads} (T : Txt K mg A) : FnOk P w K mg base (L2.CX P w) 4 A.f__is_dealer A.fd__is_dealer ["thing", "cups", "houses"] (FnP K 3 (F__is_dealer)) := by
  have S := sc__is_dealer
  refine fn_sh T.F__is_dealer S fun cdv A' outer s H E hr => ?_
  exact (ss_cons (ss_if (SW.st (sw_or (st_not (st_val (se_callB call_isi rc_isi T.z_isinstance (by decide +kernel) (sa_cons (se_var 0 (pv 0)) (sa_cons (se_bty T.z_tuple (by decide +kernel)) sa_nil))))) (sw_or1 (st_not (st_chain leOk leOk se_int (se_callB call_len_seq rc_len T.z_len PySem.boot_len (sa_cons (se_var 0 (pv 0)) sa_nil)) (se_glob (v := (.int 8)) (d := (.int 8)) T.m_MOST_STANDINGS ⟨_, rfl⟩ fun _ => .int _)))))) (ss_one (ss_ret se_bl)) ss_nil)
      (ss_one (ss_ret (se_callL (cr_all rfl) rl_all T.z_all (by decide +kernel) (sbl_sn (sn_lc (own := [("standing", 3)]) rfl S.nd (si_seq (se_var 0 (pv 0))) (by show blkC ["thing", "cups", "houses", "standing"] (defScope s__is_dealer) _ _ = true; decide +kernel) (fun _ _ _ _ _ => (sg_name 3 S.nd)) (fun _ _ _ _ _ => spt_nil) (fun _ _ _ _ _ => (se_call (ok__is_standing T) (hr.mono (by decide)) T.g__is_standing T.F__is_standing.kp T.b__is_standing takes0 (sv_e (se_var 3 (pv 3)) (sv_e (se_var 1 (pv 1)) (sv_e (se_var 2 (pv 2)) (sv_e (se_callB call_len_seq rc_len T.z_len PySem.boot_len (sa_cons (se_var 0 (pv 0)) sa_nil)) sv_nil))))))))))))

/-! reached(arrows, start): arrows 0 start 1 found 2 waiting 3 place 4 end 5 -/
theorem sc_reached : FnScope ["arrows", "start", "found", "waiting", "place", "end"] ["arrows", "start"] (defScope s_reached) := ⟨rfl, rfl, rfl, by decide +kernel, rfl, by decide +kernel, by decide +kernel⟩
noncomputable def B_reached : SemS :=
    (sSeq (sNewD 2 (.dK []))
    (sSeq (sNewL 3 (sLim (sCons (sVar 1) sNil)))
    (sSeq (sWhile (sTru 3) (sSeq (sAsg (sPop 3) (gPut 4))
    (sFor (sIter (sBin ixF (sVar 0) (sVar 4))) (gPut 5) (sIfS (sT (sDIn true 2 (sVar 5))) (sSeq (sDPut 2 (sVar 5) (sC (.bl true)))
    (sIfS (sT (sBin geF (sVar 5) (sC (.int 0)))) (sApp 3 (sVar 5)) sNext)) sNext))))
    (sRet (sSortK 2)))))
noncomputable def F_reached : List Sl → Res D := runFn 4 (B_reached)
theorem ok_reached {P : Program} {w : World} {K : PySem.W.Frag} {mg : Str → Option Value} {base : Heap} {A : Ads} (T : Txt K mg A) : FnOk P w K mg base (L2.CX P w) 1 A.f_reached A.fd_reached ["arrows", "start"] (FnP K 2 (F_reached)) := by
  have S := sc_reached
  refine fn_sh T.F_reached S fun cdv A' outer s H E hr => ?_
  exact (ss_cons (ss_newK 2 S.nd)
      (ss_cons (ss_newL 3 S.nd (sn_lst (sa_cons (se_var 1 (pv 1)) sa_nil)))
      (ss_cons (ss_while (passes_of rfl) (st_tru 3 (pv 3)) (ss_cons (ss_set 4 S.nd (se_pop 3 (pv 3)))
      (ss_one (ss_for (passes_of rfl) rfl (si_seq (se_ix (se_var 0 (pv 0)) (se_var 4 (pv 4)))) (sg_name 5 S.nd) (ss_one (ss_if (st_dnotin 2 (hu_of hr) (se_var 5 (pv 5)) (pv 2)) (ss_cons (ss_dput 2 (hu_of hr) (pv 2) (se_var 5 (pv 5)) se_bl)
      (ss_one (ss_if (st_cmpE geOk (se_var 5 (pv 5)) se_int) (ss_one (ss_app 3 (pv 3) (se_var 5 (pv 5)))) ss_nil))) ss_nil))))))
      (ss_one (ss_ret (se_sortedK 2 (pv 2) T.z_sorted (by decide +kernel)))))))

/-! _is_joined(dealer): dealer 0 arrows 1 standing 2 found 3 _ 4 after 5 other 6 -/
theorem sc__is_joined : FnScope ["dealer", "arrows", "standing", "found", "_", "after", "other"] ["dealer"] (defScope s__is_joined) := ⟨rfl, rfl, rfl, by decide +kernel, rfl, by decide +kernel, by decide +kernel⟩
noncomputable def B__is_joined : SemS :=
    (sSeq (sAsg (sL (sLc [2] (sIter (sVar 0)) (gPut 2) sYes (sL (sLc [4, 5] (sIter (sVar 2)) (gTupS 2 (gsCons (gPut 4) (gsCons (gPut 5) gsNil))) sYes (sVar 5))))) (gPut 1))
    (sSeq (sFor (sRng1 (sCons (sFn lenV (sCons (sVar 0) sNil)) sNil)) (gPut 2) (sSeq (sAsg (sCall (F_reached) [.e (sVar 1), .e (sVar 2)]) (gPut 3))
    (sIfS (sNot (sT (sFnL allF (sLc [6] (sRng1 (sCons (sFn lenV (sCons (sVar 0) sNil)) sNil)) (gPut 6) (sT (sBin (eqD true) (sVar 6) (sVar 2))) (sBin (inI false) (sVar 6) (sVar 3)))))) (sRet (sC (.bl false))) sNext)))
    (sRet (sC (.bl true)))))
noncomputable def F__is_joined : List Sl → Res D := runFn 6 (B__is_joined)
theorem ok__is_joined {P : Program} {w : World} {K : PySem.W.Frag} {mg : Str → Option Value} {base : Heap} {A : Ads} (T : Txt K mg A) : FnOk P w K mg base (L2.CX P w) 2 A.f__is_joined A.fd__is_joined ["dealer"] (FnP K 1 (F__is_joined)) := by
  have S := sc__is_joined
  refine fn_sh T.F__is_joined S fun cdv A' outer s H E hr => ?_
  exact (ss_cons (ss_setLc 1 (own := [("standing", 2)]) rfl S.nd (si_seq (se_var 0 (pv 0))) (by show blkC ["dealer", "arrows", "standing", "found", "_", "after", "other"] (defScope s__is_joined) _ _ = true; decide +kernel) (fun _ _ _ _ _ => (sg_name 2 S.nd)) (fun _ _ _ _ _ => spt_nil) (fun _ _ _ _ _ => (SN.se (sn_lc (own := [("_", 4), ("after", 5)]) rfl S.nd (si_seq (se_var 2 (pv 2))) (by kernel_rfl) (fun _ _ _ _ _ => (sg_tup rfl (sgs_cons (sg_name 4 S.nd) (sgs_cons (sg_name 5 S.nd) sgs_nil)))) (fun _ _ _ _ _ => spt_nil) (fun _ _ _ _ _ => (se_var 5 (pv 5)))))))
      (ss_cons (ss_for (passes_of rfl) rfl (si_range1 T.z_range (sa_cons (se_callB call_len_seq rc_len T.z_len PySem.boot_len (sa_cons (se_var 0 (pv 0)) sa_nil)) sa_nil)) (sg_name 2 S.nd) (ss_cons (ss_set 3 S.nd (se_call (ok_reached T) (hr.mono (by decide)) T.g_reached T.F_reached.kp T.b_reached (takes_of rfl rfl rfl rfl) (sv_e (se_var 1 (pv 1)) (sv_e (se_var 2 (pv 2)) sv_nil))))
      (ss_one (ss_if (st_not (st_val (se_callL (cr_all rfl) rl_all T.z_all (by decide +kernel) (sbl_sn (sn_lc (own := [("other", 6)]) rfl S.nd (si_range1 T.z_range (sa_cons (se_callB call_len_seq rc_len T.z_len PySem.boot_len (sa_cons (se_var 0 (pv 0)) sa_nil)) sa_nil)) (by show blkC ["dealer", "arrows", "standing", "found", "_", "after", "other"] (defScope s__is_joined) _ _ = true; decide +kernel) (fun _ _ _ _ _ => (sg_name 6 S.nd)) (fun _ _ _ _ _ => (spt_one (st_cmpE (neOk hr.units) (se_var 6 (pv 6)) (se_var 2 (pv 2))))) (fun _ _ _ _ _ => (se_cmpE inOk (se_var 6 (pv 6)) (se_var 3 (pv 3))))))))) (ss_one (ss_ret se_bl)) ss_nil))))
      (ss_one (ss_ret se_bl))))

/-! _check(cups, dealers): cups 0 dealers 1 arrows 2 house 3 dealer 4 door 5 -/
theorem sc__check : FnScope ["cups", "dealers", "arrows", "house", "dealer", "door"] ["cups", "dealers"] (defScope s__check) := ⟨rfl, rfl, rfl, by decide +kernel, rfl, by decide +kernel, by decide +kernel⟩
noncomputable def B__check : SemS :=
    (sSeq (sIfS (sNot (sT (sCall (F_is_within) [.e (sVar 0), .e (sC (.int 1)), .e (sC (.int 6))]))) sNever sNext)
    (sSeq (sIfS (sOr (sNot (sT (sFn isiV (sCons (sVar 1) (sCons (sC (.ty "tuple")) sNil))))) (sNot (sT (sChain leF leF (sC (.int 1)) (sFn lenV (sCons (sVar 1) sNil)) (sC (.int 8)))))) sNever sNext)
    (sSeq (sFor (sEnumT (sCons (sVar 1) sNil)) (gTupS 2 (gsCons (gPut 3) (gsCons (gPut 4) gsNil))) (sIfS (sNot (sT (sCall (F__is_dealer) [.e (sVar 4), .e (sVar 0), .e (sFn lenV (sCons (sVar 1) sNil))]))) sNever sNext))
    (sSeq (sFor (sEnumT (sCons (sVar 1) sNil)) (gTupS 2 (gsCons (gPut 3) (gsCons (gPut 4) gsNil))) (sIfS (sNot (sT (sCall (F__is_joined) [.e (sVar 4)]))) sNever sNext))
    (sSeq (sAsg (sL (sLc [4] (sIter (sVar 1)) (gPut 4) sYes (sCall (F_doors_of) [.e (sVar 4)]))) (gPut 2))
    (sFor (sRng1 (sCons (sFn lenV (sCons (sVar 1) sNil)) sNil)) (gPut 3) (sIfS (sT (sFnL allF (sLc [5] (sIter (sCall (F_reached) [.e (sVar 2), .e (sVar 3)])) (gPut 5) sYes (sBin geF (sVar 5) (sC (.int 0)))))) sNever sNext)))))))
noncomputable def F__check : List Sl → Res D := runFn 4 (B__check)
theorem ok__check {P : Program} {w : World} {K : PySem.W.Frag} {mg : Str → Option Value} {base : Heap} {A : Ads} (T : Txt K mg A) : FnOk P w K mg base (L2.CX P w) 5 A.f__check A.fd__check ["cups", "dealers"] (FnP K 2 (F__check)) := by
  have S := sc__check
  refine fn_sh T.F__check S fun cdv A' outer s H E hr => ?_
  exact (ss_cons (ss_if (st_not (st_val (se_call (ok_is_within T) (hr.mono (by decide)) T.g_is_within T.F_is_within.kp T.b_is_within (takes_of rfl rfl rfl rfl) (sv_e (se_var 0 (pv 0)) (sv_e se_int (sv_e (se_glob (v := (.int 6)) (d := (.int 6)) T.m_MOST_CUPS ⟨_, rfl⟩ fun _ => .int _) sv_nil)))))) (ss_one ss_never) ss_nil)
      (ss_cons (ss_if (SW.st (sw_or (st_not (st_val (se_callB call_isi rc_isi T.z_isinstance (by decide +kernel) (sa_cons (se_var 1 (pv 1)) (sa_cons (se_bty T.z_tuple (by decide +kernel)) sa_nil))))) (sw_or1 (st_not (st_chain leOk leOk se_int (se_callB call_len_seq rc_len T.z_len PySem.boot_len (sa_cons (se_var 1 (pv 1)) sa_nil)) (se_glob (v := (.int 8)) (d := (.int 8)) T.m_MOST_HOUSES ⟨_, rfl⟩ fun _ => .int _)))))) (ss_one ss_never) ss_nil)
      (ss_cons (ss_for (passes_of rfl) rfl (si_enumT T.z_enumerate (sa_cons (se_var 1 (pv 1)) sa_nil)) (sg_tup rfl (sgs_cons (sg_name 3 S.nd) (sgs_cons (sg_name 4 S.nd) sgs_nil))) (ss_one (ss_if (st_not (st_val (se_call (ok__is_dealer T) (hr.mono (by decide)) T.g__is_dealer T.F__is_dealer.kp T.b__is_dealer (takes_of rfl rfl rfl rfl) (sv_e (se_var 4 (pv 4)) (sv_e (se_var 0 (pv 0)) (sv_e (se_callB call_len_seq rc_len T.z_len PySem.boot_len (sa_cons (se_var 1 (pv 1)) sa_nil)) sv_nil)))))) (ss_one ss_never) ss_nil)))
      (ss_cons (ss_for (passes_of rfl) rfl (si_enumT T.z_enumerate (sa_cons (se_var 1 (pv 1)) sa_nil)) (sg_tup rfl (sgs_cons (sg_name 3 S.nd) (sgs_cons (sg_name 4 S.nd) sgs_nil))) (ss_one (ss_if (st_not (st_val (se_call (ok__is_joined T) (hr.mono (by decide)) T.g__is_joined T.F__is_joined.kp T.b__is_joined (takes_of rfl rfl rfl rfl) (sv_e (se_var 4 (pv 4)) sv_nil)))) (ss_one ss_never) ss_nil)))
      (ss_cons (ss_setLc 2 (own := [("dealer", 4)]) rfl S.nd (si_seq (se_var 1 (pv 1))) (by show blkC ["cups", "dealers", "arrows", "house", "dealer", "door"] (defScope s__check) _ _ = true; decide +kernel) (fun _ _ _ _ _ => (sg_name 4 S.nd)) (fun _ _ _ _ _ => spt_nil) (fun _ _ _ _ _ => (se_call (ok_doors_of T) (hr.mono (by decide)) T.g_doors_of T.F_doors_of.kp T.b_doors_of takes0 (sv_e (se_var 4 (pv 4)) sv_nil))))
      (ss_one (ss_for (passes_of rfl) rfl (si_range1 T.z_range (sa_cons (se_callB call_len_seq rc_len T.z_len PySem.boot_len (sa_cons (se_var 1 (pv 1)) sa_nil)) sa_nil)) (sg_name 3 S.nd) (ss_one (ss_if (st_val (se_callL (cr_all rfl) rl_all T.z_all (by decide +kernel) (sbl_sn (sn_lc (own := [("door", 5)]) rfl S.nd (si_seq (se_call (ok_reached T) (hr.mono (by decide)) T.g_reached T.F_reached.kp T.b_reached (takes_of rfl rfl rfl rfl) (sv_e (se_var 2 (pv 2)) (sv_e (se_var 3 (pv 3)) sv_nil)))) (by show blkC ["cups", "dealers", "arrows", "house", "dealer", "door"] (defScope s__check) _ _ = true; decide +kernel) (fun _ _ _ _ _ => (sg_name 5 S.nd)) (fun _ _ _ _ _ => spt_nil) (fun _ _ _ _ _ => (se_cmpE geOk (se_var 5 (pv 5)) se_int)))))) (ss_one ss_never) ss_nil)))))))))

theorem sc_Web : FnScope ["self", "cups", "dealers"] ["self", "cups", "dealers"] (defScope s_Web_init) := ⟨rfl, rfl, rfl, by decide +kernel, rfl, by decide +kernel, by decide +kernel⟩
theorem ok_Web {P : Program} {w : World} {K : PySem.W.Frag} {mg : Str → Option Value} {base : Heap} {A : Ads} (T : Txt K mg A) : FnOk P w K mg base (L2.CX P w) 6 A.f_Web_init A.fd_Web_init ["self", "cups", "dealers"] (InitP K A.C_Web "cups" "dealers" F__check) := by
  have S := sc_Web
  exact fn_init T.F_Web_init S rfl rfl rfl T.cl_Web T.na_cups T.na_dealers (by decide +kernel) (fun cdv A' outer s H E hr => (ss_expr (se_call (ok__check T) (hr.mono (by decide)) T.g__check T.F__check.kp T.b__check (takes_of rfl rfl rfl rfl) (sv_e (se_var 1 (pv 1)) (sv_e (se_var 2 (pv 2)) sv_nil)))))
    (fun cdv A' outer s H E => ps_fld (pv 0) (pv 1) rfl) (fun cdv A' outer s H E => ps_fld (pv 0) (pv 2) rfl)

/-! _law_row_right(_law_tape_here, _law_most): _law_tape_here 0 _law_most 1 _law_web 2 _law_ahead 3 _law_row 4 _law_turn 5 _law_door 6 _law_number 7 _law_later 8 -/
theorem sc__law_row_right : FnScope ["_law_tape_here", "_law_most", "_law_web", "_law_ahead", "_law_row", "_law_turn", "_law_door", "_law_number", "_law_later"] ["_law_tape_here", "_law_most"] (defScope s__law_row_right) := ⟨rfl, rfl, rfl, by decide +kernel, rfl, by decide +kernel, by decide +kernel⟩
noncomputable def B__law_row_right (C : Addr) : SemS :=
    (sSeq (sAsg (sMake2 C "cups" "dealers" F__check (sCons (sC (.int 2)) (sCons (sTup (sCons (sCall (F_never_ahead) [.e (sUn negF (sC (.int 2))), .e (sUn negF (sC (.int 1))), .e (sVar 1)]) sNil)) sNil))) (gPut 2))
    (sSeq (sAsg (sC (.int 0)) (gPut 3))
    (sSeq (sAsg (sTup sNil) (gPut 4))
    (sSeq (sFor (sRng1 (sCons (sC (.int 12)) sNil)) (gPut 5) (sSeq (sAsg (sBin ixF (sL (sLim (sCons (sUn negF (sC (.int 2))) (sCons (sUn negF (sC (.int 1))) sNil)))) (sCall (F__law_pick) [.o 0, .e (sC (.int 2))])) (gPut 6))
    (sSeq (sAsg (sFn intV (sCons (sAndV (sBin (eqD false) (sVar 6) (sUn negF (sC (.int 1)))) (sBin ltF2 (sVar 3) (sVar 1))) sNil)) (gPut 7))
    (sSeq (sAsg (sBin addF (sVar 3) (sBin ixF (sL (sLim (sCons (sC (.int 1)) (sCons (sUn negF (sC (.int 1))) sNil)))) (sFn intV (sCons (sBin (eqD false) (sVar 6) (sUn negF (sC (.int 1)))) sNil)))) (gPut 8))
    (sSeq (sIfS (sT (sBin gtF (sFn absV (sCons (sVar 8) sNil)) (sVar 1))) (sRet (sAndV (sBin (isF2 false) (sCall (F_are_moves C) [.e (sVar 2), .e (sBin addF (sVar 4) (sTup (sCons (sTup (sCons (sC (.int 0)) (sCons (sC (.int 1)) sNil))) sNil)))]) (sC (.bl false))) (sBin (isF2 false) (sCall (F_are_moves C) [.e (sVar 2), .e (sBin addF (sVar 4) (sTup (sCons (sTup (sCons (sC (.int 0)) (sCons (sC (.int 0)) sNil))) sNil)))]) (sC (.bl true))))) sNext)
    (sSeq (sIfS (sOr (sT (sBin (eqD false) (sVar 3) (sUn negF (sVar 1)))) (sT (sBin (eqD false) (sVar 3) (sVar 1)))) (sAsg (sC (.int 0)) (gPut 7)) sNext)
    (sSeq (sAsg (sBin addF (sVar 4) (sTup (sCons (sTup (sCons (sC (.int 0)) (sCons (sVar 7) sNil))) sNil))) (gPut 4))
    (sSeq (sAsg (sVar 8) (gPut 3))
    (sIfS (sT (sBin (isF2 true) (sCall (F_are_moves C) [.e (sVar 2), .e (sVar 4)]) (sC (.bl true)))) (sRet (sC (.bl false))) sNext)))))))))
    (sRet (sC (.bl true)))))))
noncomputable def F__law_row_right (C : Addr) : List Sl → Res D := runFn 7 (B__law_row_right C)
theorem ok__law_row_right {P : Program} {w : World} {K : PySem.W.Frag} {mg : Str → Option Value} {base : Heap} {A : Ads} (T : Txt K mg A) : FnOk P w K mg base (L2.CX P w) 8 A.f__law_row_right A.fd__law_row_right ["_law_tape_here", "_law_most"] (FnP K 2 (F__law_row_right A.C_Web)) := by
  have S := sc__law_row_right
  refine fn_sh T.F__law_row_right S fun cdv A' outer s H E hr => ?_
  exact (ss_cons (ss_set 2 S.nd (se_make2 T.mk_Web (ok_Web T) (hr.mono (by decide)) T.g_Web T.b_Web_init (takes_of rfl rfl rfl rfl) (sa_cons se_int (sa_cons (se_tup (sa_cons (se_call (ok_never_ahead T) (hr.mono (by decide)) T.g_never_ahead T.F_never_ahead.kp T.b_never_ahead (takes_of rfl rfl rfl rfl) (sv_e (se_un un_neg ru_neg se_int) (sv_e (se_un un_neg ru_neg se_int) (sv_e (se_var 1 (pv 1)) sv_nil)))) sa_nil)) sa_nil))))
      (ss_cons (ss_set 3 S.nd se_int)
      (ss_cons (ss_set 4 S.nd (se_tup sa_nil))
      (ss_cons (ss_for (passes_of rfl) rfl (si_range1 T.z_range (sa_cons se_int sa_nil)) (sg_name 5 S.nd) (ss_cons (ss_set 6 S.nd (se_ix (SN.se (sn_lst (sa_cons (se_un un_neg ru_neg se_int) (sa_cons (se_un un_neg ru_neg se_int) sa_nil)))) (se_call (ok__law_pick T) (hr.mono (by decide)) T.g__law_pick T.F__law_pick.kp T.b__law_pick (takes_of rfl rfl rfl rfl) (sv_o 0 (pv 0) (sv_e se_int sv_nil)))))
      (ss_cons (ss_set 7 S.nd (se_callTy call_int1 rc_int T.z_int (by decide +kernel) (sa_cons (se_and (se_cmpE (eqOk hr.units) (se_var 6 (pv 6)) (se_un un_neg ru_neg se_int)) (se_one (se_cmpE (ltOk hr.units0) (se_var 3 (pv 3)) (se_var 1 (pv 1))))) sa_nil)))
      (ss_cons (ss_set 8 S.nd (se_opE addOk (se_var 3 (pv 3)) (se_ix (SN.se (sn_lst (sa_cons se_int (sa_cons (se_un un_neg ru_neg se_int) sa_nil)))) (se_callTy call_int1 rc_int T.z_int (by decide +kernel) (sa_cons (se_cmpE (eqOk hr.units) (se_var 6 (pv 6)) (se_un un_neg ru_neg se_int)) sa_nil)))))
      (ss_cons (ss_if (st_cmpE gtOk (se_callB call_abs rc_abs T.z_abs (by decide +kernel) (sa_cons (se_var 8 (pv 8)) sa_nil)) (se_var 1 (pv 1))) (ss_one (ss_ret (se_and (se_cmpE isOk2 (se_call (ok_are_moves T) (hr.mono (by decide)) T.g_are_moves T.F_are_moves.kp T.b_are_moves (takes_of rfl rfl rfl rfl) (sv_e (se_var 2 (pv 2)) (sv_e (se_opE addOk (se_var 4 (pv 4)) (se_tup (sa_cons (se_tup (sa_cons se_int (sa_cons se_int sa_nil))) sa_nil))) sv_nil))) se_bl) (se_one (se_cmpE isOk2 (se_call (ok_are_moves T) (hr.mono (by decide)) T.g_are_moves T.F_are_moves.kp T.b_are_moves (takes_of rfl rfl rfl rfl) (sv_e (se_var 2 (pv 2)) (sv_e (se_opE addOk (se_var 4 (pv 4)) (se_tup (sa_cons (se_tup (sa_cons se_int (sa_cons se_int sa_nil))) sa_nil))) sv_nil))) se_bl))))) ss_nil)
      (ss_cons (ss_if (SW.st (sw_or (st_cmpE (eqOk hr.units) (se_var 3 (pv 3)) (se_un un_neg ru_neg (se_var 1 (pv 1)))) (sw_or1 (st_cmpE (eqOk hr.units) (se_var 3 (pv 3)) (se_var 1 (pv 1)))))) (ss_one (ss_set 7 S.nd se_int)) ss_nil)
      (ss_cons (ss_set 4 S.nd (se_opE addOk (se_var 4 (pv 4)) (se_tup (sa_cons (se_tup (sa_cons se_int (sa_cons (se_var 7 (pv 7)) sa_nil))) sa_nil))))
      (ss_cons (ss_set 3 S.nd (se_var 8 (pv 8)))
      (ss_one (ss_if (st_cmpE isnotOk2 (se_call (ok_are_moves T) (hr.mono (by decide)) T.g_are_moves T.F_are_moves.kp T.b_are_moves (takes_of rfl rfl rfl rfl) (sv_e (se_var 2 (pv 2)) (sv_e (se_var 4 (pv 4)) sv_nil))) se_bl) (ss_one (ss_ret se_bl)) ss_nil))))))))))
      (ss_one (ss_ret se_bl))))))

/-! _law_standing(_law_ahead): _law_ahead 0 -/
theorem sc__law_standing : FnScope ["_law_ahead"] ["_law_ahead"] (defScope s__law_standing) := ⟨rfl, rfl, rfl, by decide +kernel, rfl, by decide +kernel, by decide +kernel⟩
noncomputable def B__law_standing : SemS :=
    (sSeq (sIfS (sT (sBin gtF (sVar 0) (sC (.int 0)))) (sRet (sBin subF (sBin mulF2 (sC (.int 2)) (sVar 0)) (sC (.int 1)))) sNext)
    (sRet (sBin mulF2 (sUn negF (sC (.int 2))) (sVar 0))))
noncomputable def F__law_standing : List Sl → Res D := runFn 0 (B__law_standing)
theorem ok__law_standing {P : Program} {w : World} {K : PySem.W.Frag} {mg : Str → Option Value} {base : Heap} {A : Ads} (T : Txt K mg A) : FnOk P w K mg base (L2.CX P w) 1 A.f__law_standing A.fd__law_standing ["_law_ahead"] (FnP K 1 (F__law_standing)) := by
  have S := sc__law_standing
  refine fn_sh T.F__law_standing S fun cdv A' outer s H E hr => ?_
  exact (ss_cons (ss_if (st_cmpE gtOk (se_var 0 (pv 0)) se_int) (ss_one (ss_ret (se_opE subOk (se_opE mulOk2 se_int (se_var 0 (pv 0))) se_int))) ss_nil)
      (ss_one (ss_ret (se_opE mulOk2 (se_un un_neg ru_neg se_int) (se_var 0 (pv 0))))))

/-! _law_due(_law_one, _law_other, _law_most): _law_one 0 _law_other 1 _law_most 2 _law_found 3 _law_ahead 4 _law_part 5 _law_at 6 -/
theorem sc__law_due : FnScope ["_law_one", "_law_other", "_law_most", "_law_found", "_law_ahead", "_law_part", "_law_at"] ["_law_one", "_law_other", "_law_most"] (defScope s__law_due) := ⟨rfl, rfl, rfl, by decide +kernel, rfl, by decide +kernel, by decide +kernel⟩
noncomputable def B__law_due : SemS :=
    (sSeq (sNewD 3 (.dK []))
    (sSeq (sFor (sRng2 (sCons (sUn negF (sVar 2)) (sCons (sBin addF (sVar 2) (sC (.int 1))) sNil))) (gPut 4) (sSeq (sNewL 5 (sLim sNil))
    (sSeq (sIfS (sT (sBin ltF2 (sVar 4) (sVar 2))) (sApp 5 (sTup (sCons (sVar 0) (sCons (sCall (F__law_standing) [.e (sBin addF (sVar 4) (sC (.int 1)))]) sNil)))) sNext)
    (sSeq (sIfS (sT (sBin gtF (sVar 4) (sUn negF (sVar 2)))) (sApp 5 (sTup (sCons (sVar 1) (sCons (sCall (F__law_standing) [.e (sBin subF (sVar 4) (sC (.int 1)))]) sNil)))) sNext)
    (sDPut 3 (sCall (F__law_standing) [.e (sVar 4)]) (sFnL tupF (sLs (sFnL sortPF (sOwn 5)))))))))
    (sRet (sFnL tupF (sLc [6] (sRng1 (sCons (sBin addF (sBin mulF2 (sC (.int 2)) (sVar 2)) (sC (.int 1))) sNil)) (gPut 6) sYes (sDIx 3 (sVar 6)))))))
noncomputable def F__law_due : List Sl → Res D := runFn 4 (B__law_due)
theorem ok__law_due {P : Program} {w : World} {K : PySem.W.Frag} {mg : Str → Option Value} {base : Heap} {A : Ads} (T : Txt K mg A) : FnOk P w K mg base (L2.CX P w) 2 A.f__law_due A.fd__law_due ["_law_one", "_law_other", "_law_most"] (FnP K 3 (F__law_due)) := by
  have S := sc__law_due
  refine fn_sh T.F__law_due S fun cdv A' outer s H E hr => ?_
  exact (ss_cons (ss_newK 3 S.nd)
      (ss_cons (ss_for (passes_of rfl) rfl (si_range2 T.z_range (sa_cons (se_un un_neg ru_neg (se_var 2 (pv 2))) (sa_cons (se_opE addOk (se_var 2 (pv 2)) se_int) sa_nil))) (sg_name 4 S.nd) (ss_cons (ss_newL 5 S.nd (sn_lst sa_nil))
      (ss_cons (ss_if (st_cmpE (ltOk hr.units0) (se_var 4 (pv 4)) (se_var 2 (pv 2))) (ss_one (ss_app 5 (pv 5) (se_tup (sa_cons (se_var 0 (pv 0)) (sa_cons (se_call (ok__law_standing T) (hr.mono (by decide)) T.g__law_standing T.F__law_standing.kp T.b__law_standing (takes_of rfl rfl rfl rfl) (sv_e (se_opE addOk (se_var 4 (pv 4)) se_int) sv_nil)) sa_nil))))) ss_nil)
      (ss_cons (ss_if (st_cmpE gtOk (se_var 4 (pv 4)) (se_un un_neg ru_neg (se_var 2 (pv 2)))) (ss_one (ss_app 5 (pv 5) (se_tup (sa_cons (se_var 1 (pv 1)) (sa_cons (se_call (ok__law_standing T) (hr.mono (by decide)) T.g__law_standing T.F__law_standing.kp T.b__law_standing (takes_of rfl rfl rfl rfl) (sv_e (se_opE subOk (se_var 4 (pv 4)) se_int) sv_nil)) sa_nil))))) ss_nil)
      (ss_one (ss_dput 3 (hu_of hr) (pv 3) (se_call (ok__law_standing T) (hr.mono (by decide)) T.g__law_standing T.F__law_standing.kp T.b__law_standing (takes_of rfl rfl rfl rfl) (sv_e (se_var 4 (pv 4)) sv_nil)) (se_callLTy call_tuple_of rl_tup T.z_tuple (by decide +kernel) (sbl_se (se_callL cr_sortedPO rl_sortP T.z_sorted (by decide +kernel) (sbl_own 5 (pv 5)))))))))))
      (ss_one (ss_ret (se_callLTy call_tuple_of rl_tup T.z_tuple (by decide +kernel) (sbl_sn (sn_lc (own := [("_law_at", 6)]) rfl S.nd (si_range1 T.z_range (sa_cons (se_opE addOk (se_opE mulOk2 se_int (se_var 2 (pv 2))) se_int) sa_nil)) (by show blkC ["_law_one", "_law_other", "_law_most", "_law_found", "_law_ahead", "_law_part", "_law_at"] (defScope s__law_due) _ _ = true; decide +kernel) (fun _ _ _ _ _ => (sg_name 6 S.nd)) (fun _ _ _ _ _ => spt_nil) (fun _ _ _ _ _ => (se_dix 3 (hu_of hr) (pv 3) (se_var 6 (pv 6)))))))))))

/-! law(_law_script): _law_script 0 _law_tape_here 1 _law_turn 2 _law_doors 3 _law_door 4 _law_one 5 _law_other 6 _law_most 7 -/
theorem sc_law : FnScope ["_law_script", "_law_tape_here", "_law_turn", "_law_doors", "_law_door", "_law_one", "_law_other", "_law_most"] ["_law_script"] (defScope s_law) := ⟨rfl, rfl, rfl, by decide +kernel, rfl, by decide +kernel, by decide +kernel⟩
noncomputable def B_law (C : Addr) : SemS :=
    (sSeq (sNewL 1 (sCallN (F__law_tape) [.e (sVar 0)]))
    (sSeq (sFor (sRng1 (sCons (sC (.int 4)) sNil)) (gPut 2) (sSeq (sNewL 3 (sLim sNil))
    (sSeq (sFor (sRng2 (sCons (sUn negF (sC (.int 6))) (sCons (sC (.int 8)) sNil))) (gPut 4) (sIfS (sAnd (sT (sBin ltF2 (sFnL lenF (sOwn 3)) (sC (.int 6)))) (sOr (sT (sBin (eqD false) (sCall (F__law_pick) [.o 1, .e (sC (.int 3))]) (sC (.int 0)))) (sAnd (sT (sBin (eqD false) (sVar 4) (sC (.int 7)))) (sT (sBin (eqD false) (sFnL lenF (sOwn 3)) (sC (.int 0))))))) (sApp 3 (sVar 4)) sNext))
    (sSeq (sIfS (sT (sBin (eqD true) (sCall (F_freely) [.e (sFnL tupF (sOwn 3))]) (sTup (sCons (sFnL tupF (sLc [4] (sIter (sFz 3)) (gPut 4) sYes (sTup (sCons (sVar 4) (sCons (sC (.int 0)) sNil))))) sNil)))) (sRet (sC (.bl false))) sNext)
    (sSeq (sAsg (sBin subF (sCall (F__law_pick) [.o 1, .e (sC (.int 14))]) (sC (.int 6))) (gPut 5))
    (sSeq (sAsg (sBin subF (sCall (F__law_pick) [.o 1, .e (sC (.int 14))]) (sC (.int 6))) (gPut 6))
    (sSeq (sAsg (sBin addF (sC (.int 1)) (sCall (F__law_pick) [.o 1, .e (sC (.int 3))])) (gPut 7))
    (sSeq (sIfS (sAnd (sT (sBin (eqD true) (sVar 5) (sVar 6))) (sT (sBin (eqD true) (sCall (F_never_ahead) [.e (sVar 5), .e (sVar 6), .e (sVar 7)]) (sCall (F__law_due) [.e (sVar 5), .e (sVar 6), .e (sVar 7)])))) (sRet (sC (.bl false))) sNext)
    (sIfS (sNot (sT (sCall (F__law_row_right C) [.o 1, .e (sVar 7)]))) (sRet (sC (.bl false))) sNext)))))))))
    (sRet (sC (.bl true)))))
noncomputable def F_law (C : Addr) : List Sl → Res D := runFn 7 (B_law C)
theorem ok_law {P : Program} {w : World} {K : PySem.W.Frag} {mg : Str → Option Value} {base : Heap} {A : Ads} (T : Txt K mg A) : FnOk P w K mg base (L2.CX P w) 9 A.f_law A.fd_law ["_law_script"] (FnP K 1 (F_law A.C_Web)) := by
  have S := sc_law
  refine fn_sh T.F_law S fun cdv A' outer s H E hr => ?_
  exact (ss_cons (ss_newL 1 S.nd (sn_call (ok__law_tape T) (hr.mono (by decide)) T.g__law_tape T.F__law_tape.kp T.b__law_tape (takes_of rfl rfl rfl rfl) (sv_e (se_var 0 (pv 0)) sv_nil)))
      (ss_cons (ss_for (passes_of rfl) rfl (si_range1 T.z_range (sa_cons se_int sa_nil)) (sg_name 2 S.nd) (ss_cons (ss_newL 3 S.nd (sn_lst sa_nil))
      (ss_cons (ss_for (passes_of rfl) rfl (si_range2 T.z_range (sa_cons (se_un un_neg ru_neg se_int) (sa_cons se_int sa_nil))) (sg_name 4 S.nd) (ss_one (ss_if (SW.st (sw_and (st_cmpE (ltOk hr.units0) (se_callL call_len_seq rl_len T.z_len PySem.boot_len (sbl_own 3 (pv 3))) se_int) (sw_and1 (SW.st (sw_or (st_cmpE (eqOk hr.units) (se_call (ok__law_pick T) (hr.mono (by decide)) T.g__law_pick T.F__law_pick.kp T.b__law_pick (takes_of rfl rfl rfl rfl) (sv_o 1 (pv 1) (sv_e se_int sv_nil))) se_int) (sw_or1 (SW.st (sw_and (st_cmpE (eqOk hr.units) (se_var 4 (pv 4)) se_int) (sw_and1 (st_cmpE (eqOk hr.units) (se_callL call_len_seq rl_len T.z_len PySem.boot_len (sbl_own 3 (pv 3))) se_int)))))))))) (ss_one (ss_app 3 (pv 3) (se_var 4 (pv 4)))) ss_nil)))
      (ss_cons (ss_if (st_cmpE (neOk hr.units) (se_call (ok_freely T) (hr.mono (by decide)) T.g_freely T.F_freely.kp T.b_freely (takes_of rfl rfl rfl rfl) (sv_e (se_callLTy call_tuple_of rl_tup T.z_tuple (by decide +kernel) (sbl_own 3 (pv 3))) sv_nil)) (se_tup (sa_cons (se_callLTy call_tuple_of rl_tup T.z_tuple (by decide +kernel) (sbl_sn (sn_lc (own := [("_law_door", 4)]) rfl S.nd (si_seq (se_fz 3 (pv 3))) (by show blkC ["_law_script", "_law_tape_here", "_law_turn", "_law_doors", "_law_door", "_law_one", "_law_other", "_law_most"] (defScope s_law) _ _ = true; decide +kernel) (fun _ _ _ _ _ => (sg_name 4 S.nd)) (fun _ _ _ _ _ => spt_nil) (fun _ _ _ _ _ => (se_tup (sa_cons (se_var 4 (pv 4)) (sa_cons se_int sa_nil))))))) sa_nil))) (ss_one (ss_ret se_bl)) ss_nil)
      (ss_cons (ss_set 5 S.nd (se_opE subOk (se_call (ok__law_pick T) (hr.mono (by decide)) T.g__law_pick T.F__law_pick.kp T.b__law_pick (takes_of rfl rfl rfl rfl) (sv_o 1 (pv 1) (sv_e se_int sv_nil))) se_int))
      (ss_cons (ss_set 6 S.nd (se_opE subOk (se_call (ok__law_pick T) (hr.mono (by decide)) T.g__law_pick T.F__law_pick.kp T.b__law_pick (takes_of rfl rfl rfl rfl) (sv_o 1 (pv 1) (sv_e se_int sv_nil))) se_int))
      (ss_cons (ss_set 7 S.nd (se_opE addOk se_int (se_call (ok__law_pick T) (hr.mono (by decide)) T.g__law_pick T.F__law_pick.kp T.b__law_pick (takes_of rfl rfl rfl rfl) (sv_o 1 (pv 1) (sv_e se_int sv_nil)))))
      (ss_cons (ss_if (SW.st (sw_and (st_cmpE (neOk hr.units) (se_var 5 (pv 5)) (se_var 6 (pv 6))) (sw_and1 (st_cmpE (neOk hr.units) (se_call (ok_never_ahead T) (hr.mono (by decide)) T.g_never_ahead T.F_never_ahead.kp T.b_never_ahead (takes_of rfl rfl rfl rfl) (sv_e (se_var 5 (pv 5)) (sv_e (se_var 6 (pv 6)) (sv_e (se_var 7 (pv 7)) sv_nil)))) (se_call (ok__law_due T) (hr.mono (by decide)) T.g__law_due T.F__law_due.kp T.b__law_due (takes_of rfl rfl rfl rfl) (sv_e (se_var 5 (pv 5)) (sv_e (se_var 6 (pv 6)) (sv_e (se_var 7 (pv 7)) sv_nil)))))))) (ss_one (ss_ret se_bl)) ss_nil)
      (ss_one (ss_if (st_not (st_val (se_call (ok__law_row_right T) (hr.mono (by decide)) T.g__law_row_right T.F__law_row_right.kp T.b__law_row_right (takes_of rfl rfl rfl rfl) (sv_o 1 (pv 1) (sv_e (se_var 7 (pv 7)) sv_nil))))) (ss_one (ss_ret se_bl)) ss_nil))))))))))
      (ss_one (ss_ret se_bl))))

end Sh

namespace Sh
open PySem PySem.Spec PyProof.Rows L2
theorem isi_int (i : Int) : isiV [.int i, .ty "int"] = some (.bl true) := by simp only [isiV, tyName, Option.bind_some]; rw [show kitB "int" "int" = some true from by decide +kernel]; rfl
theorem isi_intb (i : Int) : isiV [.int i, .ty "bool"] = some (.bl false) := by simp only [isiV, tyName, Option.bind_some]; rw [show kitB "int" "bool" = some false from by decide +kernel]; rfl
theorem isi_tup (ds : List D) : isiV [.tup ds, .ty "tuple"] = some (.bl true) := by simp only [isiV, tyName, Option.bind_some]; rw [show kitB "tuple" "tuple" = some true from by decide +kernel]; rfl
theorem r_int (i : Int) : F_is_integer [.v (.int i)] = .ok (.bl true) [.v (.int i)] := by
  unfold F_is_integer runFn
  simp [B_is_integer, isi_int, isi_intb]
theorem r_within (i lo hi : Int) : F_is_within [.v (.int i), .v (.int lo), .v (.int hi)] = .ok (.bl (decide (lo ≤ i) && decide (i ≤ hi))) [.v (.int i), .v (.int lo), .v (.int hi)] := by
  unfold F_is_within runFn
  simp [B_is_within, r_int]
  by_cases h1 : lo ≤ i <;> simp [h1]
theorem r_below (i hi : Int) : F_is_below [.v (.int i), .v (.int hi)] = .ok (.bl (decide (0 ≤ i) && decide (i ≤ hi - 1))) [.v (.int i), .v (.int hi)] := by
  unfold F_is_below runFn
  simp [B_is_below, r_within]
theorem r_tape (cs : List D) : F__law_tape [.v (.scr cs)] = .ok [.lst cs, .int 0, .int 0, .int 1, .int 0] [.v (.scr cs)] := by
  unfold F__law_tape runFnN
  simp [B__law_tape]

/-- all doors of a tuple lie in the bounds -/
theorem r_are_doors (ds : List Int) (most : Int) (h1 : 1 ≤ ds.length) (h2 : (ds.length : Int) ≤ most) (h : ∀ d ∈ ds, -6 ≤ d ∧ d ≤ 7) (hl : ds.length ≤ 100) : F__are_doors [.v (.tup (ds.map .int)), .v (.int most)] = .ok (.bl true) [.v (.tup (ds.map .int)), .v (.int most)] := by
  unfold F__are_doors runFn
  have e : sLc [2] (sIter (sVar 0)) (gPut 2) sYes (sCall (F_is_within) [.e (sVar 2), .e (sC (.int (-6))), .e (sC (.int 7))]) [.v (.tup (ds.map .int)), .v (.int most), .un] = .ok ((ds.map D.int).map fun d => .bl ((fun _ => true) d)) [.v (.tup (ds.map .int)), .v (.int most), .un] := by
    refine sLc_map _ (by simp) (by simp [noOwn]) (by simp; omega) fun d hd => ?_
    obtain ⟨i, hi, rfl⟩ := List.mem_map.mp hd
    have hb := h i hi
    refine ⟨[.v (.tup (ds.map .int)), .v (.int most), .v (.int i)], [.v (.tup (ds.map .int)), .v (.int most), .v (.int i)], by simp [blank], ?_, by simp [blank]⟩
    simp [r_within, hb.1, hb.2]
  have e2 := allF_true (ds := ds.map D.int) (p := fun _ => true) (fun _ _ => rfl)
  have h1' : (1 : Int) ≤ (ds.length : Int) := by omega
  simp [B__are_doors, isi_tup, e, e2, h1', h2, -List.map_map]
/-! ### one house's web -/
def stand1 (d a : Int) : D := .tup [.tup [.int d, .int a]]
theorem r_tuple_of (ds : List D) (n : Int) : F_is_tuple_of [.v (.tup ds), .v (.int n)] = .ok (.bl (decide ((ds.length : Int) = n))) [.v (.tup ds), .v (.int n)] := by
  unfold F_is_tuple_of runFn
  have e := eqD_int false (ds.length : Int) n
  simp [B_is_tuple_of, isi_tup, e]
theorem r_integers (ns : List Int) (hl : ns.length ≤ 100) : F_are_integers [.v (.tup (ns.map .int))] = .ok (.bl true) [.v (.tup (ns.map .int))] := by
  unfold F_are_integers runFn
  have e : sLc [1] (sIter (sVar 0)) (gPut 1) sYes (sCall F_is_integer [.e (sVar 1)]) [.v (.tup (ns.map .int)), .un] = .ok ((ns.map D.int).map fun d => .bl ((fun _ => true) d)) [.v (.tup (ns.map .int)), .un] := by
    refine sLc_map _ (by simp) (by simp [noOwn]) (by simp; omega) fun d hd => ?_
    obtain ⟨i, hi, rfl⟩ := List.mem_map.mp hd
    exact ⟨[.v (.tup (ns.map .int)), .v (.int i)], [.v (.tup (ns.map .int)), .v (.int i)], by simp [blank], by simp [r_int], by simp [blank]⟩
  simp [B_are_integers, e, allF_true (ds := ns.map D.int) (p := fun _ => true) (fun _ _ => rfl), -List.map_map]
theorem r_asc1 (x : D) : F_is_ascending [.v (.tup [x])] = .ok (.bl true) [.v (.tup [x])] := by
  unfold F_is_ascending runFn
  have e : sLc [1, 2] (sZip (sCons (sVar 0) (sCons (sCut (sVar 0) (sPart (sC (.int 1))) sNoP) sNil))) (gTupS 2 (gsCons (gPut 1) (gsCons (gPut 2) gsNil))) sYes (sBin ltF2 (sVar 1) (sVar 2)) [.v (.tup [x]), .un, .un] = .ok ((([] : List D).map fun d => .bl ((fun _ => true) d))) [.v (.tup [x]), .un, .un] := by
    refine sLc_map _ ?_ (by simp [noOwn]) (by simp) fun d hd => by cases hd
    have c : cutD [x] (some 1) none = [] := by
      unfold cutD
      rw [show HT.sIx [x].length 0 (some 1) = min 1 [x].length from HT.sIx_nat [x].length 0 1]
      rfl
    simp [c, zipD]
  simp [B_is_ascending, e, allF, allBl]
/-! ### reached -/
def reachB : SemS := sSeq (sAsg (sPop 3) (gPut 4)) (sFor (sIter (sBin ixF (sVar 0) (sVar 4))) (gPut 5) (sIfS (sT (sDIn true 2 (sVar 5))) (sSeq (sDPut 2 (sVar 5) (sC (.bl true))) (sIfS (sT (sBin geF (sVar 5) (sC (.int 0)))) (sApp 3 (sVar 5)) sNext)) sNext))
theorem reach_of {arrows : D} {start : Int} {n : Nat} {ks ms : List Int} {x y : Sl} (e : whileF (sTru 3) reachB n [.v arrows, .v (.int start), .o false (.dK []), .o false (.l [.int start]), .un, .un] = .nx [.v arrows, .v (.int start), .o false (.dK (ks.map fun k => (.inl k, .bl true))), .o false (.l []), x, y])
    (p : ms.Perm ks) (o : ms.Pairwise (· ≤ ·)) (hl : ks.length < 64) : F_reached [.v arrows, .v (.int start)] = .ok (.lst (ms.map .int)) [.v arrows, .v (.int start)] := by
  have ew := sWhile_eq e (fun z => nomatch z)
  have ik : intKeys (ks.map fun k => ((.inl k : Key), D.bl true)) = some ks := by
    clear e ew p o hl
    induction ks with
    | nil => rfl
    | cons k ks ih =>
      rw [List.map_cons]
      show (intKeys _).map (k :: ·) = _
      rw [ih]
      rfl
  have es : sSortK 2 [.v arrows, .v (.int start), .o false (.dK (ks.map fun k => (.inl k, .bl true))), .o false (.l []), x, y] = .ok (.lst (ms.map .int)) [.v arrows, .v (.int start), .o false (.dK (ks.map fun k => (.inl k, .bl true))), .o false (.l []), x, y] := by
    unfold sSortK muAt
    simp [ik, hl, sortI_eq p o]
  refine (runFn_rt (d := .lst (ms.map .int)) (ρ' := [.v arrows, .v (.int start), .o false (.dK (ks.map fun k => (.inl k, .bl true))), .o false (.l []), x, y]) ?_).trans (by simp)
  unfold B_reached
  simp only [q_seq]
  have e1 : sNewD 2 (.dK []) ([.v arrows, .v (.int start)] ++ List.replicate 4 .un) = .nx [.v arrows, .v (.int start), .o false (.dK []), .un, .un, .un] := by rfl
  have e2 : sNewL 3 (sLim (sCons (sVar 1) sNil)) [.v arrows, .v (.int start), .o false (.dK []), .un, .un, .un] = .nx [.v arrows, .v (.int start), .o false (.dK []), .o false (.l [.int start]), .un, .un] := by rfl
  rw [e1, SR.then_nx, q_seq, e2, SR.then_nx, q_seq]
  have ew2 : sWhile (sTru 3) (sSeq (sAsg (sPop 3) (gPut 4)) (sFor (sIter (sBin ixF (sVar 0) (sVar 4))) (gPut 5) (sIfS (sT (sDIn true 2 (sVar 5))) (sSeq (sDPut 2 (sVar 5) (sC (.bl true))) (sIfS (sT (sBin geF (sVar 5) (sC (.int 0)))) (sApp 3 (sVar 5)) sNext)) sNext))) [.v arrows, .v (.int start), .o false (.dK []), .o false (.l [.int start]), .un, .un] = _ := ew
  rw [ew2, SR.then_nx, q_ret, es, Res.st_ok]
end Sh

namespace Sh
open PySem PySem.Spec PyProof.Rows L2
/-! ### the tape -/
def Tape (cs : List Int) (c : Nat) (m : Mu) : Prop := ∃ p r x k : Int, m = .l [.lst (cs.map .int), .int p, .int r, .int x, .int k] ∧ 0 ≤ p ∧ 0 ≤ x ∧ x < 2147483648 ∧ 0 ≤ k ∧ k ≤ c
theorem at_1 {α : Type} (a b : α) (r : List α) : atI (a :: b :: r) 1 = some b := atN (i := 1) rfl
theorem at_2 {α : Type} (a b c : α) (r : List α) : atI (a :: b :: c :: r) 2 = some c := atN (i := 2) rfl
theorem at_3 {α : Type} (a b c d : α) (r : List α) : atI (a :: b :: c :: d :: r) 3 = some d := atN (i := 3) rfl
theorem at_4 {α : Type} (a b c d e : α) (r : List α) : atI (a :: b :: c :: d :: e :: r) 4 = some e := atN (i := 4) rfl
theorem ix5 : ixN 5 1 = some 1 ∧ ixN 5 2 = some 2 ∧ ixN 5 3 = some 3 ∧ ixN 5 4 = some 4 := by decide
theorem at0 {α : Type} (x : α) (r : List α) : atI (x :: r) 0 = some x := atN (i := 0) rfl
theorem cell_at (cs : List Int) {p : Int} (h0 : 0 ≤ p) (h1 : p < cs.length) : ∃ v : Int, atI (cs.map D.int) p = some (.int v) := by
  obtain ⟨i, rfl⟩ : ∃ i : Nat, p = (i : Int) := ⟨p.toNat, by omega⟩
  have hi : i < cs.length := by omega
  exact ⟨cs[i], atN (by rw [List.getElem?_map, List.getElem?_eq_getElem hi]; rfl)⟩
theorem mulC_l {i : Int} (j : Int) (h0 : 0 ≤ i) (h1 : i < 4294967296) : mulC i j = true := by
  unfold mulC
  rw [decide_eq_true (show -(2 ^ 64) < i by have : -(2 ^ 64) < (0 : Int) := by decide
                                            omega), decide_eq_true (show i < 2 ^ 64 by have : (4294967296 : Int) < 2 ^ 64 := by decide
                                                                                       omega)]
  rfl
def pickB1 : SemS := sSeq (sAsg (sBin modF (sFn intV (sCons (sBin addF (sBin addF (sBin mulF2 (sIxO 0 (sC (.int 3))) (sC (.int 48271))) (sBin modF (sFn intV (sCons (sVar 2) sNil)) (sC (.int 2147483629)))) (sBin mulF2 (sIxO 0 (sC (.int 4))) (sC (.int 69621)))) sNil)) (sC (.int 2147483647))) (gPut 3))
    (sSeq (sAsg (sBin modF (sFn intV (sCons (sBin mulF2 (sVar 3) (sBin addF (sBin divF (sVar 3) (sC (.int 1009))) (sC (.int 40692)))) sNil)) (sC (.int 2147483399))) (gPut 3))
    (sSeq (sSet 0 (sC (.int 3)) (sVar 3))
    (sRet (sBin modF (sFn intV (sCons (sBin divF (sVar 3) (sC (.int 16))) sNil)) (sVar 1)))))
def pickB2 : SemS := sSeq (sIfS (sT (sBin geF (sVar 2) (sBin powF (sC (.int 10)) (sC (.int 18))))) (sSeq (sSet 0 (sC (.int 2)) (sBin divF (sVar 2) (sVar 1))) (sRet (sBin modF (sFn intV (sCons (sVar 2) sNil)) (sVar 1)))) sNext) pickB1
theorem pick1 (cs : List Int) (p r x k many v : Int) (h1 : 1 ≤ many) (hx : 0 ≤ x) (hx2 : x < 2147483648) (hk : 0 ≤ k) (hk2 : k ≤ 2000000) :
    ∃ d x' : Int, ∃ s3 : Sl, 0 ≤ d ∧ d < many ∧ 0 ≤ x' ∧ x' < 2147483648 ∧ pickB1 [.o true (.l [.lst (cs.map .int), .int p, .int r, .int x, .int k]), .v (.int many), .v (.int v), .un, .un] = .rt (.int d) [.o true (.l [.lst (cs.map .int), .int p, .int r, .int x', .int k]), .v (.int many), .v (.int v), s3, .un] := by
  have hmany : ∀ z, modC z many = true := fun z => by simp [modC]; omega
  have m1 := q_mul (mulC_l 48271 hx (by omega))
  have m2 := q_mul (mulC_l 69621 hk (by omega))
  have c1 : ∀ z, modC z 2147483629 = true := fun z => by simp [modC]
  have c2 : ∀ z, modC z 2147483647 = true := fun z => by simp [modC]
  have c3 : ∀ z, modC z 2147483399 = true := fun z => by simp [modC]
  have d1 : ∀ z, divC z 1009 = true := fun z => by simp [divC]
  have d2 : ∀ z, divC z 16 = true := fun z => by simp [divC]
  generalize hy : (x * 48271 + v % 2147483629 + k * 69621) % 2147483647 = y
  have y0 : 0 ≤ y := by rw [← hy]; exact Int.emod_nonneg _ (by decide)
  have y1 : y < 2147483647 := by rw [← hy]; exact Int.emod_lt_of_pos _ (by decide)
  have m3 := q_mul (mulC_l (y / 1009 + 40692) y0 (by omega))
  generalize hz : (y * (y / 1009 + 40692)) % 2147483399 = z
  have z0 : 0 ≤ z := by rw [← hz]; exact Int.emod_nonneg _ (by decide)
  have z1 : z < 2147483399 := by rw [← hz]; exact Int.emod_lt_of_pos _ (by decide)
  refine ⟨z / 16 % many, z, .v (.int z), Int.emod_nonneg _ (by omega), Int.emod_lt_of_pos _ (by omega), z0, by omega, ?_⟩
  have a1 : sAsg (sBin modF (sFn intV (sCons (sBin addF (sBin addF (sBin mulF2 (sIxO 0 (sC (.int 3))) (sC (.int 48271))) (sBin modF (sFn intV (sCons (sVar 2) sNil)) (sC (.int 2147483629)))) (sBin mulF2 (sIxO 0 (sC (.int 4))) (sC (.int 69621)))) sNil)) (sC (.int 2147483647))) (gPut 3) [.o true (.l [.lst (cs.map .int), .int p, .int r, .int x, .int k]), .v (.int many), .v (.int v), .un, .un] = .nx [.o true (.l [.lst (cs.map .int), .int p, .int r, .int x, .int k]), .v (.int many), .v (.int v), .v (.int y), .un] := by
    simp [at_3, at_4, m1, m2, c1, c2, hy]
  have a2 : sAsg (sBin modF (sFn intV (sCons (sBin mulF2 (sVar 3) (sBin addF (sBin divF (sVar 3) (sC (.int 1009))) (sC (.int 40692)))) sNil)) (sC (.int 2147483399))) (gPut 3) [.o true (.l [.lst (cs.map .int), .int p, .int r, .int x, .int k]), .v (.int many), .v (.int v), .v (.int y), .un] = .nx [.o true (.l [.lst (cs.map .int), .int p, .int r, .int x, .int k]), .v (.int many), .v (.int v), .v (.int z), .un] := by
    simp [m3, c3, d1, hz]
  have a3 : sSet 0 (sC (.int 3)) (sVar 3) [.o true (.l [.lst (cs.map .int), .int p, .int r, .int x, .int k]), .v (.int many), .v (.int v), .v (.int z), .un] = .nx [.o true (.l [.lst (cs.map .int), .int p, .int r, .int z, .int k]), .v (.int many), .v (.int v), .v (.int z), .un] := by
    simp [ix5]
  unfold pickB1
  rw [q_seq, a1, SR.then_nx, q_seq, a2, SR.then_nx, q_seq, a3, SR.then_nx]
  simp [d2, hmany]
theorem pick2 (cs : List Int) (p r x k many v : Int) (h1 : 1 ≤ many) (hmb : many ≤ 1000) (hx : 0 ≤ x) (hx2 : x < 2147483648) (hk : 0 ≤ k) (hk2 : k ≤ 2000000) :
    ∃ d r' x' : Int, ∃ s3 : Sl, 0 ≤ d ∧ d < many ∧ 0 ≤ x' ∧ x' < 2147483648 ∧ pickB2 [.o true (.l [.lst (cs.map .int), .int p, .int r, .int x, .int k]), .v (.int many), .v (.int v), .un, .un] = .rt (.int d) [.o true (.l [.lst (cs.map .int), .int p, .int r', .int x', .int k]), .v (.int many), .v (.int v), s3, .un] := by
  have hmany : ∀ z, modC z many = true := fun z => by simp [modC]; omega
  have hdiv : ∀ z, divC z many = true := fun z => by simp [divC]; omega
  have hp : powC 10 18 = true := by decide
  have tn : (18 : Int).toNat = 18 := rfl
  unfold pickB2
  by_cases hv : (10 : Int) ^ 18 ≤ v
  · refine ⟨v % many, v / many, x, .un, Int.emod_nonneg _ (by omega), Int.emod_lt_of_pos _ (by omega), hx, hx2, ?_⟩
    have a1 : sIfS (sT (sBin geF (sVar 2) (sBin powF (sC (.int 10)) (sC (.int 18))))) (sSeq (sSet 0 (sC (.int 2)) (sBin divF (sVar 2) (sVar 1))) (sRet (sBin modF (sFn intV (sCons (sVar 2) sNil)) (sVar 1)))) sNext [.o true (.l [.lst (cs.map .int), .int p, .int r, .int x, .int k]), .v (.int many), .v (.int v), .un, .un] = .rt (.int (v % many)) [.o true (.l [.lst (cs.map .int), .int p, .int (v / many), .int x, .int k]), .v (.int many), .v (.int v), .un, .un] := by
      simp only [q_ifS, q_T, q_bin, q_var, q_C, Res.bind_ok, q_lift2, q_pow, hp, tn, if_true, List.getElem?_cons_succ, List.getElem?_cons_zero, q_ge, decide_eq_true hv, q_toBok, Res.st_ok]
      simp [hdiv, hmany, ix5]
    rw [q_seq, a1, SR.then_rt]
  · obtain ⟨d, x', s3, k1, k2, k3, k4, e⟩ := pick1 cs p r x k many v h1 hx hx2 hk hk2
    refine ⟨d, r, x', s3, k1, k2, k3, k4, ?_⟩
    have a1 : sIfS (sT (sBin geF (sVar 2) (sBin powF (sC (.int 10)) (sC (.int 18))))) (sSeq (sSet 0 (sC (.int 2)) (sBin divF (sVar 2) (sVar 1))) (sRet (sBin modF (sFn intV (sCons (sVar 2) sNil)) (sVar 1)))) sNext [.o true (.l [.lst (cs.map .int), .int p, .int r, .int x, .int k]), .v (.int many), .v (.int v), .un, .un] = .nx [.o true (.l [.lst (cs.map .int), .int p, .int r, .int x, .int k]), .v (.int many), .v (.int v), .un, .un] := by
      simp only [q_ifS, q_T, q_bin, q_var, q_C, Res.bind_ok, q_lift2, q_pow, hp, tn, if_true, List.getElem?_cons_succ, List.getElem?_cons_zero, q_ge, decide_eq_false hv, q_toBok, Res.st_ok, q_next, Bool.false_eq_true, if_false]
    rw [q_seq, a1, SR.then_nx, e]
/-- a pick: below many, and the tape stays a tape -/
theorem r_pick (cs : List Int) (c : Nat) (m : Mu) (many : Int) (ht : Tape cs c m) (h1 : 1 ≤ many) (hmb : many ≤ 1000) (hc : c ≤ 1000000) :
    ∃ (d : Int) (m' : Mu), 0 ≤ d ∧ d < many ∧ Tape cs (c + 1) m' ∧ F__law_pick [.o true m, .v (.int many)] = .ok (.int d) [.o true m', .v (.int many)] := by
  obtain ⟨p, r, x, k, rfl, hp, hx, hx2, hk, hk2⟩ := ht
  have hmany : ∀ z, modC z many = true := fun z => by simp [modC]; omega
  have hdiv : ∀ z, divC z many = true := fun z => by simp [divC]; omega
  have eB : B__law_pick = sSeq (sIfS (sT (sBin gtF (sIxO 0 (sC (.int 2))) (sC (.int 1)))) (sSeq (sAsg (sBin modF (sFn intV (sCons (sIxO 0 (sC (.int 2))) sNil)) (sVar 1)) (gPut 4)) (sSeq (sSet 0 (sC (.int 2)) (sBin divF (sIxO 0 (sC (.int 2))) (sVar 1))) (sRet (sVar 4)))) sNext)
    (sSeq (sSet 0 (sC (.int 4)) (sBin addF (sIxO 0 (sC (.int 4))) (sC (.int 1)))) (sSeq (sAsg (sC (.int 0)) (gPut 2)) (sSeq (sIfS (sT (sBin ltF2 (sIxO 0 (sC (.int 1))) (sFn lenV (sCons (sIxO 0 (sC (.int 0))) sNil)))) (sSeq (sAsg (sBin ixF (sIxO 0 (sC (.int 0))) (sIxO 0 (sC (.int 1)))) (gPut 2)) (sSet 0 (sC (.int 1)) (sBin addF (sIxO 0 (sC (.int 1))) (sC (.int 1))))) sNext) pickB2))) := rfl
  by_cases hr : 1 < r
  · refine ⟨r % many, .l [.lst (cs.map .int), .int p, .int (r / many), .int x, .int k], Int.emod_nonneg _ (by omega), Int.emod_lt_of_pos _ (by omega), ⟨p, r / many, x, k, rfl, hp, hx, hx2, hk, by omega⟩, ?_⟩
    refine (runFn_rt (d := .int (r % many)) (ρ' := [.o true (.l [.lst (cs.map .int), .int p, .int (r / many), .int x, .int k]), .v (.int many), .un, .un, .v (.int (r % many))]) ?_).trans (by simp)
    rw [eB, q_seq]
    have a1 : sIfS (sT (sBin gtF (sIxO 0 (sC (.int 2))) (sC (.int 1)))) (sSeq (sAsg (sBin modF (sFn intV (sCons (sIxO 0 (sC (.int 2))) sNil)) (sVar 1)) (gPut 4)) (sSeq (sSet 0 (sC (.int 2)) (sBin divF (sIxO 0 (sC (.int 2))) (sVar 1))) (sRet (sVar 4)))) sNext ([.o true (.l [.lst (cs.map .int), .int p, .int r, .int x, .int k]), .v (.int many)] ++ List.replicate 3 .un) = .rt (.int (r % many)) [.o true (.l [.lst (cs.map .int), .int p, .int (r / many), .int x, .int k]), .v (.int many), .un, .un, .v (.int (r % many))] := by
      simp [List.replicate, at_2, hr, hmany, hdiv, ix5]
    rw [a1, SR.then_rt]
  · have a1 : sIfS (sT (sBin gtF (sIxO 0 (sC (.int 2))) (sC (.int 1)))) (sSeq (sAsg (sBin modF (sFn intV (sCons (sIxO 0 (sC (.int 2))) sNil)) (sVar 1)) (gPut 4)) (sSeq (sSet 0 (sC (.int 2)) (sBin divF (sIxO 0 (sC (.int 2))) (sVar 1))) (sRet (sVar 4)))) sNext ([.o true (.l [.lst (cs.map .int), .int p, .int r, .int x, .int k]), .v (.int many)] ++ List.replicate 3 .un) = .nx [.o true (.l [.lst (cs.map .int), .int p, .int r, .int x, .int k]), .v (.int many), .un, .un, .un] := by
      simp [List.replicate, at_2, hr]
    have a2 : sSet 0 (sC (.int 4)) (sBin addF (sIxO 0 (sC (.int 4))) (sC (.int 1))) [.o true (.l [.lst (cs.map .int), .int p, .int r, .int x, .int k]), .v (.int many), .un, .un, .un] = .nx [.o true (.l [.lst (cs.map .int), .int p, .int r, .int x, .int (k + 1)]), .v (.int many), .un, .un, .un] := by
      simp [at_4, ix5]
    have a3 : sAsg (sC (.int 0)) (gPut 2) [.o true (.l [.lst (cs.map .int), .int p, .int r, .int x, .int (k + 1)]), .v (.int many), .un, .un, .un] = .nx [.o true (.l [.lst (cs.map .int), .int p, .int r, .int x, .int (k + 1)]), .v (.int many), .v (.int 0), .un, .un] := by
      simp
    have a4 : ∃ p' v : Int, 0 ≤ p' ∧ sIfS (sT (sBin ltF2 (sIxO 0 (sC (.int 1))) (sFn lenV (sCons (sIxO 0 (sC (.int 0))) sNil)))) (sSeq (sAsg (sBin ixF (sIxO 0 (sC (.int 0))) (sIxO 0 (sC (.int 1)))) (gPut 2)) (sSet 0 (sC (.int 1)) (sBin addF (sIxO 0 (sC (.int 1))) (sC (.int 1))))) sNext [.o true (.l [.lst (cs.map .int), .int p, .int r, .int x, .int (k + 1)]), .v (.int many), .v (.int 0), .un, .un] = .nx [.o true (.l [.lst (cs.map .int), .int p', .int r, .int x, .int (k + 1)]), .v (.int many), .v (.int v), .un, .un] := by
      by_cases hl : p < (cs.length : Int)
      · obtain ⟨v, ev⟩ := cell_at cs hp hl
        exact ⟨p + 1, v, by omega, by simp [at_1, at0, hl, ev, ix5]⟩
      · exact ⟨p, 0, hp, by simp [at_1, at0, hl]⟩
    obtain ⟨p', v, hp', a4⟩ := a4
    obtain ⟨d, r', x', s3, k1, k2, k3, k4, a5⟩ := pick2 cs p' r x (k + 1) many v h1 hmb hx hx2 (by omega) (by omega)
    refine ⟨d, .l [.lst (cs.map .int), .int p', .int r', .int x', .int (k + 1)], k1, k2, ⟨p', r', x', k + 1, rfl, hp', k3, k4, by omega, by omega⟩, ?_⟩
    refine (runFn_rt (d := .int d) (ρ' := [.o true (.l [.lst (cs.map .int), .int p', .int r', .int x', .int (k + 1)]), .v (.int many), .v (.int v), s3, .un]) ?_).trans (by simp)
    rw [eB, q_seq, a1, SR.then_nx, q_seq, a2, SR.then_nx, q_seq, a3, SR.then_nx, q_seq, a4, SR.then_nx, a5]
end Sh

namespace Sh
open PySem PySem.Spec PyProof.Rows L2
/-! ### bounded dealers -/
def idxL (l : Int) : Int := if 0 < l then 2 * l - 1 else -2 * l
def leadsL (m : Nat) : List Int := 0 :: ((List.range m).map fun (k : Nat) => [((k : Int) + 1), -((k : Int) + 1)]).flatten
def partsL (a b : Int) (m : Nat) (l : Int) : List (Int × Int) := (if l + 1 ≤ (m : Int) then [(a, idxL (l + 1))] else []) ++ (if -(m : Int) ≤ l - 1 then [(b, idxL (l - 1))] else [])
def neverD (a b : Int) (m : Nat) : List D := (leadsL m).map fun l => .tup ((sortP (partsL a b m l)).map pairD)
noncomputable def neverB : SemS := (sSeq (sNewL 3 (sLim (sCons (sC (.int 0)) sNil)))
    (sSeq (sFor (sRng2 (sCons (sC (.int 1)) (sCons (sBin addF (sVar 2) (sC (.int 1))) sNil))) (gPut 4) (sExt 3 (sLim (sCons (sVar 4) (sCons (sUn negF (sVar 4)) sNil)))))
    (sRet (sFnL tupF (sLc [4] (sIter (sFz 3)) (gPut 4) sYes (sCall (F__lead_standing) [.e (sVar 0), .e (sVar 1), .e (sFz 3), .e (sVar 4)]))))))
theorem never_run (a b : Int) (m : Nat) (hm : m = 1 ∨ m = 2 ∨ m = 3) : neverB [.v (.int a), .v (.int b), .v (.int (m : Int)), .un, .un] = .rt (.tup (neverD a b m)) [.v (.int a), .v (.int b), .v (.int (m : Int)), .v (.lst ((leadsL m).map .int)), .v (.int (m : Int))] := by
  rcases hm with rfl | rfl | rfl <;> kernel_rfl
def dueK (a b : Int) (m : Nat) : List (Key × D) := (List.range (2 * m + 1)).map fun (k : Nat) => (.inl (idxL ((k : Int) - (m : Int))), .tup ((sortP (partsL a b m ((k : Int) - (m : Int)))).map pairD))
theorem due_run (a b : Int) (m : Nat) (hm : m = 1 ∨ m = 2 ∨ m = 3) : B__law_due [.v (.int a), .v (.int b), .v (.int (m : Int)), .un, .un, .un, .un] = .rt (.tup (neverD a b m)) [.v (.int a), .v (.int b), .v (.int (m : Int)), .o false (.dK (dueK a b m)), .v (.int (m : Int)), .o false (.l ((partsL a b m (m : Int)).map pairD)), .un] := by
  rcases hm with rfl | rfl | rfl <;> kernel_rfl
theorem r_due (a b : Int) (m : Nat) (hm : m = 1 ∨ m = 2 ∨ m = 3) : F__law_due [.v (.int a), .v (.int b), .v (.int (m : Int))] = .ok (.tup (neverD a b m)) [.v (.int a), .v (.int b), .v (.int (m : Int))] :=
  (runFn_rt (due_run a b m hm)).trans (by simp)
theorem r_never (a b : Int) (m : Nat) (hm : m = 1 ∨ m = 2 ∨ m = 3) (ha : -6 ≤ a ∧ a ≤ 7) (hb : -6 ≤ b ∧ b ≤ 7) (hab : a ≠ b) : F_never_ahead [.v (.int a), .v (.int b), .v (.int (m : Int))] = .ok (.tup (neverD a b m)) [.v (.int a), .v (.int b), .v (.int (m : Int))] := by
  refine (runFn_rt (d := .tup (neverD a b m)) (ρ' := [.v (.int a), .v (.int b), .v (.int (m : Int)), .v (.lst ((leadsL m).map .int)), .v (.int (m : Int))]) ?_).trans (by simp)
  have rd := r_are_doors [a, b] 2 (by simp) (by simp) (fun d hd => by
    rcases List.mem_cons.mp hd with rfl | hd
    · exact ha
    · rw [List.mem_singleton.mp hd]; exact hb) (by simp)
  have rd : F__are_doors [.v (.tup [.int a, .int b]), .v (.int 2)] = .ok (.bl true) [.v (.tup [.int a, .int b]), .v (.int 2)] := rd
  have m1 : (1 : Int) ≤ (m : Int) := by omega
  have m2 : (m : Int) ≤ 3 := by omega
  have e1 : sIfS (sOr (sNot (sT (sCall (F__are_doors) [.e (sTup (sCons (sVar 0) (sCons (sVar 1) sNil))), .e (sC (.int 2))]))) (sT (sBin (eqD false) (sVar 0) (sVar 1)))) sNever sNext [.v (.int a), .v (.int b), .v (.int (m : Int)), .un, .un] = .nx [.v (.int a), .v (.int b), .v (.int (m : Int)), .un, .un] := by
    simp [rd, eqD_int, hab]
  have e2 : sIfS (sNot (sT (sCall (F_is_within) [.e (sVar 2), .e (sC (.int 1)), .e (sC (.int 3))]))) sNever sNext [.v (.int a), .v (.int b), .v (.int (m : Int)), .un, .un] = .nx [.v (.int a), .v (.int b), .v (.int (m : Int)), .un, .un] := by
    simp [r_within, m1, m2]
  have eB : B_never_ahead = sSeq (sIfS (sOr (sNot (sT (sCall (F__are_doors) [.e (sTup (sCons (sVar 0) (sCons (sVar 1) sNil))), .e (sC (.int 2))]))) (sT (sBin (eqD false) (sVar 0) (sVar 1)))) sNever sNext) (sSeq (sIfS (sNot (sT (sCall (F_is_within) [.e (sVar 2), .e (sC (.int 1)), .e (sC (.int 3))]))) sNever sNext) neverB) := rfl
  rw [show [Sl.v (.int a), .v (.int b), .v (.int (m : Int))] ++ List.replicate 2 Sl.un = [.v (.int a), .v (.int b), .v (.int (m : Int)), .un, .un] from rfl, eB, q_seq, e1, SR.then_nx, q_seq, e2, SR.then_nx, never_run a b m hm]
end Sh

namespace Sh
open PySem PySem.Spec PyProof.Rows L2
/-! ### where one house's doors lead -/
def dictT (ks : List Int) : List (Key × D) := ks.map fun k => (.inl k, .bl true)
theorem look_dictT (k : Int) : ∀ ks : List Int, lookD (dictT ks) (.inl k) = if k ∈ ks then some (.bl true) else none
  | [] => rfl
  | j :: ks => by
    have ih := look_dictT k ks
    unfold lookD at ih ⊢
    by_cases e : j = k
    · subst e
      simp [dictT]
    · rw [show dictT (j :: ks) = (.inl j, .bl true) :: dictT ks from rfl, List.find?_cons_of_neg (by simp [e]), ih]
      have : ¬ k = j := fun z => e z.symm
      simp [this]
theorem put_dictT {k : Int} {ks : List Int} (h : k ∉ ks) : putD (dictT ks) (.inl k) (.bl true) = dictT (ks ++ [k]) := by
  unfold putD
  rw [if_neg]
  · simp [dictT]
  · intro z
    obtain ⟨p, hp, e⟩ := List.any_eq_true.mp z
    obtain ⟨j, hj, rfl⟩ := List.mem_map.mp hp
    simp at e
    exact h (e ▸ hj)
def reachS : SemS := sIfS (sT (sDIn true 2 (sVar 5))) (sSeq (sDPut 2 (sVar 5) (sC (.bl true))) (sIfS (sT (sBin geF (sVar 5) (sC (.int 0)))) (sApp 3 (sVar 5)) sNext)) sNext
theorem reach_new (a b c : D) (s5 : Sl) (h5 : s5 = .un ∨ ∃ d, s5 = .v d) : ∀ (M P W : List Int), (P ++ M).Nodup → P.length + M.length ≤ 100 → W.length + M.length ≤ 100 → ∃ y, (y = .un ∨ ∃ d, y = .v d) ∧
    loopS (gPut 5) reachS (M.map .int) [.v a, .v b, .o false (.dK (dictT P)), .o false (.l (W.map .int)), .v c, s5] = .nx [.v a, .v b, .o false (.dK (dictT (P ++ M))), .o false (.l ((W ++ M.filter fun m => decide (0 ≤ m)).map .int)), .v c, y]
  | [], P, W, _, _, _ => ⟨s5, h5, by simp⟩
  | m :: M, P, W, nd, hl, hw => by
    rw [List.length_cons] at hl hw
    have nm : m ∉ P := fun z => by
      have := (List.nodup_append.mp nd).2.2 m z m (List.mem_cons_self ..)
      exact this rfl
    have nd2 : ((P ++ [m]) ++ M).Nodup := by rw [List.append_assoc]; exact nd
    have hpl : (dictT P).length < 10000000 := by simp [dictT]; omega
    have hwl : W.length < 10000000 := by omega
    have e0 : tgRun (gPut 5 (.int m) [.v a, .v b, .o false (.dK (dictT P)), .o false (.l (W.map .int)), .v c, s5]) (fun ρ1 => turn (reachS ρ1) (loopS (gPut 5) reachS (M.map .int))) = turn (reachS [.v a, .v b, .o false (.dK (dictT P)), .o false (.l (W.map .int)), .v c, .v (.int m)]) (loopS (gPut 5) reachS (M.map .int)) := by
      rcases h5 with rfl | ⟨d, rfl⟩ <;> simp
    have e1 : reachS [.v a, .v b, .o false (.dK (dictT P)), .o false (.l (W.map .int)), .v c, .v (.int m)] = .nx [.v a, .v b, .o false (.dK (dictT (P ++ [m]))), .o false (.l ((if 0 ≤ m then W ++ [m] else W).map .int)), .v c, .v (.int m)] := by
      unfold reachS
      by_cases hm : 0 ≤ m
      · simp [sDIn, muAt, getMu, keyD, look_dictT, nm, sDPut, putMu, hpl, put_dictT nm, setMu, hm, sApp, hwl]
      · simp [sDIn, muAt, getMu, keyD, look_dictT, nm, sDPut, putMu, hpl, put_dictT nm, setMu, hm]
    obtain ⟨y, hy, ih⟩ := reach_new a b c (.v (.int m)) (.inr ⟨_, rfl⟩) M (P ++ [m]) (if 0 ≤ m then W ++ [m] else W) nd2 (by rw [List.length_append, List.length_singleton]; omega) (by split <;> first | (rw [List.length_append, List.length_singleton]; omega) | omega)
    refine ⟨y, hy, ?_⟩
    rw [List.map_cons, q_loop1, e0, e1, turn_nx, ih]
    by_cases hm : 0 ≤ m <;> simp [hm]
theorem reach_old (a b c : D) (P : List Int) (w : Mu) : ∀ (M : List Int) (s5 : Sl), (s5 = .un ∨ ∃ d, s5 = .v d) → (∀ m ∈ M, m ∈ P) → ∃ y, (y = .un ∨ ∃ d, y = .v d) ∧
    loopS (gPut 5) reachS (M.map .int) [.v a, .v b, .o false (.dK (dictT P)), .o false w, .v c, s5] = .nx [.v a, .v b, .o false (.dK (dictT P)), .o false w, .v c, y]
  | [], s5, h5, _ => ⟨s5, h5, by simp⟩
  | m :: M, s5, h5, hM => by
    have hm : m ∈ P := hM m (List.mem_cons_self ..)
    obtain ⟨y, hy, ih⟩ := reach_old a b c P w M (.v (.int m)) (.inr ⟨_, rfl⟩) fun m hm => hM m (List.mem_cons_of_mem _ hm)
    refine ⟨y, hy, ?_⟩
    have e0 : tgRun (gPut 5 (.int m) [.v a, .v b, .o false (.dK (dictT P)), .o false w, .v c, s5]) (fun ρ1 => turn (reachS ρ1) (loopS (gPut 5) reachS (M.map .int))) = turn (reachS [.v a, .v b, .o false (.dK (dictT P)), .o false w, .v c, .v (.int m)]) (loopS (gPut 5) reachS (M.map .int)) := by
      rcases h5 with rfl | ⟨d, rfl⟩ <;> simp
    have e1 : reachS [.v a, .v b, .o false (.dK (dictT P)), .o false w, .v c, .v (.int m)] = .nx [.v a, .v b, .o false (.dK (dictT P)), .o false w, .v c, .v (.int m)] := by
      unfold reachS
      simp [sDIn, muAt, getMu, keyD, look_dictT, hm]
    rw [List.map_cons, q_loop1, e0, e1, turn_nx, ih]
/-- the places that come up of doors at most 0, from house 0 -/
theorem q_while1 (c : SemE Bool) (b : SemS) (n : Nat) (ρ : List Sl) : whileF c b (n + 1) ρ = (c ρ).st fun k ρ1 => if k = true then turn (b ρ1) (whileF c b n) else .nx ρ1 := rfl
theorem r_reached_one (L : List Int) (nd : L.Nodup) (o : L.Pairwise (· ≤ ·)) (hL : ∀ l ∈ L, l ≤ 0) (hl : L.length ≤ 50) : F_reached [.v (.lst [.lst (L.map .int)]), .v (.int 0)] = .ok (.lst (L.map .int)) [.v (.lst [.lst (L.map .int)]), .v (.int 0)] := by
  have eR : reachB = sSeq (sAsg (sPop 3) (gPut 4)) (sFor (sIter (sBin ixF (sVar 0) (sVar 4))) (gPut 5) reachS) := rfl
  have first : ∃ y, (y = Sl.un ∨ ∃ d, y = .v d) ∧ reachB [.v (.lst [.lst (L.map .int)]), .v (.int 0), .o false (.dK []), .o false (.l [.int 0]), .un, .un] = .nx [.v (.lst [.lst (L.map .int)]), .v (.int 0), .o false (.dK (dictT L)), .o false (.l ((L.filter fun m => decide (0 ≤ m)).map .int)), .v (.int 0), y] := by
    obtain ⟨y, hy, e⟩ := reach_new (.lst [.lst (L.map .int)]) (.int 0) (.int 0) .un (.inl rfl) L [] [] (by simpa using nd) (by simp; omega) (by simp; omega)
    refine ⟨y, hy, ?_⟩
    rw [eR, q_seq]
    have e1 : sAsg (sPop 3) (gPut 4) [.v (.lst [.lst (L.map .int)]), .v (.int 0), .o false (.dK []), .o false (.l [.int 0]), .un, .un] = .nx [.v (.lst [.lst (L.map .int)]), .v (.int 0), .o false (.dK []), .o false (.l []), .v (.int 0), .un] := by
      simp [sPop]
    have e2 : sIter (sBin ixF (sVar 0) (sVar 4)) [.v (.lst [.lst (L.map .int)]), .v (.int 0), .o false (.dK []), .o false (.l []), .v (.int 0), .un] = .ok (L.map .int) [.v (.lst [.lst (L.map .int)]), .v (.int 0), .o false (.dK []), .o false (.l []), .v (.int 0), .un] := by
      simp [atI, ixN]
    rw [e1, SR.then_nx, q_for, e2, Res.st_ok]
    rw [show dictT [] = [] from rfl] at e
    simpa using e
  obtain ⟨y, hy, e1⟩ := first
  have tru : ∀ (W : List D) (x z : Sl), sTru 3 [.v (.lst [.lst (L.map .int)]), .v (.int 0), x, .o false (.l W), z, y] = .ok (!W.isEmpty) [.v (.lst [.lst (L.map .int)]), .v (.int 0), x, .o false (.l W), z, y] := fun W x z => by simp [sTru]
  have tru0 : sTru 3 [.v (.lst [.lst (L.map .int)]), .v (.int 0), .o false (.dK []), .o false (.l [.int 0]), .un, .un] = .ok true [.v (.lst [.lst (L.map .int)]), .v (.int 0), .o false (.dK []), .o false (.l [.int 0]), .un, .un] := by simp [sTru]
  by_cases h0 : (0 : Int) ∈ L
  · have ef : (L.filter fun m => decide (0 ≤ m)) = [0] := by
      have all0 : ∀ m ∈ L.filter fun m => decide (0 ≤ m), m = 0 := fun m hm => by
        obtain ⟨h1, h2⟩ := List.mem_filter.mp hm
        have := hL m h1
        simp at h2
        omega
      have ndf : (L.filter fun m => decide (0 ≤ m)).Nodup := nd.filter _
      have h0f : (0 : Int) ∈ L.filter fun m => decide (0 ≤ m) := List.mem_filter.mpr ⟨h0, by simp⟩
      generalize (L.filter fun m => decide (0 ≤ m)) = F at all0 ndf h0f
      match F, all0, ndf, h0f with
      | [x], all0, _, _ => rw [all0 x (List.mem_cons_self ..)]
      | x :: z :: F, all0, ndf, _ =>
        have ex := all0 x (List.mem_cons_self ..)
        have ez := all0 z (List.mem_cons_of_mem _ (List.mem_cons_self ..))
        subst ex ez
        simp at ndf
    rw [ef] at e1
    obtain ⟨y2, hy2, e2⟩ := reach_old (.lst [.lst (L.map .int)]) (.int 0) (.int 0) L (.l []) L y hy fun _ h => h
    have second : reachB [.v (.lst [.lst (L.map .int)]), .v (.int 0), .o false (.dK (dictT L)), .o false (.l [.int 0]), .v (.int 0), y] = .nx [.v (.lst [.lst (L.map .int)]), .v (.int 0), .o false (.dK (dictT L)), .o false (.l []), .v (.int 0), y2] := by
      rw [eR, q_seq]
      have e3 : sAsg (sPop 3) (gPut 4) [.v (.lst [.lst (L.map .int)]), .v (.int 0), .o false (.dK (dictT L)), .o false (.l [.int 0]), .v (.int 0), y] = .nx [.v (.lst [.lst (L.map .int)]), .v (.int 0), .o false (.dK (dictT L)), .o false (.l []), .v (.int 0), y] := by
        simp [sPop]
      have e4 : sIter (sBin ixF (sVar 0) (sVar 4)) [.v (.lst [.lst (L.map .int)]), .v (.int 0), .o false (.dK (dictT L)), .o false (.l []), .v (.int 0), y] = .ok (L.map .int) [.v (.lst [.lst (L.map .int)]), .v (.int 0), .o false (.dK (dictT L)), .o false (.l []), .v (.int 0), y] := by
        simp [atI, ixN]
      rw [e3, SR.then_nx, q_for, e4, Res.st_ok]
      exact e2
    refine reach_of (n := 3) (ks := L) (x := .v (.int 0)) (y := y2) ?_ (.refl _) o (by omega)
    have tru2 : sTru 3 [.v (.lst [.lst (L.map .int)]), .v (.int 0), .o false (.dK (dictT L)), .o false (.l []), .v (.int 0), y2] = .ok false [.v (.lst [.lst (L.map .int)]), .v (.int 0), .o false (.dK (dictT L)), .o false (.l []), .v (.int 0), y2] := by simp [sTru]
    rw [q_while1 _ _ 2]
    rw [tru0, Res.st_ok, if_pos rfl, e1, turn_nx]
    rw [q_while1 _ _ 1]
    rw [show ([0] : List Int).map D.int = [.int 0] from rfl, tru, Res.st_ok, if_pos (by decide), second, turn_nx]
    rw [q_while1 _ _ 0]
    rw [tru2, Res.st_ok, if_neg Bool.false_ne_true]
    rfl
  · have ef : (L.filter fun m => decide (0 ≤ m)) = [] := List.filter_eq_nil_iff.mpr fun m hm z => by
      have := hL m hm
      simp at z
      have : m = 0 := by omega
      exact h0 (this ▸ hm)
    rw [ef] at e1
    refine reach_of (n := 2) (ks := L) (x := .v (.int 0)) (y := y) ?_ (.refl _) o (by omega)
    rw [q_while1 _ _ 1]
    rw [tru0, Res.st_ok, if_pos rfl, e1, turn_nx]
    rw [q_while1 _ _ 0]
    rw [show ([] : List Int).map D.int = [] from rfl, tru, Res.st_ok, if_neg (by decide)]
    rfl
end Sh

namespace Sh
open PySem PySem.Spec PyProof.Rows L2
/-! ### the web of a bounded dealer -/
def Td (m : Nat) : List D := (leadsL m).map fun l => .tup ((partsL (-2) (-1) m l).map pairD)
theorem never_T (m : Nat) (hm : m = 1 ∨ m = 2 ∨ m = 3) : neverD (-2) (-1) m = Td m := by
  unfold neverD Td
  refine List.map_congr_left fun l hl => ?_
  have e : partsL (-2) (-1) m l = sortP (partsL (-2) (-1) m l) := by
    refine sortP_eq (.refl _) ?_
    unfold partsL
    split <;> split <;> simp [SrtO.lexB]
  rw [← e]
def nD (m : Nat) : Nat := 2 * m + 1
theorem Td_dealer (m : Nat) (hm : m = 1 ∨ m = 2 ∨ m = 3) : F__is_dealer [.v (.tup (Td m)), .v (.int 2), .v (.int 1)] = .ok (.bl true) [.v (.tup (Td m)), .v (.int 2), .v (.int 1)] := by
  rcases hm with rfl | rfl | rfl <;> kernel_rfl
/-- where the steps of each standing go on -/
def arrT (m : Nat) : D := .lst ((leadsL m).map fun l => .lst ((partsL (-2) (-1) m l).map fun p => .int p.2))
theorem Td_arrows (m : Nat) (hm : m = 1 ∨ m = 2 ∨ m = 3) : sAsg (sL (sLc [2] (sIter (sVar 0)) (gPut 2) sYes (sL (sLc [4, 5] (sIter (sVar 2)) (gTupS 2 (gsCons (gPut 4) (gsCons (gPut 5) gsNil))) sYes (sVar 5))))) (gPut 1) [.v (.tup (Td m)), .un, .un, .un, .un, .un, .un] = .nx [.v (.tup (Td m)), .v (arrT m), .un, .un, .un, .un, .un] := by
  rcases hm with rfl | rfl | rfl <;> kernel_rfl
def nats (n : Nat) : List Int := (List.range n).map fun (j : Nat) => (j : Int)
/-- the order in which they are found -/
def foundO (m s : Nat) : List Int := match whileF (sTru 3) reachB 20 [.v (arrT m), .v (.int (s : Int)), .o false (.dK []), .o false (.l [.int (s : Int)]), .un, .un] with
  | .nx [_, _, .o _ (.dK ks), _, _, _] => ks.map fun p => match p.1 with | .inl i => i | .inr _ => 0
  | _ => []
theorem Td_reached0 (m s : Nat) (x y : Sl) (h : whileF (sTru 3) reachB 20 [.v (arrT m), .v (.int (s : Int)), .o false (.dK []), .o false (.l [.int (s : Int)]), .un, .un] = .nx [.v (arrT m), .v (.int (s : Int)), .o false (.dK ((foundO m s).map fun k => (.inl k, .bl true))), .o false (.l []), x, y])
    (h2 : (nats (nD m)).Perm (foundO m s)) (h3 : (nats (nD m)).Pairwise (· ≤ ·)) (h4 : (foundO m s).length < 64) : F_reached [.v (arrT m), .v (.int (s : Int))] = .ok (.lst ((nats (nD m)).map .int)) [.v (arrT m), .v (.int (s : Int))] := reach_of h h2 h3 h4
def foundX (m s : Nat) : Sl := match whileF (sTru 3) reachB 20 [.v (arrT m), .v (.int (s : Int)), .o false (.dK []), .o false (.l [.int (s : Int)]), .un, .un] with
  | .nx [_, _, _, _, x, _] => x
  | _ => .un
def foundY (m s : Nat) : Sl := match whileF (sTru 3) reachB 20 [.v (arrT m), .v (.int (s : Int)), .o false (.dK []), .o false (.l [.int (s : Int)]), .un, .un] with
  | .nx [_, _, _, _, _, y] => y
  | _ => .un
theorem Td_reachedW (m s : Nat) (h : whileF (sTru 3) reachB 20 [.v (arrT m), .v (.int (s : Int)), .o false (.dK []), .o false (.l [.int (s : Int)]), .un, .un] = .nx [.v (arrT m), .v (.int (s : Int)), .o false (.dK ((foundO m s).map fun k => (.inl k, .bl true))), .o false (.l []), foundX m s, foundY m s])
    (h2 : (nats (nD m)).Perm (foundO m s)) (h3 : (nats (nD m)).Pairwise (· ≤ ·)) (h4 : (foundO m s).length < 64) : F_reached [.v (arrT m), .v (.int (s : Int))] = .ok (.lst ((nats (nD m)).map .int)) [.v (arrT m), .v (.int (s : Int))] := Td_reached0 m s _ _ h h2 h3 h4
theorem Td_reached (m s : Nat) (hm : m = 1 ∨ m = 2 ∨ m = 3) (h : s < nD m) : F_reached [.v (arrT m), .v (.int (s : Int))] = .ok (.lst ((nats (nD m)).map .int)) [.v (arrT m), .v (.int (s : Int))] := by
  have hs : s = 0 ∨ s = 1 ∨ s = 2 ∨ s = 3 ∨ s = 4 ∨ s = 5 ∨ s = 6 := by
    unfold nD at h
    omega
  rcases hm with rfl | rfl | rfl <;> rcases hs with rfl | rfl | rfl | rfl | rfl | rfl | rfl <;>
    first
      | (exact absurd h (by decide))
      | (exact Td_reachedW _ _ (by kernel_rfl) (by decide +kernel) (by decide +kernel) (by decide +kernel))
theorem Td_len (m : Nat) (hm : m = 1 ∨ m = 2 ∨ m = 3) : (Td m).length = nD m ∧ nD m ≤ 7 := by
  rcases hm with rfl | rfl | rfl <;> exact ⟨by decide +kernel, by decide⟩
theorem mem_rangeD {d : D} {n : Nat} (h : d ∈ rangeD 0 n) : ∃ i : Nat, i < n ∧ d = .int (i : Int) := by
  unfold rangeD at h
  obtain ⟨i, h1, rfl⟩ := List.mem_map.mp h
  exact ⟨i, List.mem_range.mp h1, by simp⟩
theorem rangeD_at {d : D} {n i : Nat} (h : (rangeD 0 n)[i]? = some d) : i < n ∧ d = .int (i : Int) := by
  unfold rangeD at h
  rw [List.getElem?_map] at h
  cases q : (List.range n)[i]? with
  | none => rw [q] at h; cases h
  | some j =>
    rw [q] at h
    cases h
    have hi := (List.getElem?_eq_some_iff.mp q).1
    rw [List.length_range] at hi
    rw [List.getElem?_range hi] at q
    cases q
    exact ⟨hi, by simp⟩
theorem nats_in {n i : Nat} (h : i < n) : (nats n).contains (i : Int) = true := by
  unfold nats
  simp only [List.contains_iff_mem]
  exact List.mem_map.mpr ⟨i, List.mem_range.mpr h, rfl⟩
/-- a dealer is joined: from each standing all are reached -/
theorem r_joinedG (T : List D) (A : D) (n : Nat) (hn : T.length = n) (hn2 : n ≤ 60) (e0' : sAsg (sL (sLc [2] (sIter (sVar 0)) (gPut 2) sYes (sL (sLc [4, 5] (sIter (sVar 2)) (gTupS 2 (gsCons (gPut 4) (gsCons (gPut 5) gsNil))) sYes (sVar 5))))) (gPut 1) [.v (.tup T), .un, .un, .un, .un, .un, .un] = .nx [.v (.tup T), .v A, .un, .un, .un, .un, .un])
    (hr : ∀ s : Nat, s < n → F_reached [.v A, .v (.int (s : Int))] = .ok (.lst ((nats n).map .int)) [.v A, .v (.int (s : Int))]) : F__is_joined [.v (.tup T)] = .ok (.bl true) [.v (.tup T)] := by
  have loop := loop_inv (t := gPut 2) (b := sSeq (sAsg (sCall F_reached [.e (sVar 1), .e (sVar 2)]) (gPut 3)) (sIfS (sNot (sT (sFnL allF (sLc [6] (sRng1 (sCons (sFn lenV (sCons (sVar 0) sNil)) sNil)) (gPut 6) (sT (sBin (eqD true) (sVar 6) (sVar 2))) (sBin (inI false) (sVar 6) (sVar 3)))))) (sRet (sC (.bl false))) sNext))
    (fun _ ρ => ∃ s2 s3 : Sl, (s2 = .un ∨ ∃ d, s2 = .v d) ∧ (s3 = .un ∨ ∃ d, s3 = .v d) ∧ ρ = [.v (.tup T), .v A, s2, s3, .un, .un, .un]) (rangeD 0 n) 0 [.v (.tup T), .v A, .un, .un, .un, .un, .un] ⟨.un, .un, .inl rfl, .inl rfl, rfl⟩ fun i d ρ hd ⟨s2, s3, c2, c3, e⟩ => by
      obtain ⟨hi, rfl⟩ := rangeD_at hd
      subst e
      refine ⟨[.v (.tup T), .v A, .v (.int (i : Int)), s3, .un, .un, .un], [.v (.tup T), .v A, .v (.int (i : Int)), .v (.lst ((nats n).map .int)), .un, .un, .un], ?_, ?_, .v (.int (i : Int)), .v (.lst ((nats n).map .int)), .inr ⟨_, rfl⟩, .inr ⟨_, rfl⟩, rfl⟩
      · rcases c2 with rfl | ⟨d, rfl⟩ <;> simp
      · have er := hr i hi
        have ea : sAsg (sCall F_reached [.e (sVar 1), .e (sVar 2)]) (gPut 3) [.v (.tup T), .v A, .v (.int (i : Int)), s3, .un, .un, .un] = .nx [.v (.tup T), .v A, .v (.int (i : Int)), .v (.lst ((nats n).map .int)), .un, .un, .un] := by
          rcases c3 with rfl | ⟨d, rfl⟩ <;> simp [er]
        rw [q_seq, ea, SR.then_nx]
        have ec : sLc [6] (sRng1 (sCons (sFn lenV (sCons (sVar 0) sNil)) sNil)) (gPut 6) (sT (sBin (eqD true) (sVar 6) (sVar 2))) (sBin (inI false) (sVar 6) (sVar 3)) [.v (.tup T), .v A, .v (.int (i : Int)), .v (.lst ((nats n).map .int)), .un, .un, .un] =
            .ok (((rangeD 0 n).filter fun d => match d with | .int j => !decide (j = (i : Int)) | _ => false).map fun d => .bl ((fun _ => true) d)) [.v (.tup T), .v A, .v (.int (i : Int)), .v (.lst ((nats n).map .int)), .un, .un, .un] := by
          refine sLc_if _ _ ?_ (by simp [noOwn]) (by rw [show (rangeD 0 n).length = n by simp [rangeD]]; omega) fun x hx => ?_
          · exact q_rngN (by simp [hn]) (by omega)
          · obtain ⟨j, hj, rfl⟩ := mem_rangeD hx
            refine ⟨[.v (.tup T), .v A, .v (.int (i : Int)), .v (.lst ((nats n).map .int)), .un, .un, .v (.int (j : Int))], [.v (.tup T), .v A, .v (.int (i : Int)), .v (.lst ((nats n).map .int)), .un, .un, .v (.int (j : Int))], [.v (.tup T), .v A, .v (.int (i : Int)), .v (.lst ((nats n).map .int)), .un, .un, .v (.int (j : Int))], by simp [blank], ?_, by simp [blank], fun _ => ⟨?_, by simp [blank]⟩⟩
            · simp [eqD_int]
            · have z := q_in false (j : Int) (nats n)
              rw [nats_in hj] at z
              simp [z]
        have ea := allF_true (ds := (rangeD 0 n).filter fun d => match d with | .int j => !decide (j = (i : Int)) | _ => false) (p := fun _ => true) (fun _ _ => rfl)
        simp only [q_ifS, q_not, q_T, q_fnL, ec, Res.bind_ok, ea, q_toBok, Res.st_ok, q_next]
        simp
  obtain ⟨ρ', e1, s2, s3, _, _, rfl⟩ := loop
  refine (runFn_rt (d := .bl true) (ρ' := [.v (.tup T), .v A, s2, s3, .un, .un, .un]) ?_).trans (by simp)
  unfold B__is_joined
  rw [q_seq, show [Sl.v (.tup T)] ++ List.replicate 6 Sl.un = [.v (.tup T), .un, .un, .un, .un, .un, .un] from rfl, e0', SR.then_nx, q_seq, q_for]
  have er : sRng1 (sCons (sFn lenV (sCons (sVar 0) sNil)) sNil) [.v (.tup T), .v A, .un, .un, .un, .un, .un] = .ok (rangeD 0 n) [.v (.tup T), .v A, .un, .un, .un, .un, .un] := by
    exact q_rngN (by simp [hn]) (by omega)
  rw [er, Res.st_ok, e1, SR.then_nx]
  rfl
theorem Td_joined (m : Nat) (hm : m = 1 ∨ m = 2 ∨ m = 3) : F__is_joined [.v (.tup (Td m))] = .ok (.bl true) [.v (.tup (Td m))] :=
  r_joinedG (Td m) (arrT m) (nD m) (Td_len m hm).1 (by have := (Td_len m hm).2; omega) (Td_arrows m hm) fun s hs => Td_reached m s hm hs
/-- doors_of, by its run -/
theorem r_doorsG (T : List D) (ks ms : List Int) (e1 : setOut [1, 2, 3] [2, 3] (gPut 1) (sIter (sVar 1)) (gTupS 2 (gsCons (gPut 2) (gsCons (gPut 3) gsNil))) (sVar 2) T [] [.v (.tup T), .un, .un, .un] = .ok ks [.v (.tup T), .un, .un, .un]) (hl2 : ks.length < 64) (p : ms.Perm ks) (o : ms.Pairwise (· ≤ ·)) :
    F_doors_of [.v (.tup T)] = .ok (.lst (ms.map .int)) [.v (.tup T)] := by
  have e : sSortSet2 [1, 2, 3] [2, 3] (sIter (sVar 0)) (gPut 1) (sIter (sVar 1)) (gTupS 2 (gsCons (gPut 2) (gsCons (gPut 3) gsNil))) (sVar 2) [.v (.tup T), .un, .un, .un] = .ok (.lst (ms.map .int)) [.v (.tup T), .un, .un, .un] := by
    unfold sSortSet2 sSc2
    rw [show sIter (sVar 0) [.v (.tup T), .un, .un, .un] = .ok T [.v (.tup T), .un, .un, .un] from by simp, Res.bind_ok, if_pos (by simp [noOwn]), show blank [1, 2, 3] [Sl.v (.tup T), .un, .un, .un] = [.v (.tup T), .un, .un, .un] from by simp [blank], e1, nx_ok, Res.bind_ok, if_pos hl2, sortI_eq p o]
    simp [merge]
  refine (runFn_rt (d := .lst (ms.map .int)) (ρ' := [.v (.tup T), .un, .un, .un]) ?_).trans (by simp)
  unfold B_doors_of
  rw [show [Sl.v (.tup T)] ++ List.replicate 3 Sl.un = [.v (.tup T), .un, .un, .un] from rfl, q_ret, e, Res.st_ok]
theorem Td_doors (m : Nat) (hm : m = 1 ∨ m = 2 ∨ m = 3) : F_doors_of [.v (.tup (Td m))] = .ok (.lst ([-2, -1].map .int)) [.v (.tup (Td m))] := by
  rcases hm with rfl | rfl | rfl <;> exact r_doorsG _ [-2, -1] [-2, -1] (by kernel_rfl) (by decide) (by decide) (by decide)
end Sh

namespace Sh
open PySem PySem.Spec PyProof.Rows L2
/-! ### the web of one house -/
theorem r_checkG (c : Int) (T : List D) (L : List Int) (hc1 : 1 ≤ c) (hc2 : c ≤ 6) (hmL : (-1 : Int) ∈ L) (lL : L.length ≤ 8) (rd : F__is_dealer [.v (.tup T), .v (.int c), .v (.int 1)] = .ok (.bl true) [.v (.tup T), .v (.int c), .v (.int 1)]) (rj : F__is_joined [.v (.tup T)] = .ok (.bl true) [.v (.tup T)])
    (ro : F_doors_of [.v (.tup T)] = .ok (.lst (L.map .int)) [.v (.tup T)]) (rr : F_reached [.v (.lst [.lst (L.map .int)]), .v (.int 0)] = .ok (.lst (L.map .int)) [.v (.lst [.lst (L.map .int)]), .v (.int 0)]) : ∃ ρ, F__check [.v (.int c), .v (.tup [.tup T])] = .ok .non ρ := by
  refine ⟨_, runFn_nx (ρ' := [.v (.int c), .v (.tup [.tup T]), .v (.lst [.lst (L.map .int)]), .v (.int 0), .v (.tup T), .un]) ?_⟩
  have e1 : sIfS (sNot (sT (sCall F_is_within [.e (sVar 0), .e (sC (.int 1)), .e (sC (.int 6))]))) sNever sNext [.v (.int c), .v (.tup [.tup T]), .un, .un, .un, .un] = .nx [.v (.int c), .v (.tup [.tup T]), .un, .un, .un, .un] := by
    simp [r_within, hc1, hc2]
  have e2 : sIfS (sOr (sNot (sT (sFn isiV (sCons (sVar 1) (sCons (sC (.ty "tuple")) sNil))))) (sNot (sT (sChain leF leF (sC (.int 1)) (sFn lenV (sCons (sVar 1) sNil)) (sC (.int 8)))))) sNever sNext [.v (.int c), .v (.tup [.tup T]), .un, .un, .un, .un] = .nx [.v (.int c), .v (.tup [.tup T]), .un, .un, .un, .un] := by
    simp [isi_tup]
  have e3 : sFor (sEnumT (sCons (sVar 1) sNil)) (gTupS 2 (gsCons (gPut 3) (gsCons (gPut 4) gsNil))) (sIfS (sNot (sT (sCall F__is_dealer [.e (sVar 4), .e (sVar 0), .e (sFn lenV (sCons (sVar 1) sNil))]))) sNever sNext) [.v (.int c), .v (.tup [.tup T]), .un, .un, .un, .un] = .nx [.v (.int c), .v (.tup [.tup T]), .un, .v (.int 0), .v (.tup T), .un] := by
    simp [enumD, rd]
  have e4 : sFor (sEnumT (sCons (sVar 1) sNil)) (gTupS 2 (gsCons (gPut 3) (gsCons (gPut 4) gsNil))) (sIfS (sNot (sT (sCall F__is_joined [.e (sVar 4)]))) sNever sNext) [.v (.int c), .v (.tup [.tup T]), .un, .v (.int 0), .v (.tup T), .un] = .nx [.v (.int c), .v (.tup [.tup T]), .un, .v (.int 0), .v (.tup T), .un] := by
    simp [enumD, rj]
  have e5 : sAsg (sL (sLc [4] (sIter (sVar 1)) (gPut 4) sYes (sCall F_doors_of [.e (sVar 4)]))) (gPut 2) [.v (.int c), .v (.tup [.tup T]), .un, .v (.int 0), .v (.tup T), .un] = .nx [.v (.int c), .v (.tup [.tup T]), .v (.lst [.lst (L.map .int)]), .v (.int 0), .v (.tup T), .un] := by
    have ec : sLc [4] (sIter (sVar 1)) (gPut 4) sYes (sCall F_doors_of [.e (sVar 4)]) [.v (.int c), .v (.tup [.tup T]), .un, .v (.int 0), .v (.tup T), .un] = .ok ([D.tup T].map fun _ => .lst (L.map .int)) [.v (.int c), .v (.tup [.tup T]), .un, .v (.int 0), .v (.tup T), .un] := by
      refine sLc_map _ (by simp) (by simp [noOwn]) (by simp) fun x hx => ?_
      cases List.mem_singleton.mp hx
      exact ⟨[.v (.int c), .v (.tup [.tup T]), .un, .v (.int 0), .v (.tup T), .un], [.v (.int c), .v (.tup [.tup T]), .un, .v (.int 0), .v (.tup T), .un], by simp [blank], by simp [ro], by simp [blank]⟩
    rw [q_asg, q_L, ec]
    simp
  have e6 : sFor (sRng1 (sCons (sFn lenV (sCons (sVar 1) sNil)) sNil)) (gPut 3) (sIfS (sT (sFnL allF (sLc [5] (sIter (sCall F_reached [.e (sVar 2), .e (sVar 3)])) (gPut 5) sYes (sBin geF (sVar 5) (sC (.int 0)))))) sNever sNext) [.v (.int c), .v (.tup [.tup T]), .v (.lst [.lst (L.map .int)]), .v (.int 0), .v (.tup T), .un] = .nx [.v (.int c), .v (.tup [.tup T]), .v (.lst [.lst (L.map .int)]), .v (.int 0), .v (.tup T), .un] := by
    have er : sRng1 (sCons (sFn lenV (sCons (sVar 1) sNil)) sNil) [.v (.int c), .v (.tup [.tup T]), .v (.lst [.lst (L.map .int)]), .v (.int 0), .v (.tup T), .un] = .ok (rangeD 0 1) [.v (.int c), .v (.tup [.tup T]), .v (.lst [.lst (L.map .int)]), .v (.int 0), .v (.tup T), .un] := q_rngN (by simp) (by decide)
    have ec : sLc [5] (sIter (sCall F_reached [.e (sVar 2), .e (sVar 3)])) (gPut 5) sYes (sBin geF (sVar 5) (sC (.int 0))) [.v (.int c), .v (.tup [.tup T]), .v (.lst [.lst (L.map .int)]), .v (.int 0), .v (.tup T), .un] = .ok ((L.map D.int).map fun d => .bl ((fun d => match d with | .int i => decide (0 ≤ i) | _ => false) d)) [.v (.int c), .v (.tup [.tup T]), .v (.lst [.lst (L.map .int)]), .v (.int 0), .v (.tup T), .un] := by
      refine sLc_map _ (by simp [rr]) (by simp [noOwn]) (by simp; omega) fun x hx => ?_
      obtain ⟨i, hi, rfl⟩ := List.mem_map.mp hx
      exact ⟨[.v (.int c), .v (.tup [.tup T]), .v (.lst [.lst (L.map .int)]), .v (.int 0), .v (.tup T), .v (.int i)], [.v (.int c), .v (.tup [.tup T]), .v (.lst [.lst (L.map .int)]), .v (.int 0), .v (.tup T), .v (.int i)], by simp [blank], by simp, by simp [blank]⟩
    have ea := allF_map (L.map D.int) fun d => match d with | .int i => decide (0 ≤ i) | _ => false
    have ef : ((L.map D.int).all fun d => match d with | .int i => decide (0 ≤ i) | _ => false) = false := by
      rw [List.all_eq_false]
      exact ⟨.int (-1), List.mem_map.mpr ⟨-1, hmL, rfl⟩, by decide⟩
    rw [ef] at ea
    have eb : sIfS (sT (sFnL allF (sLc [5] (sIter (sCall F_reached [.e (sVar 2), .e (sVar 3)])) (gPut 5) sYes (sBin geF (sVar 5) (sC (.int 0)))))) sNever sNext [.v (.int c), .v (.tup [.tup T]), .v (.lst [.lst (L.map .int)]), .v (.int 0), .v (.tup T), .un] = .nx [.v (.int c), .v (.tup [.tup T]), .v (.lst [.lst (L.map .int)]), .v (.int 0), .v (.tup T), .un] := by
      simp only [q_ifS, q_T, q_fnL, ec, Res.bind_ok, ea, q_toBok, Res.st_ok, q_next]
      simp
    rw [q_for, er, Res.st_ok, show rangeD 0 1 = [.int 0] from rfl, q_loop1, show gPut 3 (.int 0) [Sl.v (.int c), .v (.tup [.tup T]), .v (.lst [.lst (L.map .int)]), .v (.int 0), .v (.tup T), .un] = some [.v (.int c), .v (.tup [.tup T]), .v (.lst [.lst (L.map .int)]), .v (.int 0), .v (.tup T), .un] from rfl, tgRun_some, eb, turn_nx, q_loop0]
  unfold B__check
  rw [show [Sl.v (.int c), .v (.tup [.tup T])] ++ List.replicate 4 Sl.un = [.v (.int c), .v (.tup [.tup T]), .un, .un, .un, .un] from rfl, q_seq, e1, SR.then_nx, q_seq, e2, SR.then_nx, q_seq, e3, SR.then_nx, q_seq, e4, SR.then_nx, q_seq, e5, SR.then_nx, e6]
def webT (C : Addr) (m : Nat) : D := .obj C [("cups", .int 2), ("dealers", .tup [.tup (Td m)])]
theorem Td_check (m : Nat) (hm : m = 1 ∨ m = 2 ∨ m = 3) : ∃ ρ, F__check [.v (.int 2), .v (.tup [.tup (Td m)])] = .ok .non ρ :=
  r_checkG 2 (Td m) [-2, -1] (by decide) (by decide) (by decide) (by decide) (Td_dealer m hm) (Td_joined m hm) (Td_doors m hm) (r_reached_one [-2, -1] (by decide) (by decide) (by decide) (by decide))
theorem fld_t (C : Addr) (m : Nat) : fldF C "dealers" (webT C m) = some (.tup [.tup (Td m)]) := by
  unfold webT fldF
  dsimp only
  rw [if_pos rfl]
  rfl
/-! moves of a bounded dealer -/
def mvD (n : Int) : D := .tup [.int 0, .int n]
def numL (m : Nat) (l : Int) (up : Bool) : Int := if up = true then 0 else if l < (m : Int) then 1 else 0
def nextL (l : Int) (up : Bool) : Int := if up = true then l + 1 else l - 1
def doorL (up : Bool) : Int := if up = true then -2 else -1
/-- the standing of a lead, and its step -/
theorem Td_at (m : Nat) (hm : m = 1 ∨ m = 2 ∨ m = 3) (l : Int) (h1 : -(m : Int) ≤ l) (h2 : l ≤ (m : Int)) : atI (Td m) (idxL l) = some (.tup ((partsL (-2) (-1) m l).map pairD)) := by
  have hl : l = -3 ∨ l = -2 ∨ l = -1 ∨ l = 0 ∨ l = 1 ∨ l = 2 ∨ l = 3 := by omega
  rcases hm with rfl | rfl | rfl <;> rcases hl with rfl | rfl | rfl | rfl | rfl | rfl | rfl <;> first | rfl | (exact absurd h1 (by decide)) | (exact absurd h2 (by decide))
theorem parts_at (m : Nat) (l : Int) (up : Bool) (h1 : -(m : Int) ≤ nextL l up) (h2 : nextL l up ≤ (m : Int)) : atI ((partsL (-2) (-1) m l).map pairD) (numL m l up) = some (.tup [.int (doorL up), .int (idxL (nextL l up))]) := by
  unfold partsL numL nextL doorL at *
  cases up with
  | true =>
    simp only [if_true] at *
    rw [if_pos h2]
    exact at0 (pairD (-2, idxL (l + 1))) _
  | false =>
    simp only [Bool.false_eq_true, if_false] at *
    rw [if_pos h1]
    by_cases q : l < (m : Int)
    · rw [if_pos q, if_pos (by omega)]
      rfl
    · rw [if_neg q, if_neg (by omega)]
      rfl
theorem parts_len (m : Nat) (l : Int) (up : Bool) (h1 : -(m : Int) ≤ nextL l up) (h2 : nextL l up ≤ (m : Int)) : 0 ≤ numL m l up ∧ numL m l up ≤ ((partsL (-2) (-1) m l).map pairD).length - 1 := by
  unfold partsL numL nextL at *
  cases up with
  | true =>
    simp only [if_true] at *
    rw [if_pos h2]
    simp
  | false =>
    simp only [Bool.false_eq_true, if_false] at *
    rw [if_pos h1]
    by_cases q : l < (m : Int)
    · rw [if_pos q, if_pos (by omega)]
      simp
    · rw [if_neg q, if_neg (by omega)]
      simp
end Sh

namespace Sh
open PySem PySem.Spec PyProof.Rows L2
theorem r_pairT (C : Addr) (m : Nat) (hm : m = 1 ∨ m = 2 ∨ m = 3) (l : Int) (h1 : -(m : Int) ≤ l) (h2 : l ≤ (m : Int)) (up : Bool) (h3 : -(m : Int) ≤ nextL l up) (h4 : nextL l up ≤ (m : Int)) :
    F_pair_of C [.v (webT C m), .v (.tup [.int 0, .int (idxL l), .int (numL m l up)])] = .ok (.tup [.int (doorL up), .int (idxL (nextL l up))]) [.v (webT C m), .v (.tup [.int 0, .int (idxL l), .int (numL m l up)])] := by
  unfold F_pair_of runFn
  simp [B_pair_of, sFldC, fld_t, at0, Td_at m hm l h1 h2, parts_at m l up h3 h4]
theorem r_numberT (C : Addr) (m : Nat) (hm : m = 1 ∨ m = 2 ∨ m = 3) (l : Int) (h1 : -(m : Int) ≤ l) (h2 : l ≤ (m : Int)) (n : Int) :
    F_is_number C [.v (webT C m), .v (.int 0), .v (.int (idxL l)), .v (.int n)] = .ok (.bl (decide (0 ≤ n) && decide (n ≤ ((partsL (-2) (-1) m l).length : Int) - 1))) [.v (webT C m), .v (.int 0), .v (.int (idxL l)), .v (.int n)] := by
  unfold F_is_number runFn
  simp [B_is_number, sFldC, fld_t, at0, Td_at m hm l h1 h2, r_below]
noncomputable def mBody (C : Addr) : SemS := sSeq (sIfS (sNot (sAnd (sT (sCall F_is_tuple_of [.e (sVar 4), .e (sC (.int 2))])) (sT (sCall F_is_below [.e (sBin ixF (sVar 4) (sC (.int 0))), .e (sFnL lenF (sOwn 2))])))) (sRet (sC .non)) sNext)
    (sSeq (sAsg (sVar 4) (gTupS 2 (gsCons (gPut 5) (gsCons (gPut 6) gsNil))))
    (sSeq (sIfS (sNot (sT (sCall (F_is_number C) [.e (sVar 0), .e (sVar 5), .e (sIxO 2 (sVar 5)), .e (sVar 6)]))) (sRet (sC .non)) sNext)
    (sSeq (sApp 3 (sTup (sCons (sVar 5) (sCons (sIxO 2 (sVar 5)) (sCons (sVar 6) sNil)))))
    (sSet 2 (sVar 5) (sBin ixF (sCall (F_pair_of C) [.e (sVar 0), .e (sIxO 3 (sUn negF (sC (.int 1))))]) (sC (.int 1)))))))
def Nn (s : Sl) : Prop := s = .un ∨ ∃ d, s = .v d
def MS (C : Addr) (m : Nat) (mv : D) (l : Int) (tk : List D) (s4 s5 s6 : Sl) : List Sl := [.v (webT C m), .v mv, .o false (.l [.int (idxL l)]), .o false (.l tk), s4, s5, s6]
theorem ix10 : ixN 1 0 = some 0 := by decide
theorem move_put (C : Addr) (m : Nat) (mv : D) (l : Int) (tk : List D) (s4 s5 s6 : Sl) (n : Int) (c4 : Nn s4) : gPut 4 (mvD n) (MS C m mv l tk s4 s5 s6) = some (MS C m mv l tk (.v (mvD n)) s5 s6) := by
  rcases c4 with rfl | ⟨d, rfl⟩ <;> rfl
theorem move_head (C : Addr) (m : Nat) (mv : D) (l : Int) (tk : List D) (s5 s6 : Sl) (n : Int) (c5 : Nn s5) (c6 : Nn s6) (k : SemS) :
    (sSeq (sIfS (sNot (sAnd (sT (sCall F_is_tuple_of [.e (sVar 4), .e (sC (.int 2))])) (sT (sCall F_is_below [.e (sBin ixF (sVar 4) (sC (.int 0))), .e (sFnL lenF (sOwn 2))])))) (sRet (sC .non)) sNext)
      (sSeq (sAsg (sVar 4) (gTupS 2 (gsCons (gPut 5) (gsCons (gPut 6) gsNil)))) k)) (MS C m mv l tk (.v (mvD n)) s5 s6) = k (MS C m mv l tk (.v (mvD n)) (.v (.int 0)) (.v (.int n))) := by
  have a1 : sIfS (sNot (sAnd (sT (sCall F_is_tuple_of [.e (sVar 4), .e (sC (.int 2))])) (sT (sCall F_is_below [.e (sBin ixF (sVar 4) (sC (.int 0))), .e (sFnL lenF (sOwn 2))])))) (sRet (sC .non)) sNext (MS C m mv l tk (.v (mvD n)) s5 s6) = .nx (MS C m mv l tk (.v (mvD n)) s5 s6) := by
    simp [MS, mvD, r_tuple_of, r_below, at0]
  have a2 : sAsg (sVar 4) (gTupS 2 (gsCons (gPut 5) (gsCons (gPut 6) gsNil))) (MS C m mv l tk (.v (mvD n)) s5 s6) = .nx (MS C m mv l tk (.v (mvD n)) (.v (.int 0)) (.v (.int n))) := by
    rcases c5 with rfl | ⟨d, rfl⟩ <;> rcases c6 with rfl | ⟨d, rfl⟩ <;> simp [MS, mvD]
  rw [q_seq, a1, SR.then_nx, q_seq, a2, SR.then_nx]
theorem move_good (C : Addr) (m : Nat) (hm : m = 1 ∨ m = 2 ∨ m = 3) (mv : D) (l : Int) (h1 : -(m : Int) ≤ l) (h2 : l ≤ (m : Int)) (tk : List D) (hk : tk.length < 1000) (s5 s6 : Sl) (c5 : Nn s5) (c6 : Nn s6) (up : Bool) (h3 : -(m : Int) ≤ nextL l up) (h4 : nextL l up ≤ (m : Int)) :
    mBody C (MS C m mv l tk (.v (mvD (numL m l up))) s5 s6) = .nx (MS C m mv (nextL l up) (tk ++ [.tup [.int 0, .int (idxL l), .int (numL m l up)]]) (.v (mvD (numL m l up))) (.v (.int 0)) (.v (.int (numL m l up)))) := by
  unfold mBody
  rw [move_head C m mv l tk s5 s6 _ c5 c6]
  obtain ⟨p1, p2⟩ := parts_len m l up h3 h4
  rw [List.length_map] at p2
  have rn := r_numberT C m hm l h1 h2 (numL m l up)
  have rp := r_pairT C m hm l h1 h2 up h3 h4
  generalize numL m l up = n at *
  have a3 : sIfS (sNot (sT (sCall (F_is_number C) [.e (sVar 0), .e (sVar 5), .e (sIxO 2 (sVar 5)), .e (sVar 6)]))) (sRet (sC .non)) sNext (MS C m mv l tk (.v (mvD n)) (.v (.int 0)) (.v (.int n))) = .nx (MS C m mv l tk (.v (mvD n)) (.v (.int 0)) (.v (.int n))) := by
    simp [MS, at0, rn, p1, p2]
  have hl : tk.length < 10000000 := by omega
  have a4 : sApp 3 (sTup (sCons (sVar 5) (sCons (sIxO 2 (sVar 5)) (sCons (sVar 6) sNil)))) (MS C m mv l tk (.v (mvD n)) (.v (.int 0)) (.v (.int n))) = .nx (MS C m mv l (tk ++ [.tup [.int 0, .int (idxL l), .int n]]) (.v (mvD n)) (.v (.int 0)) (.v (.int n))) := by
    unfold sApp
    simp [MS, at0, hl]
  have al : atI (tk ++ [D.tup [.int 0, .int (idxL l), .int n]]) (-1) = some (.tup [.int 0, .int (idxL l), .int n]) := by
    unfold atI ixN
    rw [if_neg (by decide), if_pos (by rw [List.length_append, List.length_singleton]; omega), List.length_append, List.length_singleton, show ((-1 : Int) + ((tk.length + 1 : Nat) : Int)).toNat = tk.length by omega]
    simp
  have a5 : sSet 2 (sVar 5) (sBin ixF (sCall (F_pair_of C) [.e (sVar 0), .e (sIxO 3 (sUn negF (sC (.int 1))))]) (sC (.int 1))) (MS C m mv l (tk ++ [.tup [.int 0, .int (idxL l), .int n]]) (.v (mvD n)) (.v (.int 0)) (.v (.int n))) = .nx (MS C m mv (nextL l up) (tk ++ [.tup [.int 0, .int (idxL l), .int n]]) (.v (mvD n)) (.v (.int 0)) (.v (.int n))) := by
    simp [MS, al, rp, at_1, ix10]
  rw [q_seq, a3, SR.then_nx, q_seq, a4, SR.then_nx, a5]
theorem move_bad (C : Addr) (m : Nat) (hm : m = 1 ∨ m = 2 ∨ m = 3) (mv : D) (l : Int) (h1 : -(m : Int) ≤ l) (h2 : l ≤ (m : Int)) (tk : List D) (s5 s6 : Sl) (c5 : Nn s5) (c6 : Nn s6) (n : Int) (hn : ((partsL (-2) (-1) m l).length : Int) - 1 < n) :
    mBody C (MS C m mv l tk (.v (mvD n)) s5 s6) = .rt .non (MS C m mv l tk (.v (mvD n)) (.v (.int 0)) (.v (.int n))) := by
  unfold mBody
  rw [move_head C m mv l tk s5 s6 _ c5 c6]
  have rn := r_numberT C m hm l h1 h2 n
  have hx : ¬ n ≤ ((partsL (-2) (-1) m l).length : Int) - 1 := by omega
  have a3 : sIfS (sNot (sT (sCall (F_is_number C) [.e (sVar 0), .e (sVar 5), .e (sIxO 2 (sVar 5)), .e (sVar 6)]))) (sRet (sC .non)) sNext (MS C m mv l tk (.v (mvD n)) (.v (.int 0)) (.v (.int n))) = .rt .non (MS C m mv l tk (.v (mvD n)) (.v (.int 0)) (.v (.int n))) := by
    simp [MS, at0, rn, hx]
  rw [q_seq, a3, SR.then_rt]
end Sh

namespace Sh
open PySem PySem.Spec PyProof.Rows L2
inductive Good (m : Nat) : Int → List Int → Int → Prop
  | nil (l : Int) : Good m l [] l
  | cons {l l' : Int} {r : List Int} (up : Bool) : -(m : Int) ≤ l → l ≤ (m : Int) → -(m : Int) ≤ nextL l up → nextL l up ≤ (m : Int) → Good m (nextL l up) r l' → Good m l (numL m l up :: r) l'
theorem Good.snoc {m : Nat} {l l' : Int} {r : List Int} (g : Good m l r l') (up : Bool) (h1 : -(m : Int) ≤ l') (h2 : l' ≤ (m : Int)) (h3 : -(m : Int) ≤ nextL l' up) (h4 : nextL l' up ≤ (m : Int)) : Good m l (r ++ [numL m l' up]) (nextL l' up) := by
  induction g with
  | nil l => exact .cons up h1 h2 h3 h4 (.nil _)
  | cons up' a b c d _ ih => exact .cons up' a b c d (ih h1 h2 h3 h4)
theorem good_run (C : Addr) (m : Nat) (hm : m = 1 ∨ m = 2 ∨ m = 3) (mv : D) {l l' : Int} {r : List Int} (g : Good m l r l') : ∀ (tk : List D) (s4 s5 s6 : Sl), Nn s4 → Nn s5 → Nn s6 → tk.length + r.length < 1000 →
    ∃ (tk' : List D) (q4 q5 q6 : Sl), Nn q4 ∧ Nn q5 ∧ Nn q6 ∧ ∀ rest, loopS (gPut 4) (mBody C) (r.map mvD ++ rest) (MS C m mv l tk s4 s5 s6) = loopS (gPut 4) (mBody C) rest (MS C m mv l' tk' q4 q5 q6) := by
  induction g with
  | nil l => exact fun tk s4 s5 s6 c4 c5 c6 _ => ⟨tk, s4, s5, s6, c4, c5, c6, fun rest => rfl⟩
  | @cons l l' r up h1 h2 h3 h4 g ih =>
    intro tk s4 s5 s6 c4 c5 c6 hl
    rw [List.length_cons] at hl
    obtain ⟨tk', q4, q5, q6, n4, n5, n6, e⟩ := ih (tk ++ [.tup [.int 0, .int (idxL l), .int (numL m l up)]]) (.v (mvD (numL m l up))) (.v (.int 0)) (.v (.int (numL m l up))) (.inr ⟨_, rfl⟩) (.inr ⟨_, rfl⟩) (.inr ⟨_, rfl⟩) (by rw [List.length_append, List.length_singleton]; omega)
    refine ⟨tk', q4, q5, q6, n4, n5, n6, fun rest => ?_⟩
    rw [List.map_cons, List.cons_append, q_loop1, move_put C m mv l tk s4 s5 s6 _ c4, tgRun_some, move_good C m hm mv l h1 h2 tk (by omega) s5 s6 c5 c6 up h3 h4, turn_nx, e]
theorem taken_pre (C : Addr) (m : Nat) (rows : List D) : B_steps_taken C [.v (webT C m), .v (.tup rows), .un, .un, .un, .un, .un] = (loopS (gPut 4) (mBody C) rows (MS C m (.tup rows) 0 [] .un .un .un)).then (sRet (sFz 3)) := by
  have b1 : sIfS (sNot (sT (sFn isiV (sCons (sVar 1) (sCons (sC (.ty "tuple")) sNil))))) (sRet (sC .non)) sNext [.v (webT C m), .v (.tup rows), .un, .un, .un, .un, .un] = .nx [.v (webT C m), .v (.tup rows), .un, .un, .un, .un, .un] := by
    simp [isi_tup]
  have b2 : sNewL 2 (sRep (sLim (sCons (sC (.int 0)) sNil)) (sFn lenV (sCons (sFldC C "dealers" (sVar 0)) sNil))) [.v (webT C m), .v (.tup rows), .un, .un, .un, .un, .un] = .nx [.v (webT C m), .v (.tup rows), .o false (.l [.int 0]), .un, .un, .un, .un] := by
    unfold sNewL sRep
    simp [sFldC, fld_t, putOwn]
  have b3 : sNewL 3 (sLim sNil) [.v (webT C m), .v (.tup rows), .o false (.l [.int 0]), .un, .un, .un, .un] = .nx [.v (webT C m), .v (.tup rows), .o false (.l [.int 0]), .o false (.l []), .un, .un, .un] := by
    unfold sNewL
    simp [putOwn]
  unfold B_steps_taken
  rw [q_seq, b1, SR.then_nx, q_seq, b2, SR.then_nx, q_seq, b3, SR.then_nx, q_seq, q_for]
  rfl
theorem r_moves_ok (C : Addr) (m : Nat) (hm : m = 1 ∨ m = 2 ∨ m = 3) {r : List Int} {l : Int} (g : Good m 0 r l) (hr : r.length ≤ 100) : F_are_moves C [.v (webT C m), .v (.tup (r.map mvD))] = .ok (.bl true) [.v (webT C m), .v (.tup (r.map mvD))] := by
  obtain ⟨tk, q4, q5, q6, _, _, _, e⟩ := good_run C m hm (.tup (r.map mvD)) g [] .un .un .un (.inl rfl) (.inl rfl) (.inl rfl) (by simp; omega)
  have e := e []
  rw [List.append_nil, q_loop0] at e
  have es : F_steps_taken C [.v (webT C m), .v (.tup (r.map mvD))] = .ok (.lst tk) [.v (webT C m), .v (.tup (r.map mvD))] := by
    refine (runFn_rt (d := .lst tk) (ρ' := [.v (webT C m), .v (.tup (r.map mvD)), .o false (.l [.int (idxL l)]), .v (.lst tk), q4, q5, q6]) ?_).trans (by simp)
    rw [show [Sl.v (webT C m), .v (.tup (r.map mvD))] ++ List.replicate 5 Sl.un = [.v (webT C m), .v (.tup (r.map mvD)), .un, .un, .un, .un, .un] from rfl, taken_pre, e, SR.then_nx]
    rfl
  unfold F_are_moves runFn
  simp [B_are_moves, es, isF2, orE, isF, isNonF]
theorem r_moves_bad (C : Addr) (m : Nat) (hm : m = 1 ∨ m = 2 ∨ m = 3) {r : List Int} {l : Int} (g : Good m 0 r l) (hr : r.length ≤ 100) (h1 : -(m : Int) ≤ l) (h2 : l ≤ (m : Int)) (n : Int) (hn : ((partsL (-2) (-1) m l).length : Int) - 1 < n) :
    F_are_moves C [.v (webT C m), .v (.tup (r.map mvD ++ [mvD n]))] = .ok (.bl false) [.v (webT C m), .v (.tup (r.map mvD ++ [mvD n]))] := by
  obtain ⟨tk, q4, q5, q6, n4, n5, n6, e⟩ := good_run C m hm (.tup (r.map mvD ++ [mvD n])) g [] .un .un .un (.inl rfl) (.inl rfl) (.inl rfl) (by simp; omega)
  have e := e [mvD n]
  rw [q_loop1, move_put C m _ l tk q4 q5 q6 n n4, tgRun_some, move_bad C m hm _ l h1 h2 tk q5 q6 n5 n6 n hn] at e
  have es : F_steps_taken C [.v (webT C m), .v (.tup (r.map mvD ++ [mvD n]))] = .ok .non [.v (webT C m), .v (.tup (r.map mvD ++ [mvD n]))] := by
    refine (runFn_rt (d := .non) (ρ' := MS C m (.tup (r.map mvD ++ [mvD n])) l tk (.v (mvD n)) (.v (.int 0)) (.v (.int n))) ?_).trans (by simp [MS])
    rw [show [Sl.v (webT C m), .v (.tup (r.map mvD ++ [mvD n]))] ++ List.replicate 5 Sl.un = [.v (webT C m), .v (.tup (r.map mvD ++ [mvD n])), .un, .un, .un, .un, .un] from rfl, taken_pre, e]
    rfl
  unfold F_are_moves runFn
  simp [B_are_moves, es, isF2, orE, isF, isNonF]
/-- a loop that may end the def -/
theorem loop_ret {t : SemG} {b : SemS} (I : Nat → List Sl → Prop) (R : D → List Sl → Prop) : ∀ (ds : List D) (k : Nat) (ρ : List Sl), I k ρ →
    (∀ (i : Nat) (d : D) (ρ : List Sl), ds[i]? = some d → I (k + i) ρ → ∃ ρ1, t d ρ = some ρ1 ∧ ((∃ ρ2, b ρ1 = .nx ρ2 ∧ I (k + i + 1) ρ2) ∨ ∃ d ρ2, b ρ1 = .rt d ρ2 ∧ R d ρ2)) →
    (∃ ρ', loopS t b ds ρ = .nx ρ' ∧ I (k + ds.length) ρ') ∨ ∃ d ρ', loopS t b ds ρ = .rt d ρ' ∧ R d ρ'
  | [], k, ρ, h, _ => .inl ⟨ρ, rfl, h⟩
  | d :: ds, k, ρ, h, st => by
    obtain ⟨ρ1, h1, h2⟩ := st 0 d ρ rfl h
    rcases h2 with ⟨ρ2, h2, h3⟩ | ⟨d', ρ2, h2, h3⟩
    · have ih := loop_ret I R ds (k + 1) ρ2 h3 fun i d' ρ hd hI => by
        have := st (i + 1) d' ρ (by rw [List.getElem?_cons_succ]; exact hd) (by rw [show k + (i + 1) = k + 1 + i by omega]; exact hI)
        rw [show k + (i + 1) + 1 = k + 1 + i + 1 by omega] at this
        exact this
      rw [q_loop1, h1, tgRun_some, h2, turn_nx, List.length_cons, show k + (ds.length + 1) = k + 1 + ds.length by omega]
      exact ih
    · exact .inr ⟨d', ρ2, by rw [q_loop1, h1, tgRun_some, h2]; rfl, h3⟩
end Sh

namespace Sh
open PySem PySem.Spec PyProof.Rows L2
theorem Nn.v (d : D) : Nn (.v d) := .inr ⟨d, rfl⟩
theorem Nn.un : Nn .un := .inl rfl
theorem put_N {i : Nat} {ρ : List Sl} {d : D} {s : Sl} (h : ρ[i]? = some s) (n : Nn s) : gPut i d ρ = some (ρ.set i (.v d)) := by
  rw [q_gput, q_put, h]
  rcases n with rfl | ⟨d, rfl⟩ <;> rfl
theorem asg_N {f : SemE D} {i : Nat} {ρ ρ1 : List Sl} {d : D} {s : Sl} (e : f ρ = .ok d ρ1) (h : ρ1[i]? = some s) (n : Nn s) : sAsg f (gPut i) ρ = .nx (ρ1.set i (.v d)) := by
  rw [q_asg, e, Res.st_ok, put_N h n, q_ofput]
theorem q_addT {a b : List D} (h : a.length + b.length ≤ 10000000) : addF (.tup a) (.tup b) = some (.tup (a ++ b)) := by
  show orE catT catL (.tup a) (.tup b) = _
  unfold orE catT
  dsimp only
  rw [if_pos h]
/-- the slots of the row's def: tape, most, web, ahead, row, turn, door, number, later -/
def RS (C : Addr) (tp : Mu) (m : Nat) (l : Int) (r : List Int) (s5 s6 s7 s8 : Sl) : List Sl := [.o true tp, .v (.int (m : Int)), .v (webT C m), .v (.int l), .v (.tup (r.map mvD)), s5, s6, s7, s8]
noncomputable def rowB (C : Addr) : SemS := (sSeq (sAsg (sBin ixF (sL (sLim (sCons (sUn negF (sC (.int 2))) (sCons (sUn negF (sC (.int 1))) sNil)))) (sCall (F__law_pick) [.o 0, .e (sC (.int 2))])) (gPut 6))
    (sSeq (sAsg (sFn intV (sCons (sAndV (sBin (eqD false) (sVar 6) (sUn negF (sC (.int 1)))) (sBin ltF2 (sVar 3) (sVar 1))) sNil)) (gPut 7))
    (sSeq (sAsg (sBin addF (sVar 3) (sBin ixF (sL (sLim (sCons (sC (.int 1)) (sCons (sUn negF (sC (.int 1))) sNil)))) (sFn intV (sCons (sBin (eqD false) (sVar 6) (sUn negF (sC (.int 1)))) sNil)))) (gPut 8))
    (sSeq (sIfS (sT (sBin gtF (sFn absV (sCons (sVar 8) sNil)) (sVar 1))) (sRet (sAndV (sBin (isF2 false) (sCall (F_are_moves C) [.e (sVar 2), .e (sBin addF (sVar 4) (sTup (sCons (sTup (sCons (sC (.int 0)) (sCons (sC (.int 1)) sNil))) sNil)))]) (sC (.bl false))) (sBin (isF2 false) (sCall (F_are_moves C) [.e (sVar 2), .e (sBin addF (sVar 4) (sTup (sCons (sTup (sCons (sC (.int 0)) (sCons (sC (.int 0)) sNil))) sNil)))]) (sC (.bl true))))) sNext)
    (sSeq (sIfS (sOr (sT (sBin (eqD false) (sVar 3) (sUn negF (sVar 1)))) (sT (sBin (eqD false) (sVar 3) (sVar 1)))) (sAsg (sC (.int 0)) (gPut 7)) sNext)
    (sSeq (sAsg (sBin addF (sVar 4) (sTup (sCons (sTup (sCons (sC (.int 0)) (sCons (sVar 7) sNil))) sNil))) (gPut 4))
    (sSeq (sAsg (sVar 8) (gPut 3))
    (sIfS (sT (sBin (isF2 true) (sCall (F_are_moves C) [.e (sVar 2), .e (sVar 4)]) (sC (.bl true)))) (sRet (sC (.bl false))) sNext))))))))
theorem isT (a : Bool) (neg : Bool) (b : Bool) : isF2 neg (.bl a) (.bl b) = some (.bl (if neg then !(decide (a = b)) else decide (a = b))) := rfl
theorem abs_big (x : Int) : absV [.int x] = some (.int (if x < 0 then -x else x)) := rfl
theorem row_turn (C : Addr) (m : Nat) (hm : m = 1 ∨ m = 2 ∨ m = 3) (cs : List Int) (tp : Mu) (c : Nat) (ht : Tape cs c tp) (hc : c ≤ 900000) (l : Int) (r : List Int) (g : Good m 0 r l) (hr : r.length ≤ 50) (h1 : -(m : Int) ≤ l) (h2 : l ≤ (m : Int)) (s5 s6 s7 s8 : Sl) (c6 : Nn s6) (c7 : Nn s7) (c8 : Nn s8) :
    (∃ (tp' : Mu) (l' : Int) (n : Int) (q6 q7 q8 : Sl), Tape cs (c + 1) tp' ∧ Good m 0 (r ++ [n]) l' ∧ -(m : Int) ≤ l' ∧ l' ≤ (m : Int) ∧ Nn q6 ∧ Nn q7 ∧ Nn q8 ∧ rowB C (RS C tp m l r s5 s6 s7 s8) = .nx (RS C tp' m l' (r ++ [n]) s5 q6 q7 q8)) ∨
    ∃ (tp' : Mu) (q6 q7 q8 : Sl), Tape cs (c + 1) tp' ∧ rowB C (RS C tp m l r s5 s6 s7 s8) = .rt (.bl true) (RS C tp' m l r s5 q6 q7 q8) := by
  obtain ⟨d, tp', d0, d1, ht', ep⟩ := r_pick cs c tp 2 ht (by decide) (by decide) (by omega)
  obtain ⟨up, eu⟩ : ∃ up : Bool, atI [D.int (-2), .int (-1)] d = some (.int (doorL up)) := by
    have hd : d = 0 ∨ d = 1 := by omega
    rcases hd with rfl | rfl
    · exact ⟨true, rfl⟩
    · exact ⟨false, rfl⟩
  have m0 : (1 : Int) ≤ (m : Int) := by omega
  have b1 : sAsg (sBin ixF (sL (sLim (sCons (sUn negF (sC (.int 2))) (sCons (sUn negF (sC (.int 1))) sNil)))) (sCall (F__law_pick) [.o 0, .e (sC (.int 2))])) (gPut 6) (RS C tp m l r s5 s6 s7 s8) = .nx (RS C tp' m l r s5 (.v (.int (doorL up))) s7 s8) := by
    have e : sBin ixF (sL (sLim (sCons (sUn negF (sC (.int 2))) (sCons (sUn negF (sC (.int 1))) sNil)))) (sCall (F__law_pick) [.o 0, .e (sC (.int 2))]) (RS C tp m l r s5 s6 s7 s8) = .ok (.int (doorL up)) (RS C tp' m l r s5 s6 s7 s8) := by
      simp [RS, ep, eu]
    rw [asg_N e (s := s6) rfl c6]
    rfl
  have b2 : sAsg (sFn intV (sCons (sAndV (sBin (eqD false) (sVar 6) (sUn negF (sC (.int 1)))) (sBin ltF2 (sVar 3) (sVar 1))) sNil)) (gPut 7) (RS C tp' m l r s5 (.v (.int (doorL up))) s7 s8) = .nx (RS C tp' m l r s5 (.v (.int (doorL up))) (.v (.int (numL m l up))) s8) := by
    have e : sFn intV (sCons (sAndV (sBin (eqD false) (sVar 6) (sUn negF (sC (.int 1)))) (sBin ltF2 (sVar 3) (sVar 1))) sNil) (RS C tp' m l r s5 (.v (.int (doorL up))) s7 s8) = .ok (.int (numL m l up)) (RS C tp' m l r s5 (.v (.int (doorL up))) s7 s8) := by
      cases up with
      | true => simp [RS, eqD_int, doorL, numL, intV]
      | false => simp [RS, eqD_int, doorL, numL, intV]
    rw [asg_N e (s := s7) rfl c7]
    rfl
  have b3 : sAsg (sBin addF (sVar 3) (sBin ixF (sL (sLim (sCons (sC (.int 1)) (sCons (sUn negF (sC (.int 1))) sNil)))) (sFn intV (sCons (sBin (eqD false) (sVar 6) (sUn negF (sC (.int 1)))) sNil)))) (gPut 8) (RS C tp' m l r s5 (.v (.int (doorL up))) (.v (.int (numL m l up))) s8) = .nx (RS C tp' m l r s5 (.v (.int (doorL up))) (.v (.int (numL m l up))) (.v (.int (nextL l up)))) := by
    have e : sBin addF (sVar 3) (sBin ixF (sL (sLim (sCons (sC (.int 1)) (sCons (sUn negF (sC (.int 1))) sNil)))) (sFn intV (sCons (sBin (eqD false) (sVar 6) (sUn negF (sC (.int 1)))) sNil))) (RS C tp' m l r s5 (.v (.int (doorL up))) (.v (.int (numL m l up))) s8) = .ok (.int (nextL l up)) (RS C tp' m l r s5 (.v (.int (doorL up))) (.v (.int (numL m l up))) s8) := by
      cases up with
      | true => simp [RS, eqD_int, doorL, nextL, intV, at0]
      | false => simp [RS, eqD_int, doorL, nextL, intV, at_1]; rfl
    rw [asg_N e (s := s8) rfl c8]
    rfl
  have gt : sT (sBin gtF (sFn absV (sCons (sVar 8) sNil)) (sVar 1)) (RS C tp' m l r s5 (.v (.int (doorL up))) (.v (.int (numL m l up))) (.v (.int (nextL l up)))) = .ok (decide ((m : Int) < (if nextL l up < 0 then -nextL l up else nextL l up))) (RS C tp' m l r s5 (.v (.int (doorL up))) (.v (.int (numL m l up))) (.v (.int (nextL l up)))) := by
    simp [RS, abs_big]
  have rl : (r.map mvD).length + 1 ≤ 10000000 := by rw [List.length_map]; omega
  by_cases hb : (m : Int) < (if nextL l up < 0 then -nextL l up else nextL l up)
  · refine .inr ⟨tp', .v (.int (doorL up)), .v (.int (numL m l up)), .v (.int (nextL l up)), ht', ?_⟩
    -- the bound: one step alone
    have hl : (l = (m : Int) ∧ up = true) ∨ (l = -(m : Int) ∧ up = false) := by
      cases up with
      | true => left; unfold nextL at hb; simp only [if_true] at hb; split at hb <;> exact ⟨by omega, rfl⟩
      | false => right; unfold nextL at hb; simp only [Bool.false_eq_true, if_false] at hb; split at hb <;> exact ⟨by omega, rfl⟩
    have h3 : -(m : Int) ≤ nextL l (!up) := by rcases hl with ⟨rfl, rfl⟩ | ⟨rfl, rfl⟩ <;> simp [nextL] <;> omega
    have h4 : nextL l (!up) ≤ (m : Int) := by rcases hl with ⟨rfl, rfl⟩ | ⟨rfl, rfl⟩ <;> simp [nextL] <;> omega
    have hn : numL m l (!up) = 0 := by rcases hl with ⟨rfl, rfl⟩ | ⟨rfl, rfl⟩ <;> simp [numL]
    have hp : ((partsL (-2) (-1) m l).length : Int) - 1 < 1 := by
      rcases hl with ⟨rfl, rfl⟩ | ⟨rfl, rfl⟩ <;> unfold partsL
      · rw [if_neg (by omega)]; split <;> simp
      · rw [if_neg (c := -(m : Int) ≤ -(m : Int) - 1) (by omega)]; split <;> simp
    have g0 := g.snoc (!up) h1 h2 h3 h4
    rw [hn] at g0
    have k0 := r_moves_ok C m hm g0 (by rw [List.length_append, List.length_singleton]; omega)
    have k1 := r_moves_bad C m hm g (by omega) h1 h2 1 hp
    rw [List.map_append, List.map_singleton] at k0
    have a0 : addF (.tup (r.map mvD)) (.tup [.tup [.int 0, .int 0]]) = some (.tup (r.map mvD ++ [.tup [.int 0, .int 0]])) := q_addT rl
    have a1 : addF (.tup (r.map mvD)) (.tup [.tup [.int 0, .int 1]]) = some (.tup (r.map mvD ++ [.tup [.int 0, .int 1]])) := q_addT rl
    have k0 : F_are_moves C [.v (webT C m), .v (.tup (r.map mvD ++ [.tup [.int 0, .int 0]]))] = .ok (.bl true) [.v (webT C m), .v (.tup (r.map mvD ++ [.tup [.int 0, .int 0]]))] := k0
    have k1 : F_are_moves C [.v (webT C m), .v (.tup (r.map mvD ++ [.tup [.int 0, .int 1]]))] = .ok (.bl false) [.v (webT C m), .v (.tup (r.map mvD ++ [.tup [.int 0, .int 1]]))] := k1
    have z0 : sCall (F_are_moves C) [.e (sVar 2), .e (sBin addF (sVar 4) (sTup (sCons (sTup (sCons (sC (.int 0)) (sCons (sC (.int 0)) sNil))) sNil)))] (RS C tp' m l r s5 (.v (.int (doorL up))) (.v (.int (numL m l up))) (.v (.int (nextL l up)))) = .ok (.bl true) (RS C tp' m l r s5 (.v (.int (doorL up))) (.v (.int (numL m l up))) (.v (.int (nextL l up)))) := by
      simp [RS, a0, k0]
    have z1 : sCall (F_are_moves C) [.e (sVar 2), .e (sBin addF (sVar 4) (sTup (sCons (sTup (sCons (sC (.int 0)) (sCons (sC (.int 1)) sNil))) sNil)))] (RS C tp' m l r s5 (.v (.int (doorL up))) (.v (.int (numL m l up))) (.v (.int (nextL l up)))) = .ok (.bl false) (RS C tp' m l r s5 (.v (.int (doorL up))) (.v (.int (numL m l up))) (.v (.int (nextL l up)))) := by
      simp [RS, a1, k1]
    unfold rowB
    rw [q_seq, b1, SR.then_nx, q_seq, b2, SR.then_nx, q_seq, b3, SR.then_nx, q_seq, q_ifS, gt, decide_eq_true hb, Res.st_ok, if_pos rfl, q_ret, q_andV, q_bin, z1, Res.bind_ok, q_C, Res.bind_ok, q_lift2, isT]
    simp only [q_toBok, Res.bind_ok, Bool.false_eq_true, if_false, decide_true, if_true]
    rw [q_bin, z0, Res.bind_ok, q_C, Res.bind_ok, q_lift2, isT]
    rfl
  · have h3 : -(m : Int) ≤ nextL l up := by split at hb <;> omega
    have h4 : nextL l up ≤ (m : Int) := by split at hb <;> omega
    have g1 := g.snoc up h1 h2 h3 h4
    refine .inl ⟨tp', nextL l up, numL m l up, .v (.int (doorL up)), .v (.int (numL m l up)), .v (.int (nextL l up)), ht', g1, h3, h4, Nn.v _, Nn.v _, Nn.v _, ?_⟩
    have k0 := r_moves_ok C m hm g1 (by rw [List.length_append, List.length_singleton]; omega)
    have b5 : sIfS (sOr (sT (sBin (eqD false) (sVar 3) (sUn negF (sVar 1)))) (sT (sBin (eqD false) (sVar 3) (sVar 1)))) (sAsg (sC (.int 0)) (gPut 7)) sNext (RS C tp' m l r s5 (.v (.int (doorL up))) (.v (.int (numL m l up))) (.v (.int (nextL l up)))) = .nx (RS C tp' m l r s5 (.v (.int (doorL up))) (.v (.int (numL m l up))) (.v (.int (nextL l up)))) := by
      by_cases e1 : l = -(m : Int)
      · have hz : numL m l up = 0 := by
          cases up with
          | true => rfl
          | false => unfold nextL at h3; simp at h3; omega
        rw [hz]
        simp [RS, eqD_int, e1]
      · by_cases e2 : l = (m : Int)
        · have hz : numL m l up = 0 := by
            cases up with
            | true => rfl
            | false => unfold numL; rw [if_neg (by decide), if_neg (by omega)]
          rw [hz]
          have e3 : ¬ (m : Int) = -(m : Int) := by omega
          simp [RS, eqD_int, e2, e3]
        · simp [RS, eqD_int, e1, e2]
    have b6 : sAsg (sBin addF (sVar 4) (sTup (sCons (sTup (sCons (sC (.int 0)) (sCons (sVar 7) sNil))) sNil))) (gPut 4) (RS C tp' m l r s5 (.v (.int (doorL up))) (.v (.int (numL m l up))) (.v (.int (nextL l up)))) = .nx (RS C tp' m l (r ++ [numL m l up]) s5 (.v (.int (doorL up))) (.v (.int (numL m l up))) (.v (.int (nextL l up)))) := by
      have e : sBin addF (sVar 4) (sTup (sCons (sTup (sCons (sC (.int 0)) (sCons (sVar 7) sNil))) sNil)) (RS C tp' m l r s5 (.v (.int (doorL up))) (.v (.int (numL m l up))) (.v (.int (nextL l up)))) = .ok (.tup ((r ++ [numL m l up]).map mvD)) (RS C tp' m l r s5 (.v (.int (doorL up))) (.v (.int (numL m l up))) (.v (.int (nextL l up)))) := by
        have a0 : addF (.tup (r.map mvD)) (.tup [.tup [.int 0, .int (numL m l up)]]) = some (.tup (r.map mvD ++ [.tup [.int 0, .int (numL m l up)]])) := q_addT rl
        rw [List.map_append, List.map_singleton, show mvD (numL m l up) = .tup [.int 0, .int (numL m l up)] from rfl]
        simp [RS, a0]
      rw [asg_N e rfl (Nn.v _)]
      rfl
    have b7 : sAsg (sVar 8) (gPut 3) (RS C tp' m l (r ++ [numL m l up]) s5 (.v (.int (doorL up))) (.v (.int (numL m l up))) (.v (.int (nextL l up)))) = .nx (RS C tp' m (nextL l up) (r ++ [numL m l up]) s5 (.v (.int (doorL up))) (.v (.int (numL m l up))) (.v (.int (nextL l up)))) := rfl
    have b8 : sIfS (sT (sBin (isF2 true) (sCall (F_are_moves C) [.e (sVar 2), .e (sVar 4)]) (sC (.bl true)))) (sRet (sC (.bl false))) sNext (RS C tp' m (nextL l up) (r ++ [numL m l up]) s5 (.v (.int (doorL up))) (.v (.int (numL m l up))) (.v (.int (nextL l up)))) = .nx (RS C tp' m (nextL l up) (r ++ [numL m l up]) s5 (.v (.int (doorL up))) (.v (.int (numL m l up))) (.v (.int (nextL l up)))) := by
      have z0 : sCall (F_are_moves C) [.e (sVar 2), .e (sVar 4)] (RS C tp' m (nextL l up) (r ++ [numL m l up]) s5 (.v (.int (doorL up))) (.v (.int (numL m l up))) (.v (.int (nextL l up)))) = .ok (.bl true) (RS C tp' m (nextL l up) (r ++ [numL m l up]) s5 (.v (.int (doorL up))) (.v (.int (numL m l up))) (.v (.int (nextL l up)))) := by
        generalize r ++ [numL m l up] = r' at k0
        simp [RS, k0]
      rw [q_ifS, q_T, q_bin, z0, Res.bind_ok, q_C, Res.bind_ok, q_lift2, isT]
      rfl
    unfold rowB
    rw [q_seq, b1, SR.then_nx, q_seq, b2, SR.then_nx, q_seq, b3, SR.then_nx, q_seq, q_ifS, gt, decide_eq_false hb, Res.st_ok, if_neg Bool.false_ne_true, q_next, SR.then_nx, q_seq, b5, SR.then_nx, q_seq, b6, SR.then_nx, q_seq, b7, SR.then_nx, b8]
end Sh

namespace Sh
open PySem PySem.Spec PyProof.Rows L2
theorem Tape.le {cs : List Int} {c c' : Nat} {m : Mu} (h : Tape cs c m) (k : c ≤ c') : Tape cs c' m := by
  obtain ⟨p, r, x, q, e, t1, t2, t3, t4, t5⟩ := h
  exact ⟨p, r, x, q, e, t1, t2, t3, t4, by omega⟩
theorem r_row (C : Addr) (m : Nat) (hm : m = 1 ∨ m = 2 ∨ m = 3) (cs : List Int) (tp : Mu) (c : Nat) (ht : Tape cs c tp) (hc : c ≤ 800000) : ∃ tp' : Mu, Tape cs (c + 20) tp' ∧ F__law_row_right C [.o true tp, .v (.int (m : Int))] = .ok (.bl true) [.o true tp', .v (.int (m : Int))] := by
  obtain ⟨ρc, ec⟩ := Td_check m hm
  have rn := r_never (-2) (-1) m hm (by decide) (by decide) (by decide)
  rw [never_T m hm] at rn
  have w1 : sAsg (sMake2 C "cups" "dealers" F__check (sCons (sC (.int 2)) (sCons (sTup (sCons (sCall (F_never_ahead) [.e (sUn negF (sC (.int 2))), .e (sUn negF (sC (.int 1))), .e (sVar 1)]) sNil)) sNil))) (gPut 2) [.o true tp, .v (.int (m : Int)), .un, .un, .un, .un, .un, .un, .un] = .nx [.o true tp, .v (.int (m : Int)), .v (webT C m), .un, .un, .un, .un, .un, .un] := by
    have a0 : (sCons (sC (.int 2)) (sCons (sTup (sCons (sCall (F_never_ahead) [.e (sUn negF (sC (.int 2))), .e (sUn negF (sC (.int 1))), .e (sVar 1)]) sNil)) sNil)) [.o true tp, .v (.int (m : Int)), .un, .un, .un, .un, .un, .un, .un] = .ok [.int 2, .tup [.tup (Td m)]] [.o true tp, .v (.int (m : Int)), .un, .un, .un, .un, .un, .un, .un] := by
      simp [rn]
    have a1 : sMake2 C "cups" "dealers" F__check (sCons (sC (.int 2)) (sCons (sTup (sCons (sCall (F_never_ahead) [.e (sUn negF (sC (.int 2))), .e (sUn negF (sC (.int 1))), .e (sVar 1)]) sNil)) sNil)) [.o true tp, .v (.int (m : Int)), .un, .un, .un, .un, .un, .un, .un] = .ok (webT C m) [.o true tp, .v (.int (m : Int)), .un, .un, .un, .un, .un, .un, .un] := by
      unfold sMake2
      rw [a0, Res.bind_ok]
      dsimp only
      rw [ec]
      rfl
    rw [asg_N a1 rfl Nn.un]
    rfl
  have w2 : sAsg (sC (.int 0)) (gPut 3) [.o true tp, .v (.int (m : Int)), .v (webT C m), .un, .un, .un, .un, .un, .un] = .nx [.o true tp, .v (.int (m : Int)), .v (webT C m), .v (.int 0), .un, .un, .un, .un, .un] := rfl
  have w3 : sAsg (sTup sNil) (gPut 4) [.o true tp, .v (.int (m : Int)), .v (webT C m), .v (.int 0), .un, .un, .un, .un, .un] = .nx (RS C tp m 0 [] .un .un .un .un) := rfl
  have m0 : (1 : Int) ≤ (m : Int) := by omega
  have loop := loop_ret (t := gPut 5) (b := rowB C)
    (fun k ρ => ∃ (tp : Mu) (l : Int) (r : List Int) (s5 s6 s7 s8 : Sl), Tape cs (c + k) tp ∧ Good m 0 r l ∧ r.length = k ∧ -(m : Int) ≤ l ∧ l ≤ (m : Int) ∧ Nn s5 ∧ Nn s6 ∧ Nn s7 ∧ Nn s8 ∧ ρ = RS C tp m l r s5 s6 s7 s8)
    (fun d ρ => d = .bl true ∧ ∃ (tp : Mu) (l : Int) (r : List Int) (s5 s6 s7 s8 : Sl), Tape cs (c + 20) tp ∧ ρ = RS C tp m l r s5 s6 s7 s8) (rangeD 0 12) 0 (RS C tp m 0 [] .un .un .un .un)
    ⟨tp, 0, [], .un, .un, .un, .un, ht, .nil 0, rfl, by omega, by omega, Nn.un, Nn.un, Nn.un, Nn.un, rfl⟩ fun i d ρ hd ⟨tp, l, r, s5, s6, s7, s8, ht, g, hr, h1, h2, c5, c6, c7, c8, e⟩ => by
      obtain ⟨hi, rfl⟩ := rangeD_at hd
      subst e
      rw [Nat.zero_add] at ht hr ⊢
      refine ⟨RS C tp m l r (.v (.int (i : Int))) s6 s7 s8, by rw [put_N (s := s5) rfl c5]; rfl, ?_⟩
      rcases row_turn C m hm cs tp (c + i) ht (by omega) l r g (by omega) h1 h2 (.v (.int (i : Int))) s6 s7 s8 c6 c7 c8 with ⟨tp', l', n, q6, q7, q8, t', g', k1, k2, n6, n7, n8, e⟩ | ⟨tp', q6, q7, q8, t', e⟩
      · exact .inl ⟨_, e, tp', l', r ++ [n], _, q6, q7, q8, t', g', by rw [List.length_append, List.length_singleton, hr], k1, k2, Nn.v _, n6, n7, n8, rfl⟩
      · exact .inr ⟨_, _, e, rfl, tp', l, r, _, q6, q7, q8, t'.le (by omega), rfl⟩
  have eB : B__law_row_right C = sSeq (sAsg (sMake2 C "cups" "dealers" F__check (sCons (sC (.int 2)) (sCons (sTup (sCons (sCall (F_never_ahead) [.e (sUn negF (sC (.int 2))), .e (sUn negF (sC (.int 1))), .e (sVar 1)]) sNil)) sNil))) (gPut 2))
    (sSeq (sAsg (sC (.int 0)) (gPut 3)) (sSeq (sAsg (sTup sNil) (gPut 4)) (sSeq (sFor (sRng1 (sCons (sC (.int 12)) sNil)) (gPut 5) (rowB C)) (sRet (sC (.bl true)))))) := rfl
  have rg := q_rngN (fs := sCons (sC (.int 12)) sNil) (n := 12) (ρ := RS C tp m 0 [] .un .un .un .un) (ρ1 := RS C tp m 0 [] .un .un .un .un) rfl (by decide)
  have fin : ∃ (tp' : Mu) (l : Int) (r : List Int) (s5 s6 s7 s8 : Sl), Tape cs (c + 20) tp' ∧ B__law_row_right C [.o true tp, .v (.int (m : Int)), .un, .un, .un, .un, .un, .un, .un] = .rt (.bl true) (RS C tp' m l r s5 s6 s7 s8) := by
    rcases loop with ⟨ρ', e, tp', l, r, s5, s6, s7, s8, t', _, _, _, _, _, _, _, _, rfl⟩ | ⟨d, ρ', e, rfl, tp', l, r, s5, s6, s7, s8, t', rfl⟩
    · refine ⟨tp', l, r, s5, s6, s7, s8, t'.le (by simp [rangeD]), ?_⟩
      rw [eB, q_seq, w1, SR.then_nx, q_seq, w2, SR.then_nx, q_seq, w3, SR.then_nx, q_seq, q_for, rg, Res.st_ok, e, SR.then_nx]
      rfl
    · refine ⟨tp', l, r, s5, s6, s7, s8, t', ?_⟩
      rw [eB, q_seq, w1, SR.then_nx, q_seq, w2, SR.then_nx, q_seq, w3, SR.then_nx, q_seq, q_for, rg, Res.st_ok, e, SR.then_rt]
  obtain ⟨tp', l, r, s5, s6, s7, s8, t', e⟩ := fin
  exact ⟨tp', t', (runFn_rt e).trans (by simp [RS])⟩
/-! freely -/
theorem cut1D (xs : List D) : cutD xs (some 1) none = xs.drop 1 := by
  unfold cutD
  rw [show HT.sIx xs.length 0 (some 1) = min 1 xs.length from HT.sIx_nat xs.length 0 1, HT.sIx_none]
  cases xs with
  | nil => rfl
  | cons x r =>
    rw [show min 1 (x :: r).length = 1 by rw [List.length_cons]; omega]
    exact List.take_of_length_le (by rw [List.length_drop]; omega)
theorem zip_asc : ∀ (ds : List Int), ds.Pairwise (· < ·) → ∀ d ∈ zipD (ds.map D.int) ((ds.map D.int).drop 1), ∃ a b : Int, d = .tup [.int a, .int b] ∧ a < b
  | [], _, d, h => by simp [zipD] at h
  | [x], _, d, h => by simp [zipD] at h
  | x :: y :: ds, o, d, h => by
    have o2 := List.pairwise_cons.mp o
    unfold zipD at h
    rw [List.map_cons, List.map_cons, List.drop_succ_cons, List.drop_zero, List.zipWith_cons_cons] at h
    rcases List.mem_cons.mp h with rfl | h
    · exact ⟨x, y, rfl, o2.1 y (List.mem_cons_self ..)⟩
    · exact zip_asc (y :: ds) o2.2 d (by unfold zipD; rw [List.map_cons, List.drop_succ_cons, List.drop_zero]; exact h)
theorem r_asc (ds : List Int) (o : ds.Pairwise (· < ·)) (hl : ds.length ≤ 100) : F_is_ascending [.v (.tup (ds.map .int))] = .ok (.bl true) [.v (.tup (ds.map .int))] := by
  unfold F_is_ascending runFn
  have e : sLc [1, 2] (sZip (sCons (sVar 0) (sCons (sCut (sVar 0) (sPart (sC (.int 1))) sNoP) sNil))) (gTupS 2 (gsCons (gPut 1) (gsCons (gPut 2) gsNil))) sYes (sBin ltF2 (sVar 1) (sVar 2)) [.v (.tup (ds.map .int)), .un, .un] = .ok ((zipD (ds.map D.int) ((ds.map D.int).drop 1)).map fun d => .bl ((fun _ => true) d)) [.v (.tup (ds.map .int)), .un, .un] := by
    refine sLc_map _ ?_ (by simp [noOwn]) ?_ fun d hd => ?_
    · simp [cut1D]
    · unfold zipD
      rw [List.length_zipWith, List.length_map]
      omega
    · obtain ⟨a, b, rfl, h⟩ := zip_asc ds o d hd
      exact ⟨[.v (.tup (ds.map .int)), .v (.int a), .v (.int b)], [.v (.tup (ds.map .int)), .v (.int a), .v (.int b)], by simp [blank], by simp [h], by simp [blank]⟩
  have ea := allF_true (ds := zipD (ds.map D.int) ((ds.map D.int).drop 1)) (p := fun _ => true) (fun _ _ => rfl)
  unfold B_is_ascending
  rw [show [Sl.v (.tup (ds.map D.int))] ++ List.replicate 2 Sl.un = [.v (.tup (ds.map .int)), .un, .un] from rfl, q_ret, q_fnL, e, Res.bind_ok, ea]
  rfl
def freeD (ds : List Int) : D := .tup [.tup ((ds.map D.int).map fun d => .tup [d, .int 0])]
theorem r_freely (ds : List Int) (o : ds.Pairwise (· < ·)) (h1 : 1 ≤ ds.length) (h2 : ds.length ≤ 6) (h : ∀ d ∈ ds, -6 ≤ d ∧ d ≤ 7) : F_freely [.v (.tup (ds.map .int))] = .ok (freeD ds) [.v (.tup (ds.map .int))] := by
  refine (runFn_rt (d := freeD ds) (ρ' := [.v (.tup (ds.map .int)), .un]) ?_).trans (by simp)
  have rd := r_are_doors ds 6 h1 (by omega) h (by omega)
  have ra := r_asc ds o (by omega)
  generalize hR : ds.map D.int = R at *
  have lR : R.length ≤ 6 := by rw [← hR, List.length_map]; exact h2
  have lc : sLc [1] (sIter (sVar 0)) (gPut 1) sYes (sTup (sCons (sVar 1) (sCons (sC (.int 0)) sNil))) [.v (.tup R), .un] = .ok (R.map fun d => .tup [d, .int 0]) [.v (.tup R), .un] := by
    refine sLc_map _ rfl (by simp [noOwn]) (by omega) fun d hd => ?_
    exact ⟨[.v (.tup R), .v d], [.v (.tup R), .v d], by simp [blank], by simp, by simp [blank]⟩
  have b1 : sIfS (sNot (sAnd (sT (sCall (F__are_doors) [.e (sVar 0), .e (sC (.int 6))])) (sT (sCall (F_is_ascending) [.e (sVar 0)])))) sNever sNext [.v (.tup R), .un] = .nx [.v (.tup R), .un] := by
    simp [rd, ra]
  unfold B_freely
  rw [show [Sl.v (.tup R)] ++ List.replicate 1 Sl.un = [.v (.tup R), .un] from rfl, q_seq, b1, SR.then_nx, q_ret, q_tup, q_cons, q_fnL, lc]
  simp [freeD, hR]
theorem py_free (ds : List Int) : ∃ p, toPy (freeD ds) = some p ∧ SeqAt.shaped p = true := by
  have key : ∀ ds : List Int, ∃ ps, toPyL ((ds.map D.int).map fun d => D.tup [d, .int 0]) = some ps ∧ PyData.canLayAll0 ps = true ∧ PyData.depthAll ps ≤ 5 := by
    intro ds
    induction ds with
    | nil => exact ⟨[], rfl, rfl, by decide⟩
    | cons d ds ih =>
      obtain ⟨ps, h1, h2, h3⟩ := ih
      refine ⟨.tuple [.int d, .int 0] :: ps, ?_, ?_, ?_⟩
      · rw [List.map_cons, List.map_cons]
        simp only [toPyL, toPy, h1]
        rfl
      · simp [PyData.canLayAll0, PyData.canLay0, h2]
      · simp [PyData.depthAll, PyData.depth]
        omega
  obtain ⟨ps, h1, h2, h3⟩ := key ds
  refine ⟨.tuple [.tuple ps], ?_, ?_⟩
  · unfold freeD
    simp only [toPy, toPyL, h1]
    rfl
  · unfold SeqAt.shaped
    rw [Bool.and_eq_true]
    exact ⟨by simp [PyData.canLay0, PyData.canLayAll0, h2], by simp [PyData.depth, PyData.depthAll]; omega⟩
theorem py_never (a b : Int) (m : Nat) : ∃ p, toPy (.tup (neverD a b m)) = some p ∧ SeqAt.shaped p = true := by
  have k1 : ∀ ps : List (Int × Int), ∃ qs, toPyL (ps.map pairD) = some qs ∧ PyData.canLayAll0 qs = true ∧ PyData.depthAll qs ≤ 5 := by
    intro ps
    induction ps with
    | nil => exact ⟨[], rfl, rfl, by decide⟩
    | cons d ds ih =>
      obtain ⟨ps, h1, h2, h3⟩ := ih
      refine ⟨.tuple [.int d.1, .int d.2] :: ps, ?_, ?_, ?_⟩
      · rw [List.map_cons]
        unfold pairD
        simp only [toPyL, toPy]
        rw [show (fun p : Int × Int => D.tup [.int p.1, .int p.2]) = pairD from rfl, h1]
        rfl
      · simp [PyData.canLayAll0, PyData.canLay0, h2]
      · simp [PyData.depthAll, PyData.depth]
        omega
  have k2 : ∀ ls : List Int, ∃ qs, toPyL (ls.map fun l => D.tup ((sortP (partsL a b m l)).map pairD)) = some qs ∧ PyData.canLayAll0 qs = true ∧ PyData.depthAll qs ≤ 8 := by
    intro ls
    induction ls with
    | nil => exact ⟨[], rfl, rfl, by decide⟩
    | cons l ls ih =>
      obtain ⟨ps, h1, h2, h3⟩ := ih
      obtain ⟨qs, g1, g2, g3⟩ := k1 (sortP (partsL a b m l))
      refine ⟨.tuple qs :: ps, ?_, ?_, ?_⟩
      · rw [List.map_cons]
        simp only [toPyL, toPy, g1, h1]
        rfl
      · simp [PyData.canLayAll0, PyData.canLay0, h2, g2]
      · simp [PyData.depthAll, PyData.depth]
        omega
  obtain ⟨ps, h1, h2, h3⟩ := k2 (leadsL m)
  refine ⟨.tuple ps, ?_, ?_⟩
  · unfold neverD
    simp only [toPy, h1]
    rfl
  · unfold SeqAt.shaped
    rw [Bool.and_eq_true]
    exact ⟨by simp [PyData.canLay0, h2], by simp [PyData.depth]; omega⟩
end Sh

namespace Sh
open PySem PySem.Spec PyProof.Rows L2
/-- the law's slots: script, tape, turn, doors, door, one, other, most -/
def LS (S : D) (tp : Mu) (s2 s3 s4 s5 s6 s7 : Sl) : List Sl := [.v S, .o false tp, s2, s3, s4, s5, s6, s7]
variable {S : D} {s2 s3 s4 s5 s6 s7 : Sl} {cs : List Int} {C : Addr}
theorem q_rng2 {fs : SemE (List D)} {ρ ρ1 : List Sl} {a b : Int} (e : fs ρ = .ok [.int a, .int b] ρ1) (h1 : -1000 ≤ a ∧ a ≤ 1000) (h2 : -1000 ≤ b ∧ b ≤ 1000) : sRng2 fs ρ = .ok (rangeD a (b - a).toNat) ρ1 := by
  have k1 : -(2 ^ 62) ≤ (-1000 : Int) := by decide +kernel
  have k2 : (1000 : Int) < 2 ^ 62 := by decide +kernel
  show (fs ρ).bind _ = _
  rw [e, Res.bind_ok]
  show (if _ then _ else _) = _
  rw [if_pos ⟨Int.le_trans k1 h1.1, Int.lt_of_le_of_lt h1.2 k2, Int.le_trans k1 h2.1, Int.lt_of_le_of_lt h2.2 k2⟩]
/-- the doors that are drawn -/
structure Drs (ds : List Int) (k : Nat) : Prop where
  asc : ds.Pairwise (· < ·)
  bd : ∀ d ∈ ds, -6 ≤ d ∧ d < -6 + (k : Int)
  len : ds.length ≤ 6
  ne : k = 14 → ds ≠ []
theorem Drs.same {ds : List Int} {k : Nat} (h : Drs ds k) (n : k + 1 = 14 → ds ≠ []) : Drs ds (k + 1) := ⟨h.asc, fun d hd => ⟨(h.bd d hd).1, by have := (h.bd d hd).2; omega⟩, h.len, n⟩
theorem Drs.more {ds : List Int} {k : Nat} (h : Drs ds k) (l : ds.length < 6) : Drs (ds ++ [-6 + (k : Int)]) (k + 1) := by
  refine ⟨?_, fun d hd => ?_, by rw [List.length_append, List.length_singleton]; omega, fun _ z => by simp at z⟩
  · rw [List.pairwise_append]
    refine ⟨h.asc, List.pairwise_singleton _ _, fun a ha b hb => ?_⟩
    rw [List.mem_singleton.mp hb]
    exact (h.bd a ha).2
  · rcases List.mem_append.mp hd with hd | hd
    · have := h.bd d hd
      omega
    · rw [List.mem_singleton.mp hd]
      omega
noncomputable def drawB : SemS := sIfS (sAnd (sT (sBin ltF2 (sFnL lenF (sOwn 3)) (sC (.int 6)))) (sOr (sT (sBin (eqD false) (sCall (F__law_pick) [.o 1, .e (sC (.int 3))]) (sC (.int 0)))) (sAnd (sT (sBin (eqD false) (sVar 4) (sC (.int 7)))) (sT (sBin (eqD false) (sFnL lenF (sOwn 3)) (sC (.int 0))))))) (sApp 3 (sVar 4)) sNext
theorem draw_turn (tp : Mu) (c k : Nat) (ht : Tape cs (c + k) tp) (hc : c ≤ 700000) (hk : k < 14) (ds : List Int) (h : Drs ds k) : ∃ (tp' : Mu) (ds' : List Int), Tape cs (c + k + 1) tp' ∧ Drs ds' (k + 1) ∧
    drawB (LS S tp s2 (.o false (.l (ds.map .int))) (.v (.int (-6 + (k : Int)))) s5 s6 s7) = .nx (LS S tp' s2 (.o false (.l (ds'.map .int))) (.v (.int (-6 + (k : Int)))) s5 s6 s7) := by
  by_cases hl : ds.length < 6
  · have hl' : (ds.length : Int) < 6 := by omega
    obtain ⟨d, tp', d0, d1, ht', ep⟩ := r_pick cs (c + k) tp 3 ht (by decide) (by decide) (by omega)
    have ap : sApp 3 (sVar 4) (LS S tp' s2 (.o false (.l (ds.map .int))) (.v (.int (-6 + (k : Int)))) s5 s6 s7) = .nx (LS S tp' s2 (.o false (.l ((ds ++ [-6 + (k : Int)]).map .int))) (.v (.int (-6 + (k : Int)))) s5 s6 s7) := by
      have hb : ds.length < 10000000 := by omega
      unfold sApp
      simp [LS, hb]
    have cond : (sAnd (sT (sBin ltF2 (sFnL lenF (sOwn 3)) (sC (.int 6)))) (sOr (sT (sBin (eqD false) (sCall (F__law_pick) [.o 1, .e (sC (.int 3))]) (sC (.int 0)))) (sAnd (sT (sBin (eqD false) (sVar 4) (sC (.int 7)))) (sT (sBin (eqD false) (sFnL lenF (sOwn 3)) (sC (.int 0))))))) (LS S tp s2 (.o false (.l (ds.map .int))) (.v (.int (-6 + (k : Int)))) s5 s6 s7) =
        .ok (decide (d = 0) || (decide (-6 + (k : Int) = 7) && decide ((ds.length : Int) = 0))) (LS S tp' s2 (.o false (.l (ds.map .int))) (.v (.int (-6 + (k : Int)))) s5 s6 s7) := by
      by_cases e0 : d = 0
      · subst e0
        simp [LS, hl', ep, eqD_int]
      · by_cases e7 : -6 + (k : Int) = 7
        · simp [LS, hl', ep, eqD_int, e0, e7]
        · simp [LS, hl', ep, eqD_int, e0, e7]
    by_cases q : (decide (d = 0) || (decide (-6 + (k : Int) = 7) && decide ((ds.length : Int) = 0))) = true
    · refine ⟨tp', ds ++ [-6 + (k : Int)], ht', h.more hl, ?_⟩
      unfold drawB
      rw [q_ifS, cond, Res.st_ok, if_pos q, ap]
    · refine ⟨tp', ds, ht', h.same fun e z => ?_, ?_⟩
      · apply q
        subst z
        have e7 : -6 + (k : Int) = 7 := by omega
        simp [e7]
      · unfold drawB
        rw [q_ifS, cond, Res.st_ok, if_neg q, q_next]
  · have hl' : ¬ (ds.length : Int) < 6 := by omega
    refine ⟨tp, ds, ht.le (by omega), h.same fun _ z => hl (by rw [z]; decide), ?_⟩
    unfold drawB
    simp [LS, hl']
theorem rangeG_at {a : Int} {d : D} {n i : Nat} (h : (rangeD a n)[i]? = some d) : i < n ∧ d = .int (a + (i : Int)) := by
  unfold rangeD at h
  rw [List.getElem?_map] at h
  cases q : (List.range n)[i]? with
  | none => rw [q] at h; cases h
  | some j =>
    rw [q] at h
    cases h
    have hi := (List.getElem?_eq_some_iff.mp q).1
    rw [List.length_range] at hi
    rw [List.getElem?_range hi] at q
    cases q
    exact ⟨hi, rfl⟩
theorem step_draw (tp : Mu) (c : Nat) (ht : Tape cs c tp) (hc : c ≤ 700000) (n4 : Nn s4) : ∃ (tp' : Mu) (ds : List Int) (q4 : Sl), Tape cs (c + 14) tp' ∧ Drs ds 14 ∧ Nn q4 ∧
    sFor (sRng2 (sCons (sUn negF (sC (.int 6))) (sCons (sC (.int 8)) sNil))) (gPut 4) drawB (LS S tp s2 (.o false (.l [])) s4 s5 s6 s7) = .nx (LS S tp' s2 (.o false (.l (ds.map .int))) q4 s5 s6 s7) := by
  have loop := loop_inv (t := gPut 4) (b := drawB) (fun k ρ => ∃ (tp : Mu) (ds : List Int) (q4 : Sl), k ≤ 14 ∧ Tape cs (c + k) tp ∧ Drs ds k ∧ Nn q4 ∧ ρ = LS S tp s2 (.o false (.l (ds.map .int))) q4 s5 s6 s7) (rangeD (-6) 14) 0 (LS S tp s2 (.o false (.l [])) s4 s5 s6 s7)
    ⟨tp, [], s4, by decide, ht, ⟨.nil, fun d hd => absurd hd (by simp), by decide, fun z => absurd z (by decide)⟩, n4, rfl⟩ fun i d ρ hd ⟨tp, ds, q4, _, ht, h, n4, e⟩ => by
      obtain ⟨hi, rfl⟩ := rangeG_at hd
      subst e
      rw [Nat.zero_add] at ht h ⊢
      obtain ⟨tp', ds', t', h', e⟩ := draw_turn (S := S) (s2 := s2) (s5 := s5) (s6 := s6) (s7 := s7) tp c i ht hc hi ds h
      refine ⟨LS S tp s2 (.o false (.l (ds.map .int))) (.v (.int (-6 + (i : Int)))) s5 s6 s7, _, by rw [put_N (s := q4) rfl n4]; rfl, e, tp', ds', _, by omega, t', h', Nn.v _, rfl⟩
  obtain ⟨ρ', e, tp', ds, q4, _, t', h, n4', rfl⟩ := loop
  rw [show 0 + (rangeD (-6) 14).length = 14 by simp [rangeD]] at t' h
  refine ⟨tp', ds, q4, t', h, n4', ?_⟩
  rw [q_for, q_rng2 (fs := sCons (sUn negF (sC (.int 6))) (sCons (sC (.int 8)) sNil)) (a := -6) (b := 8) (ρ := LS S tp s2 (.o false (.l [])) s4 s5 s6 s7) (ρ1 := LS S tp s2 (.o false (.l [])) s4 s5 s6 s7) rfl (by decide) (by decide), Res.st_ok, show ((8 : Int) - -6).toNat = 14 from rfl, e]
theorem step_free (tp : Mu) (ds : List Int) (h : Drs ds 14) (n4 : Nn s4) :
    sIfS (sT (sBin (eqD true) (sCall (F_freely) [.e (sFnL tupF (sOwn 3))]) (sTup (sCons (sFnL tupF (sLc [4] (sIter (sFz 3)) (gPut 4) sYes (sTup (sCons (sVar 4) (sCons (sC (.int 0)) sNil))))) sNil)))) (sRet (sC (.bl false))) sNext (LS S tp s2 (.o false (.l (ds.map .int))) s4 s5 s6 s7) = .nx (LS S tp s2 (.v (.lst (ds.map .int))) s4 s5 s6 s7) := by
  have h1 : 1 ≤ ds.length := by
    have := h.ne rfl
    cases ds with
    | nil => exact absurd rfl this
    | cons => simp
  have rf := r_freely ds h.asc h1 h.len fun d hd => ⟨(h.bd d hd).1, by have := (h.bd d hd).2; omega⟩
  have a1 : sCall (F_freely) [.e (sFnL tupF (sOwn 3))] (LS S tp s2 (.o false (.l (ds.map .int))) s4 s5 s6 s7) = .ok (freeD ds) (LS S tp s2 (.o false (.l (ds.map .int))) s4 s5 s6 s7) := by
    simp [LS, rf]
  have lc : sLc [4] (sIter (sFz 3)) (gPut 4) sYes (sTup (sCons (sVar 4) (sCons (sC (.int 0)) sNil))) (LS S tp s2 (.o false (.l (ds.map .int))) s4 s5 s6 s7) = .ok ((ds.map D.int).map fun d => .tup [d, .int 0]) (LS S tp s2 (.v (.lst (ds.map .int))) s4 s5 s6 s7) := by
    have e2 : blank [4] (LS S tp s2 (.v (.lst (ds.map .int))) s4 s5 s6 s7) = LS S tp s2 (.v (.lst (ds.map .int))) .un s5 s6 s7 := by simp [LS, blank]
    refine sLc_map _ rfl ?_ (by rw [List.length_map]; have := h.len; omega) fun d hd => ?_
    · rcases n4 with rfl | ⟨x, rfl⟩ <;> simp [noOwn, LS]
    · exact ⟨LS S tp s2 (.v (.lst (ds.map .int))) (.v d) s5 s6 s7, LS S tp s2 (.v (.lst (ds.map .int))) (.v d) s5 s6 s7, by rw [e2]; rfl, by simp [LS], by rw [e2]; simp [LS, blank]⟩
  have a2 : sTup (sCons (sFnL tupF (sLc [4] (sIter (sFz 3)) (gPut 4) sYes (sTup (sCons (sVar 4) (sCons (sC (.int 0)) sNil))))) sNil) (LS S tp s2 (.o false (.l (ds.map .int))) s4 s5 s6 s7) = .ok (freeD ds) (LS S tp s2 (.v (.lst (ds.map .int))) s4 s5 s6 s7) := by
    rw [q_tup, q_cons, q_fnL, lc]
    rfl
  obtain ⟨p, e1, e2⟩ := py_free ds
  rw [q_ifS, q_T, q_bin, a1, Res.bind_ok, a2, Res.bind_ok, q_lift2, eqD_self true e1 e2]
  rfl
theorem step_pick (j : Nat) (hj : j = 5 ∨ j = 6) (tp : Mu) (c : Nat) (ht : Tape cs c tp) (hc : c ≤ 700000) (n5 : Nn s5) (n6 : Nn s6) : ∃ (tp' : Mu) (a : Int), -6 ≤ a ∧ a ≤ 7 ∧ Tape cs (c + 1) tp' ∧
    sAsg (sBin subF (sCall (F__law_pick) [.o 1, .e (sC (.int 14))]) (sC (.int 6))) (gPut j) (LS S tp s2 s3 s4 s5 s6 s7) = .nx ((LS S tp' s2 s3 s4 s5 s6 s7).set j (.v (.int a))) := by
  obtain ⟨d, tp', d0, d1, ht', ep⟩ := r_pick cs c tp 14 ht (by decide) (by decide) (by omega)
  refine ⟨tp', d - 6, by omega, by omega, ht', ?_⟩
  have e : sBin subF (sCall (F__law_pick) [.o 1, .e (sC (.int 14))]) (sC (.int 6)) (LS S tp s2 s3 s4 s5 s6 s7) = .ok (.int (d - 6)) (LS S tp' s2 s3 s4 s5 s6 s7) := by
    simp [LS, ep]
  rcases hj with rfl | rfl
  · exact asg_N e (s := s5) rfl n5
  · exact asg_N e (s := s6) rfl n6
theorem step_most (tp : Mu) (c : Nat) (ht : Tape cs c tp) (hc : c ≤ 700000) (n7 : Nn s7) : ∃ (tp' : Mu) (m : Nat), (m = 1 ∨ m = 2 ∨ m = 3) ∧ Tape cs (c + 1) tp' ∧
    sAsg (sBin addF (sC (.int 1)) (sCall (F__law_pick) [.o 1, .e (sC (.int 3))])) (gPut 7) (LS S tp s2 s3 s4 s5 s6 s7) = .nx (LS S tp' s2 s3 s4 s5 s6 (.v (.int (m : Int)))) := by
  obtain ⟨d, tp', d0, d1, ht', ep⟩ := r_pick cs c tp 3 ht (by decide) (by decide) (by omega)
  obtain ⟨n, rfl⟩ : ∃ n : Nat, d = (n : Int) := ⟨d.toNat, by omega⟩
  refine ⟨tp', n + 1, by omega, ht', ?_⟩
  have e : sBin addF (sC (.int 1)) (sCall (F__law_pick) [.o 1, .e (sC (.int 3))]) (LS S tp s2 s3 s4 s5 s6 s7) = .ok (.int ((n + 1 : Nat) : Int)) (LS S tp' s2 s3 s4 s5 s6 s7) := by
    simp [LS, ep]
    omega
  rw [asg_N e (s := s7) rfl n7]
  rfl
theorem step_bound (tp : Mu) (a b : Int) (m : Nat) (hm : m = 1 ∨ m = 2 ∨ m = 3) (ha : -6 ≤ a ∧ a ≤ 7) (hb : -6 ≤ b ∧ b ≤ 7) :
    sIfS (sAnd (sT (sBin (eqD true) (sVar 5) (sVar 6))) (sT (sBin (eqD true) (sCall (F_never_ahead) [.e (sVar 5), .e (sVar 6), .e (sVar 7)]) (sCall (F__law_due) [.e (sVar 5), .e (sVar 6), .e (sVar 7)])))) (sRet (sC (.bl false))) sNext (LS S tp s2 s3 s4 (.v (.int a)) (.v (.int b)) (.v (.int (m : Int)))) = .nx (LS S tp s2 s3 s4 (.v (.int a)) (.v (.int b)) (.v (.int (m : Int)))) := by
  by_cases e : a = b
  · simp [LS, eqD_int, e]
  · have r1 := r_never a b m hm ha hb e
    have r2 := r_due a b m hm
    obtain ⟨p, e1, e2⟩ := py_never a b m
    have e3 := eqD_self true e1 e2
    simp [LS, eqD_int, e, r1, r2, e3]
theorem step_row (tp : Mu) (c : Nat) (ht : Tape cs c tp) (hc : c ≤ 700000) (m : Nat) (hm : m = 1 ∨ m = 2 ∨ m = 3) : ∃ tp' : Mu, Tape cs (c + 20) tp' ∧
    sIfS (sNot (sT (sCall (F__law_row_right C) [.o 1, .e (sVar 7)]))) (sRet (sC (.bl false))) sNext (LS S tp s2 s3 s4 s5 s6 (.v (.int (m : Int)))) = .nx (LS S tp' s2 s3 s4 s5 s6 (.v (.int (m : Int)))) := by
  obtain ⟨tp', t', e⟩ := r_row C m hm cs tp c ht (by omega)
  exact ⟨tp', t', by simp [LS, e]⟩
noncomputable def lawTurn (C : Addr) : SemS := (sSeq (sNewL 3 (sLim sNil))
    (sSeq (sFor (sRng2 (sCons (sUn negF (sC (.int 6))) (sCons (sC (.int 8)) sNil))) (gPut 4) drawB)
    (sSeq (sIfS (sT (sBin (eqD true) (sCall (F_freely) [.e (sFnL tupF (sOwn 3))]) (sTup (sCons (sFnL tupF (sLc [4] (sIter (sFz 3)) (gPut 4) sYes (sTup (sCons (sVar 4) (sCons (sC (.int 0)) sNil))))) sNil)))) (sRet (sC (.bl false))) sNext)
    (sSeq (sAsg (sBin subF (sCall (F__law_pick) [.o 1, .e (sC (.int 14))]) (sC (.int 6))) (gPut 5))
    (sSeq (sAsg (sBin subF (sCall (F__law_pick) [.o 1, .e (sC (.int 14))]) (sC (.int 6))) (gPut 6))
    (sSeq (sAsg (sBin addF (sC (.int 1)) (sCall (F__law_pick) [.o 1, .e (sC (.int 3))])) (gPut 7))
    (sSeq (sIfS (sAnd (sT (sBin (eqD true) (sVar 5) (sVar 6))) (sT (sBin (eqD true) (sCall (F_never_ahead) [.e (sVar 5), .e (sVar 6), .e (sVar 7)]) (sCall (F__law_due) [.e (sVar 5), .e (sVar 6), .e (sVar 7)])))) (sRet (sC (.bl false))) sNext)
    (sIfS (sNot (sT (sCall (F__law_row_right C) [.o 1, .e (sVar 7)]))) (sRet (sC (.bl false))) sNext))))))))
theorem turn_ok (tp : Mu) (c : Nat) (ht : Tape cs c tp) (hc : c ≤ 600000) (n3 : Nn s3) (n4 : Nn s4) (n5 : Nn s5) (n6 : Nn s6) (n7 : Nn s7) : ∃ (tp' : Mu) (q3 q4 q5 q6 q7 : Sl), Tape cs (c + 40) tp' ∧ Nn q3 ∧ Nn q4 ∧ Nn q5 ∧ Nn q6 ∧ Nn q7 ∧
    lawTurn C (LS S tp s2 s3 s4 s5 s6 s7) = .nx (LS S tp' s2 q3 q4 q5 q6 q7) := by
  have b1 : sNewL 3 (sLim sNil) (LS S tp s2 s3 s4 s5 s6 s7) = .nx (LS S tp s2 (.o false (.l [])) s4 s5 s6 s7) := by
    rcases n3 with rfl | ⟨d, rfl⟩ <;> rfl
  obtain ⟨tp1, ds, q4, t1, h, k4, e2⟩ := step_draw (S := S) (s2 := s2) (s4 := s4) (s5 := s5) (s6 := s6) (s7 := s7) tp c ht (by omega) n4
  have e3 := step_free (S := S) (s2 := s2) (s4 := q4) (s5 := s5) (s6 := s6) (s7 := s7) tp1 ds h k4
  obtain ⟨tp2, a, a0, a1, t2, e4⟩ := step_pick (S := S) (s2 := s2) (s3 := .v (.lst (ds.map .int))) (s4 := q4) (s5 := s5) (s6 := s6) (s7 := s7) 5 (.inl rfl) tp1 (c + 14) t1 (by omega) n5 n6
  obtain ⟨tp3, b, b0, b2, t3, e5⟩ := step_pick (S := S) (s2 := s2) (s3 := .v (.lst (ds.map .int))) (s4 := q4) (s5 := .v (.int a)) (s6 := s6) (s7 := s7) 6 (.inr rfl) tp2 (c + 14 + 1) t2 (by omega) (Nn.v _) n6
  obtain ⟨tp4, m, hm, t4, e6⟩ := step_most (S := S) (s2 := s2) (s3 := .v (.lst (ds.map .int))) (s4 := q4) (s5 := .v (.int a)) (s6 := .v (.int b)) (s7 := s7) tp3 (c + 14 + 1 + 1) t3 (by omega) n7
  have e7 := step_bound (S := S) (s2 := s2) (s3 := .v (.lst (ds.map .int))) (s4 := q4) tp4 a b m hm ⟨a0, a1⟩ ⟨b0, b2⟩
  obtain ⟨tp5, t5, e8⟩ := step_row (S := S) (s2 := s2) (s3 := .v (.lst (ds.map .int))) (s4 := q4) (s5 := .v (.int a)) (s6 := .v (.int b)) (C := C) tp4 (c + 14 + 1 + 1 + 1) t4 (by omega) m hm
  refine ⟨tp5, _, _, _, _, _, t5.le (by omega), Nn.v (.lst (ds.map .int)), k4, Nn.v (.int a), Nn.v (.int b), Nn.v (.int (m : Int)), ?_⟩
  have e4 : _ = SR.nx (LS S tp2 s2 (.v (.lst (ds.map .int))) q4 (.v (.int a)) s6 s7) := e4
  have e5 : _ = SR.nx (LS S tp3 s2 (.v (.lst (ds.map .int))) q4 (.v (.int a)) (.v (.int b)) s7) := e5
  unfold lawTurn
  rw [q_seq, b1, SR.then_nx, q_seq, e2, SR.then_nx, q_seq, e3, SR.then_nx, q_seq, e4, SR.then_nx, q_seq, e5, SR.then_nx, q_seq, e6, SR.then_nx, q_seq, e7, SR.then_nx, e8]
theorem law_true (C : Addr) : ∀ ns : List Int, ns.length ≤ 63 → ∃ ρ, F_law C [.v (.scr (ns.map D.int))] = .ok (.bl true) ρ := by
  intro ns _
  have loop := loop_inv (t := gPut 2) (b := lawTurn C) (fun k ρ => ∃ (m : Mu) (r2 r3 r4 r5 r6 r7 : Sl), Tape ns (40 * k) m ∧ Nn r2 ∧ Nn r3 ∧ Nn r4 ∧ Nn r5 ∧ Nn r6 ∧ Nn r7 ∧ ρ = LS (.scr (ns.map D.int)) m r2 r3 r4 r5 r6 r7)
    (rangeD 0 4) 0 (LS (.scr (ns.map D.int)) (.l [.lst (ns.map D.int), .int 0, .int 0, .int 1, .int 0]) .un .un .un .un .un .un)
    ⟨_, _, _, _, _, _, _, ⟨0, 0, 1, 0, rfl, by decide, by decide, by decide, by decide, by decide⟩, Nn.un, Nn.un, Nn.un, Nn.un, Nn.un, Nn.un, rfl⟩ fun i d ρ hd ⟨m, r2, r3, r4, r5, r6, r7, ht, n2, n3, n4, n5, n6, n7, e⟩ => by
      obtain ⟨hi, rfl⟩ := rangeD_at hd
      subst e
      rw [Nat.zero_add] at ht ⊢
      obtain ⟨m', q3, q4, q5, q6, q7, ht', k3, k4, k5, k6, k7, e⟩ := turn_ok (C := C) (S := .scr (ns.map D.int)) (s2 := .v (.int (i : Int))) m (40 * i) ht (by omega) n3 n4 n5 n6 n7
      refine ⟨LS (.scr (ns.map D.int)) m (.v (.int (i : Int))) r3 r4 r5 r6 r7, _, ?_, e, m', _, _, _, _, _, _, by rw [show 40 * (i + 1) = 40 * i + 40 by omega]; exact ht', Nn.v _, k3, k4, k5, k6, k7, rfl⟩
      rw [put_N (s := r2) rfl n2]
      rfl
  obtain ⟨ρ', e1, m, r2, r3, r4, r5, r6, r7, _, _, _, _, _, _, _, rfl⟩ := loop
  have b0 : sNewL 1 (sCallN F__law_tape [.e (sVar 0)]) ([.v (.scr (ns.map D.int))] ++ List.replicate 7 .un) = .nx (LS (.scr (ns.map D.int)) (.l [.lst (ns.map D.int), .int 0, .int 0, .int 1, .int 0]) .un .un .un .un .un .un) := by
    unfold sNewL
    simp [List.replicate, r_tape, putOwn, LS]
  have b1 := q_rngN (fs := sCons (sC (.int 4)) sNil) (n := 4) (ρ := LS (.scr (ns.map D.int)) (.l [.lst (ns.map D.int), .int 0, .int 0, .int 1, .int 0]) .un .un .un .un .un .un) (ρ1 := LS (.scr (ns.map D.int)) (.l [.lst (ns.map D.int), .int 0, .int 0, .int 1, .int 0]) .un .un .un .un .un .un) rfl (by decide)
  refine ⟨_, runFn_rt (d := .bl true) (ρ' := LS (.scr (ns.map D.int)) m r2 r3 r4 r5 r6 r7) ?_⟩
  have eB : B_law C = sSeq (sNewL 1 (sCallN F__law_tape [.e (sVar 0)])) (sSeq (sFor (sRng1 (sCons (sC (.int 4)) sNil)) (gPut 2) (lawTurn C)) (sRet (sC (.bl true)))) := rfl
  rw [eB, q_seq, b0, SR.then_nx, q_seq, q_for, b1, Res.st_ok, e1, SR.then_nx]
  rfl
end Sh

namespace Sh
open PySem PySem.Spec PyProof.Rows L2
theorem all_mk {P : Program} {w : World} {K : PySem.W.Frag} {h : Heap} {mg : Str → Option Value} {fa f0 f1 f2 f3 f4 f5 f6 f7 f8 f9 f10 f11 f12 f13 f14 f15 f16 f17 f18 f19 f20 f21 f22 f23 f24 f25 f26 C : Addr} (X : K.In h) (G : h.Ns mainGlobals mg) (hfa : mg "law" = some (.ref fa))
    {od0 an0 od1 an1 od2 an2 od3 an3 od4 an4 od5 an5 od6 an6 od7 an7 od8 an8 od9 an9 od10 an10 od11 an11 od12 an12 od13 an13 od14 an14 od15 an15 od16 an16 od17 an17 od18 an18 od19 an19 od20 an20 od21 an21 od22 an22 od23 an23 od24 an24 od25 an25 od26 an26 : Option Addr} {sl0 sl1 sl2 sl3 sl4 sl5 sl6 sl7 sl8 sl9 sl10 sl11 sl12 sl13 sl14 sl15 sl16 sl17 sl18 sl19 sl20 sl21 sl22 sl23 sl24 sl25 sl26 : Array (Option Value)} {oc0 kV0 dc0 pm0 cd0 ct0 oc1 kV1 dc1 pm1 cd1 ct1 oc2 kV2 dc2 pm2 cd2 ct2 oc3 kV3 dc3 pm3 cd3 ct3 oc4 kV4 dc4 pm4 cd4 ct4 oc5 kV5 dc5 pm5 cd5 ct5 oc6 kV6 dc6 pm6 cd6 ct6 oc7 kV7 dc7 pm7 cd7 ct7 oc8 kV8 dc8 pm8 cd8 ct8 oc9 kV9 dc9 pm9 cd9 ct9 oc10 kV10 dc10 pm10 cd10 ct10 oc11 kV11 dc11 pm11 cd11 ct11 oc12 kV12 dc12 pm12 cd12 ct12 oc13 kV13 dc13 pm13 cd13 ct13 oc14 kV14 dc14 pm14 cd14 ct14 oc15 kV15 dc15 pm15 cd15 ct15 oc16 kV16 dc16 pm16 cd16 ct16 oc17 kV17 dc17 pm17 cd17 ct17 oc18 kV18 dc18 pm18 cd18 ct18 oc19 kV19 dc19 pm19 cd19 ct19 oc20 kV20 dc20 pm20 cd20 ct20 oc21 kV21 dc21 pm21 cd21 ct21 oc22 kV22 dc22 pm22 cd22 ct22 oc23 kV23 dc23 pm23 cd23 ct23 oc24 kV24 dc24 pm24 cd24 ct24 oc25 kV25 dc25 pm25 cd25 ct25 oc26 kV26 dc26 pm26 cd26 ct26 : Value} {t_HIGHEST_DOOR t_LOWEST_DOOR t_MOST_CUPS t_MOST_HOUSES t_MOST_STANDINGS t_MOST_STEPS : Tok}
    (aC : PySem.W.nsIn K mainGlobals "Web" = some (some (.ref C)))
    (a0 : PySem.W.nsIn K mainGlobals "_law_tape" = some (some (.ref f0)))
    (l0 : K.lookup f0 = some ⟨oc0, od0, .func (PySem.W.fnOf "_law_tape" "_law_tape" (defArgs s__law_tape) (defBody s__law_tape) (defScope s__law_tape) .none kV0 dc0 pm0 an0 cd0 ct0), sl0⟩)
    (c0 : PySem.W.codeIn K cd0 "_law_tape" = true)
    (k0 : PySem.W.keepIn K (.ref f0) = true)
    (a1 : PySem.W.nsIn K mainGlobals "is_integer" = some (some (.ref f1)))
    (l1 : K.lookup f1 = some ⟨oc1, od1, .func (PySem.W.fnOf "is_integer" "is_integer" (defArgs s_is_integer) (defBody s_is_integer) (defScope s_is_integer) .none kV1 dc1 pm1 an1 cd1 ct1), sl1⟩)
    (c1 : PySem.W.codeIn K cd1 "is_integer" = true)
    (k1 : PySem.W.keepIn K (.ref f1) = true)
    (a2 : PySem.W.nsIn K mainGlobals "is_within" = some (some (.ref f2)))
    (l2 : K.lookup f2 = some ⟨oc2, od2, .func (PySem.W.fnOf "is_within" "is_within" (defArgs s_is_within) (defBody s_is_within) (defScope s_is_within) .none kV2 dc2 pm2 an2 cd2 ct2), sl2⟩)
    (c2 : PySem.W.codeIn K cd2 "is_within" = true)
    (k2 : PySem.W.keepIn K (.ref f2) = true)
    (a3 : PySem.W.nsIn K mainGlobals "_are_doors" = some (some (.ref f3)))
    (l3 : K.lookup f3 = some ⟨oc3, od3, .func (PySem.W.fnOf "_are_doors" "_are_doors" (defArgs s__are_doors) (defBody s__are_doors) (defScope s__are_doors) .none kV3 dc3 pm3 an3 cd3 ct3), sl3⟩)
    (c3 : PySem.W.codeIn K cd3 "_are_doors" = true)
    (k3 : PySem.W.keepIn K (.ref f3) = true)
    (a4 : PySem.W.nsIn K mainGlobals "is_ascending" = some (some (.ref f4)))
    (l4 : K.lookup f4 = some ⟨oc4, od4, .func (PySem.W.fnOf "is_ascending" "is_ascending" (defArgs s_is_ascending) (defBody s_is_ascending) (defScope s_is_ascending) .none kV4 dc4 pm4 an4 cd4 ct4), sl4⟩)
    (c4 : PySem.W.codeIn K cd4 "is_ascending" = true)
    (k4 : PySem.W.keepIn K (.ref f4) = true)
    (a5 : PySem.W.nsIn K mainGlobals "freely" = some (some (.ref f5)))
    (l5 : K.lookup f5 = some ⟨oc5, od5, .func (PySem.W.fnOf "freely" "freely" (defArgs s_freely) (defBody s_freely) (defScope s_freely) .none kV5 dc5 pm5 an5 cd5 ct5), sl5⟩)
    (c5 : PySem.W.codeIn K cd5 "freely" = true)
    (k5 : PySem.W.keepIn K (.ref f5) = true)
    (a6 : PySem.W.nsIn K mainGlobals "_law_pick" = some (some (.ref f6)))
    (l6 : K.lookup f6 = some ⟨oc6, od6, .func (PySem.W.fnOf "_law_pick" "_law_pick" (defArgs s__law_pick) (defBody s__law_pick) (defScope s__law_pick) .none kV6 dc6 pm6 an6 cd6 ct6), sl6⟩)
    (c6 : PySem.W.codeIn K cd6 "_law_pick" = true)
    (k6 : PySem.W.keepIn K (.ref f6) = true)
    (a7 : PySem.W.nsIn K mainGlobals "_lead_standing" = some (some (.ref f7)))
    (l7 : K.lookup f7 = some ⟨oc7, od7, .func (PySem.W.fnOf "_lead_standing" "_lead_standing" (defArgs s__lead_standing) (defBody s__lead_standing) (defScope s__lead_standing) .none kV7 dc7 pm7 an7 cd7 ct7), sl7⟩)
    (c7 : PySem.W.codeIn K cd7 "_lead_standing" = true)
    (k7 : PySem.W.keepIn K (.ref f7) = true)
    (a8 : PySem.W.nsIn K mainGlobals "never_ahead" = some (some (.ref f8)))
    (l8 : K.lookup f8 = some ⟨oc8, od8, .func (PySem.W.fnOf "never_ahead" "never_ahead" (defArgs s_never_ahead) (defBody s_never_ahead) (defScope s_never_ahead) .none kV8 dc8 pm8 an8 cd8 ct8), sl8⟩)
    (c8 : PySem.W.codeIn K cd8 "never_ahead" = true)
    (k8 : PySem.W.keepIn K (.ref f8) = true)
    (a9 : PySem.W.nsIn K mainGlobals "is_below" = some (some (.ref f9)))
    (l9 : K.lookup f9 = some ⟨oc9, od9, .func (PySem.W.fnOf "is_below" "is_below" (defArgs s_is_below) (defBody s_is_below) (defScope s_is_below) .none kV9 dc9 pm9 an9 cd9 ct9), sl9⟩)
    (c9 : PySem.W.codeIn K cd9 "is_below" = true)
    (k9 : PySem.W.keepIn K (.ref f9) = true)
    (a10 : PySem.W.nsIn K mainGlobals "is_number" = some (some (.ref f10)))
    (l10 : K.lookup f10 = some ⟨oc10, od10, .func (PySem.W.fnOf "is_number" "is_number" (defArgs s_is_number) (defBody s_is_number) (defScope s_is_number) .none kV10 dc10 pm10 an10 cd10 ct10), sl10⟩)
    (c10 : PySem.W.codeIn K cd10 "is_number" = true)
    (k10 : PySem.W.keepIn K (.ref f10) = true)
    (a11 : PySem.W.nsIn K mainGlobals "pair_of" = some (some (.ref f11)))
    (l11 : K.lookup f11 = some ⟨oc11, od11, .func (PySem.W.fnOf "pair_of" "pair_of" (defArgs s_pair_of) (defBody s_pair_of) (defScope s_pair_of) .none kV11 dc11 pm11 an11 cd11 ct11), sl11⟩)
    (c11 : PySem.W.codeIn K cd11 "pair_of" = true)
    (k11 : PySem.W.keepIn K (.ref f11) = true)
    (a12 : PySem.W.nsIn K mainGlobals "is_tuple_of" = some (some (.ref f12)))
    (l12 : K.lookup f12 = some ⟨oc12, od12, .func (PySem.W.fnOf "is_tuple_of" "is_tuple_of" (defArgs s_is_tuple_of) (defBody s_is_tuple_of) (defScope s_is_tuple_of) .none kV12 dc12 pm12 an12 cd12 ct12), sl12⟩)
    (c12 : PySem.W.codeIn K cd12 "is_tuple_of" = true)
    (k12 : PySem.W.keepIn K (.ref f12) = true)
    (a13 : PySem.W.nsIn K mainGlobals "steps_taken" = some (some (.ref f13)))
    (l13 : K.lookup f13 = some ⟨oc13, od13, .func (PySem.W.fnOf "steps_taken" "steps_taken" (defArgs s_steps_taken) (defBody s_steps_taken) (defScope s_steps_taken) .none kV13 dc13 pm13 an13 cd13 ct13), sl13⟩)
    (c13 : PySem.W.codeIn K cd13 "steps_taken" = true)
    (k13 : PySem.W.keepIn K (.ref f13) = true)
    (a14 : PySem.W.nsIn K mainGlobals "are_moves" = some (some (.ref f14)))
    (l14 : K.lookup f14 = some ⟨oc14, od14, .func (PySem.W.fnOf "are_moves" "are_moves" (defArgs s_are_moves) (defBody s_are_moves) (defScope s_are_moves) .none kV14 dc14 pm14 an14 cd14 ct14), sl14⟩)
    (c14 : PySem.W.codeIn K cd14 "are_moves" = true)
    (k14 : PySem.W.keepIn K (.ref f14) = true)
    (a15 : PySem.W.nsIn K mainGlobals "doors_of" = some (some (.ref f15)))
    (l15 : K.lookup f15 = some ⟨oc15, od15, .func (PySem.W.fnOf "doors_of" "doors_of" (defArgs s_doors_of) (defBody s_doors_of) (defScope s_doors_of) .none kV15 dc15 pm15 an15 cd15 ct15), sl15⟩)
    (c15 : PySem.W.codeIn K cd15 "doors_of" = true)
    (k15 : PySem.W.keepIn K (.ref f15) = true)
    (a16 : PySem.W.nsIn K mainGlobals "are_integers" = some (some (.ref f16)))
    (l16 : K.lookup f16 = some ⟨oc16, od16, .func (PySem.W.fnOf "are_integers" "are_integers" (defArgs s_are_integers) (defBody s_are_integers) (defScope s_are_integers) .none kV16 dc16 pm16 an16 cd16 ct16), sl16⟩)
    (c16 : PySem.W.codeIn K cd16 "are_integers" = true)
    (k16 : PySem.W.keepIn K (.ref f16) = true)
    (a17 : PySem.W.nsIn K mainGlobals "_is_standing" = some (some (.ref f17)))
    (l17 : K.lookup f17 = some ⟨oc17, od17, .func (PySem.W.fnOf "_is_standing" "_is_standing" (defArgs s__is_standing) (defBody s__is_standing) (defScope s__is_standing) .none kV17 dc17 pm17 an17 cd17 ct17), sl17⟩)
    (c17 : PySem.W.codeIn K cd17 "_is_standing" = true)
    (k17 : PySem.W.keepIn K (.ref f17) = true)
    (a18 : PySem.W.nsIn K mainGlobals "_is_dealer" = some (some (.ref f18)))
    (l18 : K.lookup f18 = some ⟨oc18, od18, .func (PySem.W.fnOf "_is_dealer" "_is_dealer" (defArgs s__is_dealer) (defBody s__is_dealer) (defScope s__is_dealer) .none kV18 dc18 pm18 an18 cd18 ct18), sl18⟩)
    (c18 : PySem.W.codeIn K cd18 "_is_dealer" = true)
    (k18 : PySem.W.keepIn K (.ref f18) = true)
    (a19 : PySem.W.nsIn K mainGlobals "reached" = some (some (.ref f19)))
    (l19 : K.lookup f19 = some ⟨oc19, od19, .func (PySem.W.fnOf "reached" "reached" (defArgs s_reached) (defBody s_reached) (defScope s_reached) .none kV19 dc19 pm19 an19 cd19 ct19), sl19⟩)
    (c19 : PySem.W.codeIn K cd19 "reached" = true)
    (k19 : PySem.W.keepIn K (.ref f19) = true)
    (a20 : PySem.W.nsIn K mainGlobals "_is_joined" = some (some (.ref f20)))
    (l20 : K.lookup f20 = some ⟨oc20, od20, .func (PySem.W.fnOf "_is_joined" "_is_joined" (defArgs s__is_joined) (defBody s__is_joined) (defScope s__is_joined) .none kV20 dc20 pm20 an20 cd20 ct20), sl20⟩)
    (c20 : PySem.W.codeIn K cd20 "_is_joined" = true)
    (k20 : PySem.W.keepIn K (.ref f20) = true)
    (a21 : PySem.W.nsIn K mainGlobals "_check" = some (some (.ref f21)))
    (l21 : K.lookup f21 = some ⟨oc21, od21, .func (PySem.W.fnOf "_check" "_check" (defArgs s__check) (defBody s__check) (defScope s__check) .none kV21 dc21 pm21 an21 cd21 ct21), sl21⟩)
    (c21 : PySem.W.codeIn K cd21 "_check" = true)
    (k21 : PySem.W.keepIn K (.ref f21) = true)
    (a22 : PySem.W.nsIn K mainGlobals "_law_row_right" = some (some (.ref f22)))
    (l22 : K.lookup f22 = some ⟨oc22, od22, .func (PySem.W.fnOf "_law_row_right" "_law_row_right" (defArgs s__law_row_right) (defBody s__law_row_right) (defScope s__law_row_right) .none kV22 dc22 pm22 an22 cd22 ct22), sl22⟩)
    (c22 : PySem.W.codeIn K cd22 "_law_row_right" = true)
    (k22 : PySem.W.keepIn K (.ref f22) = true)
    (a23 : PySem.W.nsIn K mainGlobals "_law_standing" = some (some (.ref f23)))
    (l23 : K.lookup f23 = some ⟨oc23, od23, .func (PySem.W.fnOf "_law_standing" "_law_standing" (defArgs s__law_standing) (defBody s__law_standing) (defScope s__law_standing) .none kV23 dc23 pm23 an23 cd23 ct23), sl23⟩)
    (c23 : PySem.W.codeIn K cd23 "_law_standing" = true)
    (k23 : PySem.W.keepIn K (.ref f23) = true)
    (a24 : PySem.W.nsIn K mainGlobals "_law_due" = some (some (.ref f24)))
    (l24 : K.lookup f24 = some ⟨oc24, od24, .func (PySem.W.fnOf "_law_due" "_law_due" (defArgs s__law_due) (defBody s__law_due) (defScope s__law_due) .none kV24 dc24 pm24 an24 cd24 ct24), sl24⟩)
    (c24 : PySem.W.codeIn K cd24 "_law_due" = true)
    (k24 : PySem.W.keepIn K (.ref f24) = true)
    (a25 : PySem.W.nsIn K mainGlobals "law" = some (some (.ref f25)))
    (l25 : K.lookup f25 = some ⟨oc25, od25, .func (PySem.W.fnOf "law" "law" (defArgs s_law) (defBody s_law) (defScope s_law) .none kV25 dc25 pm25 an25 cd25 ct25), sl25⟩)
    (c25 : PySem.W.codeIn K cd25 "law" = true)
    (k25 : PySem.W.keepIn K (.ref f25) = true)
    (a26 : PySem.W.findIn K (.ref C) "__init__" = some (some (.ref f26)))
    (i26 : PySem.W.isFn K (.ref f26) = true)
    (l26 : K.lookup f26 = some ⟨oc26, od26, .func (PySem.W.fnOf "__init__" "Web.__init__" (defArgs s_Web_init) (defBody s_Web_init) (defScope s_Web_init) .none kV26 dc26 pm26 an26 cd26 ct26), sl26⟩)
    (c26 : PySem.W.codeIn K cd26 "Web.__init__" = true)
    (k26 : PySem.W.keepIn K (.ref f26) = true)
    (pg : PySem.W.plainGet K C Str.empty = true)
    (hd : PySem.W.hasDictIn K C = true)
    (po : PySem.W.plainOver K C = true)
    (sa : PySem.W.findIn K (.ref C) "__setattr__" = some (some (.builtin "object.__setattr__")))
    (nc : PySem.W.findIn K (.ref C) "cups" = some none)
    (nd : PySem.W.findIn K (.ref C) "dealers" = some none)
    (mk : PySem.W.makesIn K C = true)
    (kc : PySem.W.keepIn K (.ref C) = true)
    (z_abs : PySem.W.nsIn K mainGlobals "abs" = some none)
    (z_all : PySem.W.nsIn K mainGlobals "all" = some none)
    (z_bool : PySem.W.nsIn K mainGlobals "bool" = some none)
    (z_enumerate : PySem.W.nsIn K mainGlobals "enumerate" = some none)
    (z_int : PySem.W.nsIn K mainGlobals "int" = some none)
    (z_isinstance : PySem.W.nsIn K mainGlobals "isinstance" = some none)
    (z_len : PySem.W.nsIn K mainGlobals "len" = some none)
    (z_list : PySem.W.nsIn K mainGlobals "list" = some none)
    (z_range : PySem.W.nsIn K mainGlobals "range" = some none)
    (z_sorted : PySem.W.nsIn K mainGlobals "sorted" = some none)
    (z_tuple : PySem.W.nsIn K mainGlobals "tuple" = some none)
    (z_zip : PySem.W.nsIn K mainGlobals "zip" = some none)
    (m_HIGHEST_DOOR : PySem.W.nsIn K mainGlobals "HIGHEST_DOOR" = some (some (.int (7) t_HIGHEST_DOOR)))
    (m_LOWEST_DOOR : PySem.W.nsIn K mainGlobals "LOWEST_DOOR" = some (some (.int (-6) t_LOWEST_DOOR)))
    (m_MOST_CUPS : PySem.W.nsIn K mainGlobals "MOST_CUPS" = some (some (.int (6) t_MOST_CUPS)))
    (m_MOST_HOUSES : PySem.W.nsIn K mainGlobals "MOST_HOUSES" = some (some (.int (8) t_MOST_HOUSES)))
    (m_MOST_STANDINGS : PySem.W.nsIn K mainGlobals "MOST_STANDINGS" = some (some (.int (8) t_MOST_STANDINGS)))
    (m_MOST_STEPS : PySem.W.nsIn K mainGlobals "MOST_STEPS" = some (some (.int (6) t_MOST_STEPS)))
    : ∃ fd : FuncData, (∀ (s : Shared) (v : Value), BindsTo s fd ⟨[v], []⟩ [("_law_script", v)]) ∧ ∀ base : Heap, K.In base → base.Ns mainGlobals mg → FnOk P w K mg base (L2.CX P w) 9 fa fd ["_law_script"] (spTop K) := by
  have e := hfa.symm.trans (PySem.W.mg_of X G a25)
  cases e
  have F0 := fun_mk (st := s__law_tape) l0 c0 k0
  have b0 := F0.binds (ps := ["_law_script"]) fun _ _ _ _ _ _ us hl => match us, hl with | [_], _ => rfl
  have F1 := fun_mk (st := s_is_integer) l1 c1 k1
  have b1 := F1.binds (ps := ["thing"]) fun _ _ _ _ _ _ us hl => match us, hl with | [_], _ => rfl
  have F2 := fun_mk (st := s_is_within) l2 c2 k2
  have b2 := F2.binds (ps := ["thing", "low", "high"]) fun _ _ _ _ _ _ us hl => match us, hl with | [_, _, _], _ => rfl
  have F3 := fun_mk (st := s__are_doors) l3 c3 k3
  have b3 := F3.binds (ps := ["thing", "most"]) fun _ _ _ _ _ _ us hl => match us, hl with | [_, _], _ => rfl
  have F4 := fun_mk (st := s_is_ascending) l4 c4 k4
  have b4 := F4.binds (ps := ["things"]) fun _ _ _ _ _ _ us hl => match us, hl with | [_], _ => rfl
  have F5 := fun_mk (st := s_freely) l5 c5 k5
  have b5 := F5.binds (ps := ["doors"]) fun _ _ _ _ _ _ us hl => match us, hl with | [_], _ => rfl
  have F6 := fun_mk (st := s__law_pick) l6 c6 k6
  have b6 := F6.binds (ps := ["_law_tape_here", "_law_many"]) fun _ _ _ _ _ _ us hl => match us, hl with | [_, _], _ => rfl
  have F7 := fun_mk (st := s__lead_standing) l7 c7 k7
  have b7 := F7.binds (ps := ["one", "other", "leads", "lead"]) fun _ _ _ _ _ _ us hl => match us, hl with | [_, _, _, _], _ => rfl
  have F8 := fun_mk (st := s_never_ahead) l8 c8 k8
  have b8 := F8.binds (ps := ["one", "other", "most"]) fun _ _ _ _ _ _ us hl => match us, hl with | [_, _, _], _ => rfl
  have F9 := fun_mk (st := s_is_below) l9 c9 k9
  have b9 := F9.binds (ps := ["thing", "limit"]) fun _ _ _ _ _ _ us hl => match us, hl with | [_, _], _ => rfl
  have F10 := fun_mk (st := s_is_number) l10 c10 k10
  have b10 := F10.binds (ps := ["web", "house", "standing", "number"]) fun _ _ _ _ _ _ us hl => match us, hl with | [_, _, _, _], _ => rfl
  have F11 := fun_mk (st := s_pair_of) l11 c11 k11
  have b11 := F11.binds (ps := ["web", "step"]) fun _ _ _ _ _ _ us hl => match us, hl with | [_, _], _ => rfl
  have F12 := fun_mk (st := s_is_tuple_of) l12 c12 k12
  have b12 := F12.binds (ps := ["thing", "many"]) fun _ _ _ _ _ _ us hl => match us, hl with | [_, _], _ => rfl
  have F13 := fun_mk (st := s_steps_taken) l13 c13 k13
  have b13 := F13.binds (ps := ["web", "moves"]) fun _ _ _ _ _ _ us hl => match us, hl with | [_, _], _ => rfl
  have F14 := fun_mk (st := s_are_moves) l14 c14 k14
  have b14 := F14.binds (ps := ["web", "thing"]) fun _ _ _ _ _ _ us hl => match us, hl with | [_, _], _ => rfl
  have F15 := fun_mk (st := s_doors_of) l15 c15 k15
  have b15 := F15.binds (ps := ["dealer"]) fun _ _ _ _ _ _ us hl => match us, hl with | [_], _ => rfl
  have F16 := fun_mk (st := s_are_integers) l16 c16 k16
  have b16 := F16.binds (ps := ["things"]) fun _ _ _ _ _ _ us hl => match us, hl with | [_], _ => rfl
  have F17 := fun_mk (st := s__is_standing) l17 c17 k17
  have b17 := F17.binds (ps := ["thing", "cups", "houses", "standings"]) fun _ _ _ _ _ _ us hl => match us, hl with | [_, _, _, _], _ => rfl
  have F18 := fun_mk (st := s__is_dealer) l18 c18 k18
  have b18 := F18.binds (ps := ["thing", "cups", "houses"]) fun _ _ _ _ _ _ us hl => match us, hl with | [_, _, _], _ => rfl
  have F19 := fun_mk (st := s_reached) l19 c19 k19
  have b19 := F19.binds (ps := ["arrows", "start"]) fun _ _ _ _ _ _ us hl => match us, hl with | [_, _], _ => rfl
  have F20 := fun_mk (st := s__is_joined) l20 c20 k20
  have b20 := F20.binds (ps := ["dealer"]) fun _ _ _ _ _ _ us hl => match us, hl with | [_], _ => rfl
  have F21 := fun_mk (st := s__check) l21 c21 k21
  have b21 := F21.binds (ps := ["cups", "dealers"]) fun _ _ _ _ _ _ us hl => match us, hl with | [_, _], _ => rfl
  have F22 := fun_mk (st := s__law_row_right) l22 c22 k22
  have b22 := F22.binds (ps := ["_law_tape_here", "_law_most"]) fun _ _ _ _ _ _ us hl => match us, hl with | [_, _], _ => rfl
  have F23 := fun_mk (st := s__law_standing) l23 c23 k23
  have b23 := F23.binds (ps := ["_law_ahead"]) fun _ _ _ _ _ _ us hl => match us, hl with | [_], _ => rfl
  have F24 := fun_mk (st := s__law_due) l24 c24 k24
  have b24 := F24.binds (ps := ["_law_one", "_law_other", "_law_most"]) fun _ _ _ _ _ _ us hl => match us, hl with | [_, _, _], _ => rfl
  have F25 := fun_mk (st := s_law) l25 c25 k25
  have b25 := F25.binds (ps := ["_law_script"]) fun _ _ _ _ _ _ us hl => match us, hl with | [_], _ => rfl
  have F26 := fun_mk (st := s_Web_init) l26 c26 k26
  have b26 := F26.binds (ps := ["self", "cups", "dealers"]) fun _ _ _ _ _ _ us hl => match us, hl with | [_, _, _], _ => rfl
  have T : Txt K mg ⟨f0, PySem.W.fnOf "_law_tape" "_law_tape" (defArgs s__law_tape) (defBody s__law_tape) (defScope s__law_tape) .none kV0 dc0 pm0 an0 cd0 ct0, f1, PySem.W.fnOf "is_integer" "is_integer" (defArgs s_is_integer) (defBody s_is_integer) (defScope s_is_integer) .none kV1 dc1 pm1 an1 cd1 ct1, f2, PySem.W.fnOf "is_within" "is_within" (defArgs s_is_within) (defBody s_is_within) (defScope s_is_within) .none kV2 dc2 pm2 an2 cd2 ct2, f3, PySem.W.fnOf "_are_doors" "_are_doors" (defArgs s__are_doors) (defBody s__are_doors) (defScope s__are_doors) .none kV3 dc3 pm3 an3 cd3 ct3, f4, PySem.W.fnOf "is_ascending" "is_ascending" (defArgs s_is_ascending) (defBody s_is_ascending) (defScope s_is_ascending) .none kV4 dc4 pm4 an4 cd4 ct4, f5, PySem.W.fnOf "freely" "freely" (defArgs s_freely) (defBody s_freely) (defScope s_freely) .none kV5 dc5 pm5 an5 cd5 ct5, f6, PySem.W.fnOf "_law_pick" "_law_pick" (defArgs s__law_pick) (defBody s__law_pick) (defScope s__law_pick) .none kV6 dc6 pm6 an6 cd6 ct6, f7, PySem.W.fnOf "_lead_standing" "_lead_standing" (defArgs s__lead_standing) (defBody s__lead_standing) (defScope s__lead_standing) .none kV7 dc7 pm7 an7 cd7 ct7, f8, PySem.W.fnOf "never_ahead" "never_ahead" (defArgs s_never_ahead) (defBody s_never_ahead) (defScope s_never_ahead) .none kV8 dc8 pm8 an8 cd8 ct8, f9, PySem.W.fnOf "is_below" "is_below" (defArgs s_is_below) (defBody s_is_below) (defScope s_is_below) .none kV9 dc9 pm9 an9 cd9 ct9, f10, PySem.W.fnOf "is_number" "is_number" (defArgs s_is_number) (defBody s_is_number) (defScope s_is_number) .none kV10 dc10 pm10 an10 cd10 ct10, f11, PySem.W.fnOf "pair_of" "pair_of" (defArgs s_pair_of) (defBody s_pair_of) (defScope s_pair_of) .none kV11 dc11 pm11 an11 cd11 ct11, f12, PySem.W.fnOf "is_tuple_of" "is_tuple_of" (defArgs s_is_tuple_of) (defBody s_is_tuple_of) (defScope s_is_tuple_of) .none kV12 dc12 pm12 an12 cd12 ct12, f13, PySem.W.fnOf "steps_taken" "steps_taken" (defArgs s_steps_taken) (defBody s_steps_taken) (defScope s_steps_taken) .none kV13 dc13 pm13 an13 cd13 ct13, f14, PySem.W.fnOf "are_moves" "are_moves" (defArgs s_are_moves) (defBody s_are_moves) (defScope s_are_moves) .none kV14 dc14 pm14 an14 cd14 ct14, f15, PySem.W.fnOf "doors_of" "doors_of" (defArgs s_doors_of) (defBody s_doors_of) (defScope s_doors_of) .none kV15 dc15 pm15 an15 cd15 ct15, f16, PySem.W.fnOf "are_integers" "are_integers" (defArgs s_are_integers) (defBody s_are_integers) (defScope s_are_integers) .none kV16 dc16 pm16 an16 cd16 ct16, f17, PySem.W.fnOf "_is_standing" "_is_standing" (defArgs s__is_standing) (defBody s__is_standing) (defScope s__is_standing) .none kV17 dc17 pm17 an17 cd17 ct17, f18, PySem.W.fnOf "_is_dealer" "_is_dealer" (defArgs s__is_dealer) (defBody s__is_dealer) (defScope s__is_dealer) .none kV18 dc18 pm18 an18 cd18 ct18, f19, PySem.W.fnOf "reached" "reached" (defArgs s_reached) (defBody s_reached) (defScope s_reached) .none kV19 dc19 pm19 an19 cd19 ct19, f20, PySem.W.fnOf "_is_joined" "_is_joined" (defArgs s__is_joined) (defBody s__is_joined) (defScope s__is_joined) .none kV20 dc20 pm20 an20 cd20 ct20, f21, PySem.W.fnOf "_check" "_check" (defArgs s__check) (defBody s__check) (defScope s__check) .none kV21 dc21 pm21 an21 cd21 ct21, f22, PySem.W.fnOf "_law_row_right" "_law_row_right" (defArgs s__law_row_right) (defBody s__law_row_right) (defScope s__law_row_right) .none kV22 dc22 pm22 an22 cd22 ct22, f23, PySem.W.fnOf "_law_standing" "_law_standing" (defArgs s__law_standing) (defBody s__law_standing) (defScope s__law_standing) .none kV23 dc23 pm23 an23 cd23 ct23, f24, PySem.W.fnOf "_law_due" "_law_due" (defArgs s__law_due) (defBody s__law_due) (defScope s__law_due) .none kV24 dc24 pm24 an24 cd24 ct24, fa, PySem.W.fnOf "law" "law" (defArgs s_law) (defBody s_law) (defScope s_law) .none kV25 dc25 pm25 an25 cd25 ct25, f26, PySem.W.fnOf "__init__" "Web.__init__" (defArgs s_Web_init) (defBody s_Web_init) (defScope s_Web_init) .none kV26 dc26 pm26 an26 cd26 ct26, C, t_HIGHEST_DOOR, t_LOWEST_DOOR, t_MOST_CUPS, t_MOST_HOUSES, t_MOST_STANDINGS, t_MOST_STEPS⟩ := ⟨F0, b0, PySem.W.mg_of X G a0, F1, b1, PySem.W.mg_of X G a1, F2, b2, PySem.W.mg_of X G a2, F3, b3, PySem.W.mg_of X G a3, F4, b4, PySem.W.mg_of X G a4, F5, b5, PySem.W.mg_of X G a5, F6, b6, PySem.W.mg_of X G a6, F7, b7, PySem.W.mg_of X G a7, F8, b8, PySem.W.mg_of X G a8, F9, b9, PySem.W.mg_of X G a9, F10, b10, PySem.W.mg_of X G a10, F11, b11, PySem.W.mg_of X G a11, F12, b12, PySem.W.mg_of X G a12, F13, b13, PySem.W.mg_of X G a13, F14, b14, PySem.W.mg_of X G a14, F15, b15, PySem.W.mg_of X G a15, F16, b16, PySem.W.mg_of X G a16, F17, b17, PySem.W.mg_of X G a17, F18, b18, PySem.W.mg_of X G a18, F19, b19, PySem.W.mg_of X G a19, F20, b20, PySem.W.mg_of X G a20, F21, b21, PySem.W.mg_of X G a21, F22, b22, PySem.W.mg_of X G a22, F23, b23, PySem.W.mg_of X G a23, F24, b24, PySem.W.mg_of X G a24, F25, b25, PySem.W.mg_of X G a25, F26, b26, PySem.W.mg_none_of X G z_abs, PySem.W.mg_none_of X G z_all, PySem.W.mg_none_of X G z_bool, PySem.W.mg_none_of X G z_enumerate, PySem.W.mg_none_of X G z_int, PySem.W.mg_none_of X G z_isinstance, PySem.W.mg_none_of X G z_len, PySem.W.mg_none_of X G z_list, PySem.W.mg_none_of X G z_range, PySem.W.mg_none_of X G z_sorted, PySem.W.mg_none_of X G z_tuple, PySem.W.mg_none_of X G z_zip, PySem.W.mg_of X G m_HIGHEST_DOOR, PySem.W.mg_of X G m_LOWEST_DOOR, PySem.W.mg_of X G m_MOST_CUPS, PySem.W.mg_of X G m_MOST_HOUSES, PySem.W.mg_of X G m_MOST_STANDINGS, PySem.W.mg_of X G m_MOST_STEPS, ⟨pg, hd, po, sa⟩, nc, nd, ⟨mk, a26, i26, kc⟩, PySem.W.mg_of X G aC⟩
  exact ⟨_, fun s v => .of_eq rfl, fun base _ _ => (ok_law T).imp (top_sp (law_true C))⟩
end Sh
open PySem PySem.W PyProof.Rows in
set_option maxRecDepth 100000 in
set_option maxHeartbeats 0 in
theorem PySem.Challenge.cw_lastdoors_k06_whole_free_and_bounded_dea_holds : PySem.Challenge.rw_lastdoors_k06_whole_free_and_bounded_dea.Holds := by
  w_on; o_law; k_head; (case hw => w_witness2)
  k_fill
  refine L2.walk_of (l := PySem.Challenge.rw_lastdoors_k06_whole_free_and_bounded_dea) (n := 63) (k := 9) (x := "_law_script") (CX := fun w => L2.CX (PySem.Challenge.rw_lastdoors_k06_whole_free_and_bounded_dea).prog w) (sp := fun w => Sh.spTop _) rfl (by decide) rfl ⟨rfl, by decide, by decide⟩ (fun w h Y => PySem.W.kIn_of Y) ?F (fun _ _ a ns hl _ hS => ⟨a, ns, rfl, hS, hl, fun _ => rfl⟩) (fun _ _ _ _ _ h => Sh.no_cx h)
  case F =>
    intro w mg fa h KX G hmg
    refine' Sh.all_mk KX G hmg ?aC ?a0 ?l0 ?c0 ?k0 ?a1 ?l1 ?c1 ?k1 ?a2 ?l2 ?c2 ?k2 ?a3 ?l3 ?c3 ?k3 ?a4 ?l4 ?c4 ?k4 ?a5 ?l5 ?c5 ?k5 ?a6 ?l6 ?c6 ?k6 ?a7 ?l7 ?c7 ?k7 ?a8 ?l8 ?c8 ?k8 ?a9 ?l9 ?c9 ?k9 ?a10 ?l10 ?c10 ?k10 ?a11 ?l11 ?c11 ?k11 ?a12 ?l12 ?c12 ?k12 ?a13 ?l13 ?c13 ?k13 ?a14 ?l14 ?c14 ?k14 ?a15 ?l15 ?c15 ?k15 ?a16 ?l16 ?c16 ?k16 ?a17 ?l17 ?c17 ?k17 ?a18 ?l18 ?c18 ?k18 ?a19 ?l19 ?c19 ?k19 ?a20 ?l20 ?c20 ?k20 ?a21 ?l21 ?c21 ?k21 ?a22 ?l22 ?c22 ?k22 ?a23 ?l23 ?c23 ?k23 ?a24 ?l24 ?c24 ?k24 ?a25 ?l25 ?c25 ?k25 ?a26 ?i26 ?l26 ?c26 ?k26 ?pg ?hd ?po ?sa ?nc ?nd ?mk ?kc ?z_abs ?z_all ?z_bool ?z_enumerate ?z_int ?z_isinstance ?z_len ?z_list ?z_range ?z_sorted ?z_tuple ?z_zip ?m_HIGHEST_DOOR ?m_LOWEST_DOOR ?m_MOST_CUPS ?m_MOST_HOUSES ?m_MOST_STANDINGS ?m_MOST_STEPS
    (case aC => k_is)
    (case a0 => k_is)
    (case l0 => k_is)
    (case c0 => k_is)
    (case k0 => k_is)
    (case a1 => k_is)
    (case l1 => k_is)
    (case c1 => k_is)
    (case k1 => k_is)
    (case a2 => k_is)
    (case l2 => k_is)
    (case c2 => k_is)
    (case k2 => k_is)
    (case a3 => k_is)
    (case l3 => k_is)
    (case c3 => k_is)
    (case k3 => k_is)
    (case a4 => k_is)
    (case l4 => k_is)
    (case c4 => k_is)
    (case k4 => k_is)
    (case a5 => k_is)
    (case l5 => k_is)
    (case c5 => k_is)
    (case k5 => k_is)
    (case a6 => k_is)
    (case l6 => k_is)
    (case c6 => k_is)
    (case k6 => k_is)
    (case a7 => k_is)
    (case l7 => k_is)
    (case c7 => k_is)
    (case k7 => k_is)
    (case a8 => k_is)
    (case l8 => k_is)
    (case c8 => k_is)
    (case k8 => k_is)
    (case a9 => k_is)
    (case l9 => k_is)
    (case c9 => k_is)
    (case k9 => k_is)
    (case a10 => k_is)
    (case l10 => k_is)
    (case c10 => k_is)
    (case k10 => k_is)
    (case a11 => k_is)
    (case l11 => k_is)
    (case c11 => k_is)
    (case k11 => k_is)
    (case a12 => k_is)
    (case l12 => k_is)
    (case c12 => k_is)
    (case k12 => k_is)
    (case a13 => k_is)
    (case l13 => k_is)
    (case c13 => k_is)
    (case k13 => k_is)
    (case a14 => k_is)
    (case l14 => k_is)
    (case c14 => k_is)
    (case k14 => k_is)
    (case a15 => k_is)
    (case l15 => k_is)
    (case c15 => k_is)
    (case k15 => k_is)
    (case a16 => k_is)
    (case l16 => k_is)
    (case c16 => k_is)
    (case k16 => k_is)
    (case a17 => k_is)
    (case l17 => k_is)
    (case c17 => k_is)
    (case k17 => k_is)
    (case a18 => k_is)
    (case l18 => k_is)
    (case c18 => k_is)
    (case k18 => k_is)
    (case a19 => k_is)
    (case l19 => k_is)
    (case c19 => k_is)
    (case k19 => k_is)
    (case a20 => k_is)
    (case l20 => k_is)
    (case c20 => k_is)
    (case k20 => k_is)
    (case a21 => k_is)
    (case l21 => k_is)
    (case c21 => k_is)
    (case k21 => k_is)
    (case a22 => k_is)
    (case l22 => k_is)
    (case c22 => k_is)
    (case k22 => k_is)
    (case a23 => k_is)
    (case l23 => k_is)
    (case c23 => k_is)
    (case k23 => k_is)
    (case a24 => k_is)
    (case l24 => k_is)
    (case c24 => k_is)
    (case k24 => k_is)
    (case a25 => k_is)
    (case l25 => k_is)
    (case c25 => k_is)
    (case k25 => k_is)
    (case a26 => k_is)
    (case i26 => k_is)
    (case l26 => k_is)
    (case c26 => k_is)
    (case k26 => k_is)
    (case pg => k_is)
    (case hd => k_is)
    (case po => k_is)
    (case sa => k_is)
    (case nc => k_is)
    (case nd => k_is)
    (case mk => k_is)
    (case kc => k_is)
    (case z_abs => k_is)
    (case z_all => k_is)
    (case z_bool => k_is)
    (case z_enumerate => k_is)
    (case z_int => k_is)
    (case z_isinstance => k_is)
    (case z_len => k_is)
    (case z_list => k_is)
    (case z_range => k_is)
    (case z_sorted => k_is)
    (case z_tuple => k_is)
    (case z_zip => k_is)
    (case m_HIGHEST_DOOR => k_is)
    (case m_LOWEST_DOOR => k_is)
    (case m_MOST_CUPS => k_is)
    (case m_MOST_HOUSES => k_is)
    (case m_MOST_STANDINGS => k_is)
    (case m_MOST_STEPS => k_is)
#print axioms PySem.Challenge.cw_lastdoors_k06_whole_free_and_bounded_dea_holds
