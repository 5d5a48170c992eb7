import PyProof.Rows.All
import Wide.All
import OpenK.AllK
import Wide.FinOn
import HandS.ForMost
import HandS.ForExc
import HandS.Wide
import HandS.Codes
import HandS.Conv
import HandS.Steps
import HandS.Evl
import HandS.ExcInit
import HandS.ExcField
import HandS.TryOnly
import HandS.Strs
import HandS.ExcOwn
import HandS.WordsExc
import HandS.IsInst
import HandS.Zip
import PySem.Challenge.RW_shownwrites_k08_names
set_option Elab.async false
set_option autoImplicit false
set_option linter.all false
set_option maxRecDepth 100000
set_option maxHeartbeats 4000000
/-! # G: what stands for what; frames; what an expression gives -/
namespace G
open PySem PySem.Spec PyProof.Rows L2

/-- a value and the datum it stands for, over a heap that only grows -/
structure Rp (α : Type) where
  rel : Hp → V → α → Prop
  mono : ∀ {H H' : Hp} {v : V} {a : α}, Same H H' → rel H v a → rel H' v a
/-- an object and the datum it stands for -/
structure Cl (α : Type) where
  ok : Hp → HO → α → Prop
  mono : ∀ {H H' : Hp} {o : HO} {a : α}, Same H H' → ok H o a → ok H' o a
/-- a row of values -/
structure Rw (α : Type) where
  rel : Hp → List V → α → Prop
  mono : ∀ {H H' : Hp} {vs : List V} {a : α}, Same H H' → rel H vs a → rel H' vs a

def rInt : Rp Int := ⟨fun _ v i => v = .int i, fun _ h => h⟩
def rBool : Rp Bool := ⟨fun _ v b => v = .bl b, fun _ h => h⟩
def rStr : Rp Str := ⟨fun _ v z => v = .str z, fun _ h => h⟩
def rNon : Rp Unit := ⟨fun _ v _ => v = .non, fun _ h => h⟩
def rOpt {α : Type} (r : Rp α) : Rp (Option α) := ⟨fun H v o => match o with
  | none => v = .non
  | some a => r.rel H v a ∧ v ≠ .non, fun {H H' v o} s h => by
    cases o with
    | none => exact h
    | some a => exact ⟨r.mono s h.1, h.2⟩⟩
def rOb {α : Type} (c : Cl α) : Rp α := ⟨fun H v a => ∃ p o, v = .ref p ∧ H p = some o ∧ c.ok H o a, fun s ⟨p, o, e, h, k⟩ => ⟨p, o, e, s p o h, c.mono s k⟩⟩
theorem Paired.monoR {α : Type} {r : Rp α} {H H' : Hp} (s : Same H H') : ∀ {vs : List V} {xs : List α}, Paired (r.rel H) vs xs → Paired (r.rel H') vs xs
  | _, _, .nil => .nil
  | _, _, .cons h t => .cons (r.mono s h) (Paired.monoR s t)
def cLst {α : Type} (r : Rp α) : Cl (List α) := ⟨fun H o xs => ∃ vs, o = .lst vs ∧ Paired (r.rel H) vs xs, fun s ⟨vs, e, h⟩ => ⟨vs, e, Paired.monoR s h⟩⟩
def cTpl {α : Type} (r : Rp α) : Cl (List α) := ⟨fun H o xs => ∃ vs, o = .tup vs ∧ Paired (r.rel H) vs xs, fun s ⟨vs, e, h⟩ => ⟨vs, e, Paired.monoR s h⟩⟩
def cTup {α : Type} (w : Rw α) : Cl α := ⟨fun H o a => ∃ vs, o = .tup vs ∧ w.rel H vs a, fun s ⟨vs, e, h⟩ => ⟨vs, e, w.mono s h⟩⟩
def cHls {α : Type} (w : Rw α) : Cl α := ⟨fun H o a => ∃ vs, o = .lst vs ∧ w.rel H vs a, fun s ⟨vs, e, h⟩ => ⟨vs, e, w.mono s h⟩⟩
def rLst {α : Type} (r : Rp α) : Rp (List α) := rOb (cLst r)
def rTpl {α : Type} (r : Rp α) : Rp (List α) := rOb (cTpl r)
def rTup {α : Type} (w : Rw α) : Rp α := rOb (cTup w)
def rHls {α : Type} (w : Rw α) : Rp α := rOb (cHls w)
def w0 : Rw Unit := ⟨fun _ vs _ => vs = [], fun _ h => h⟩
def w1 {α : Type} (r : Rp α) : Rw α := ⟨fun H vs a => ∃ v, vs = [v] ∧ r.rel H v a, fun s ⟨v, e, h⟩ => ⟨v, e, r.mono s h⟩⟩
def wC {α β : Type} (r : Rp α) (w : Rw β) : Rw (α × β) := ⟨fun H vs a => ∃ v t, vs = v :: t ∧ r.rel H v a.1 ∧ w.rel H t a.2, fun s ⟨v, t, e, h, k⟩ => ⟨v, t, e, r.mono s h, w.mono s k⟩⟩

/-- what a slot holds: nothing that is known; a value; a list (dict ..) of the frame's own, at an address, that may change -/
inductive Sl : Type 1 where
  | no
  | imm {α : Type} (r : Rp α) (a : α)
  | cel {α : Type} (p : Addr) (c : Cl α) (a : α)

/-- where a def began: what stood, what stood and was known to be fixed, what it may change -/
structure Amb where
  B0 : Hp
  H0 : Hp
  m : Addr → Prop
  φ : Hp → Prop
  up : ∀ B B', Same B B' → φ B → φ B'
def Amb.add (A : Amb) (p : Addr) (o : HO) : Amb := ⟨A.B0, upd A.H0 p o, A.m, A.φ, A.up⟩
/-- no object is too large -/
def szO : HO → Prop
  | .lst xs => xs.length ≤ sizeLine
  | .tup xs => xs.length ≤ sizeLine
  | .dK kvs => kvs.length ≤ sizeLine
  | .dT kvs => kvs.length ≤ sizeLine
  | _ => True
def Sz (H : Hp) : Prop := ∀ p o, H p = some o → szO o
theorem Sz.upd {H : Hp} {p : Addr} {o : HO} (h : Sz H) (ho : szO o) : Sz (upd H p o) := fun q u e => by
  by_cases hq : q = p
  · subst hq; rw [upd_same] at e; cases e; exact ho
  · rw [upd_ne hq] at e; exact h q u e

def SlOk (A : Amb) (σ : L2.St) (H B : Hp) (i : Nat) : Sl → Prop
  | .no => True
  | .imm r a => ∃ v, σ[i]? = some (some v) ∧ r.rel B v a
  | .cel p c a => σ[i]? = some (some (V.ref p)) ∧ B p = none ∧ (A.H0 p = none ∨ A.m p) ∧ ∃ o, H p = some o ∧ c.ok B o a
def celAt : Sl → Option Addr
  | .cel p _ _ => some p
  | _ => none

/-- what has come since the beginning -/
structure Post (A : Amb) (H B : Hp) : Prop where
  bh : Same B H
  b0 : Same A.B0 B
  keep : ∀ p o, ¬ A.m p → A.H0 p = some o → H p = some o
  out : ∀ p, A.H0 p ≠ none → A.B0 p = none → B p = none
  alive : ∀ p, A.H0 p ≠ none → H p ≠ none
  sub : Same A.B0 A.H0
  mh : ∀ p, A.m p → A.H0 p ≠ none
  ph : A.φ B
  sz : Sz H

structure Frm (A : Amb) (σ : L2.St) (H B : Hp) (Γ : List Sl) : Prop extends Post A H B where
  len : σ.length = Γ.length
  sl : ∀ (i : Nat) (s : Sl), Γ[i]? = some s → SlOk A σ H B i s
  ds : ∀ (i j : Nat) (p : Addr), (Γ[i]?.bind celAt) = some p → (Γ[j]?.bind celAt) = some p → i = j

theorem slok_mono {A : Amb} {σ : L2.St} {H H' B B' : Hp} {i : Nat} {s : Sl} (h : SlOk A σ H B i s) (b : Same B B') (k : ∀ p o, celAt s = some p → H p = some o → H' p = some o) (n : ∀ p, celAt s = some p → B' p = none) : SlOk A σ H' B' i s := by
  cases s with
  | no => trivial
  | imm r a => obtain ⟨v, e, q⟩ := h; exact ⟨v, e, r.mono b q⟩
  | cel p c a => obtain ⟨e, _, m, o, ho, q⟩ := h; exact ⟨e, n p rfl, m, o, k p o rfl ho, c.mono b q⟩
section
variable {A : Amb} {σ : L2.St} {H B : Hp} {Γ : List Sl} {p : Addr} {o : HO}
theorem Frm.post (F : Frm A σ H B Γ) : Post A H B := F.toPost
theorem Frm.hot (F : Frm A σ H B Γ) {i : Nat} {s : Sl} (e : Γ[i]? = some s) {p : Addr} (hp : celAt s = some p) : B p = none ∧ H p ≠ none ∧ (A.H0 p = none ∨ A.m p) := by
  have h := F.sl i s e
  cases s with
  | no => cases hp
  | imm r a => cases hp
  | cel q c a =>
    cases hp
    obtain ⟨_, n, m, o, ho, _⟩ := h
    exact ⟨n, by rw [ho]; simp, m⟩
/-- a new object beside what is known -/
theorem Frm.fresh (F : Frm A σ H B Γ) (hp : H p = none) (ho : szO o) : Frm (A.add p o) σ (upd H p o) B Γ where
  bh := fun b u e => by rw [upd_ne (ne_of_none (F.bh b u e) hp)]; exact F.bh b u e
  b0 := F.b0
  keep := fun b u m e => by
    by_cases hb : b = p
    · subst hb
      have e' : upd A.H0 b o b = some u := e
      rw [upd_same] at e'; rw [upd_same]; exact e'
    · have e' : upd A.H0 p o b = some u := e
      rw [upd_ne hb] at e'; rw [upd_ne hb]; exact F.keep b u m e'
  out := fun b n z => by
    by_cases hb : b = p
    · subst hb
      cases q : B b with
      | none => rfl
      | some u => have := F.bh b u q; rw [hp] at this; cases this
    · have n' : upd A.H0 p o b ≠ none := n
      rw [upd_ne hb] at n'
      exact F.out b n' z
  alive := fun b n => by
    by_cases hb : b = p
    · subst hb; rw [upd_same]; simp
    · have n' : upd A.H0 p o b ≠ none := n
      rw [upd_ne hb] at n'; rw [upd_ne hb]; exact F.alive b n'
  sub := fun b u e => by
    have z := F.sub b u e
    have hb : b ≠ p := fun q => by
      subst q
      exact F.alive b (by rw [z]; simp) hp
    show upd A.H0 p o b = some u
    rw [upd_ne hb]; exact z
  mh := fun b m => by
    by_cases hb : b = p
    · subst hb; show upd A.H0 b o b ≠ none; rw [upd_same]; simp
    · show upd A.H0 p o b ≠ none; rw [upd_ne hb]; exact F.mh b m
  ph := F.ph
  sz := F.sz.upd ho
  len := F.len
  sl := fun i s e => by
    have hh := fun q => F.hot e (p := q)
    have h := F.sl i s e
    cases s with
    | no => trivial
    | imm r a => exact h
    | cel q c a =>
      obtain ⟨e1, n, m, o1, ho, k⟩ := h
      have hq : q ≠ p := fun z => by rw [z, hp] at ho; cases ho
      refine ⟨e1, n, ?_, o1, by rw [upd_ne hq]; exact ho, k⟩
      rcases m with m | m
      · exact .inl (by show upd A.H0 p o q = none; rw [upd_ne hq]; exact m)
      · exact .inr m
  ds := F.ds
theorem Frm.H0none (F : Frm A σ H B Γ) (hp : H p = none) : A.H0 p = none := by
  cases q : A.H0 p with
  | none => rfl
  | some u => exact absurd hp (F.alive p (by rw [q]; simp))
theorem Frm.hid (F : Frm (A.add p o) σ H B Γ) (h0 : A.H0 p = none) (hm : ¬ A.m p) : H p = some o := F.keep p o hm upd_same
/-- the hidden object is forgotten -/
theorem Frm.drop (F : Frm (A.add p o) σ H B Γ) (h0 : A.H0 p = none) (sub : Same A.B0 A.H0) (mh : ∀ p, A.m p → A.H0 p ≠ none) : Frm A σ H B Γ where
  bh := F.bh
  b0 := F.b0
  keep := fun b u m e => F.keep b u m (by show upd A.H0 p o b = some u; rw [upd_ne (ne_of_none e h0)]; exact e)
  out := fun b n z => F.out b (by
    have hb : b ≠ p := fun q => n (by rw [q]; exact h0)
    show upd A.H0 p o b ≠ none; rw [upd_ne hb]; exact n) z
  alive := fun b n => F.alive b (by
    have hb : b ≠ p := fun q => n (by rw [q]; exact h0)
    show upd A.H0 p o b ≠ none; rw [upd_ne hb]; exact n)
  sub := sub
  mh := mh
  ph := F.ph
  sz := F.sz
  len := F.len
  sl := fun i s e => by
    have h := F.sl i s e
    cases s with
    | no => trivial
    | imm r a => exact h
    | cel q c a =>
      obtain ⟨e1, n, m, k⟩ := h
      refine ⟨e1, n, ?_, k⟩
      rcases m with m | m
      · by_cases hq : q = p
        · exact .inl (by rw [hq]; exact h0)
        · have m' : upd A.H0 p o q = none := m
          rw [upd_ne hq] at m'
          exact .inl m'
      · exact .inr m
  ds := F.ds
/-- the hidden object is among what is fixed -/
theorem Frm.adopt (F : Frm (A.add p o) σ H B Γ) (h0 : A.H0 p = none) (sub : Same A.B0 A.H0) (mh : ∀ p, A.m p → A.H0 p ≠ none) : Frm A σ H (upd B p o) Γ := by
  have hm : ¬ A.m p := fun m => mh p m h0
  have hHp := F.hid h0 hm
  have hBp : B p = none := F.out p (by show upd A.H0 p o p ≠ none; rw [upd_same]; simp) (by
    cases q : A.B0 p with
    | none => exact q
    | some u => exact (absurd (sub p u q) (by rw [h0]; simp)))
  have D := F.drop h0 sub mh
  have bb : Same B (upd B p o) := fun b u e => by rw [upd_ne (ne_of_none e hBp)]; exact e
  have hot : ∀ (i : Nat) (s : Sl), Γ[i]? = some s → ∀ q, celAt s = some q → q ≠ p := fun i s e q hq z => by
    have hh := F.hot e hq
    rcases hh.2.2 with m | m
    · have m' : upd A.H0 p o q = none := m
      rw [z, upd_same] at m'; cases m'
    · rw [z] at m; exact hm m
  refine ⟨⟨fun b u e => ?_, fun b u e => bb b u (D.b0 b u e), D.keep, fun b n z => ?_, D.alive, sub, mh, A.up _ _ bb D.ph, D.sz⟩, D.len, fun i s e => slok_mono (D.sl i s e) bb (fun _ _ _ z => z) fun q hq => by rw [upd_ne (hot i s e q hq)]; exact (D.hot e hq).1, D.ds⟩
  · by_cases hb : b = p
    · subst hb; rw [upd_same] at e; cases e; exact hHp
    · rw [upd_ne hb] at e; exact D.bh b u e
  · have hb : b ≠ p := fun q => n (by rw [q]; exact h0)
    rw [upd_ne hb]; exact D.out b n z
theorem getset {α : Type _} {l : List α} {i j : Nat} {x y : α} (h : (l.set i x)[j]? = some y) : (i = j ∧ y = x ∧ j < l.length) ∨ (i ≠ j ∧ l[j]? = some y) := by
  by_cases e : i = j
  · subst e
    rw [List.getElem?_set] at h
    simp only [if_true] at h
    split at h
    · rename_i hl; cases h; exact .inl ⟨rfl, rfl, hl⟩
    · cases h
  · rw [List.getElem?_set_ne e] at h; exact .inr ⟨e, h⟩
/-- a slot is stored -/
theorem Frm.set {α : Type} {r : Rp α} {a : α} {v : V} {i : Nat} (F : Frm A σ H B Γ) (h : r.rel B v a) : Frm A (σ.set i (some v)) H B (Γ.set i (.imm r a)) := by
  refine ⟨F.post, by rw [List.length_set, List.length_set]; exact F.len, fun j s e => ?_, fun j k q ej ek => ?_⟩
  · rcases getset e with ⟨rfl, rfl, hl⟩ | ⟨ne, e⟩
    · exact ⟨v, by rw [List.getElem?_set_self (by rw [F.len]; exact hl)], h⟩
    · have h := F.sl j s e
      cases s with
      | no => trivial
      | imm r a => obtain ⟨v', e', q⟩ := h; exact ⟨v', by rw [List.getElem?_set_ne ne]; exact e', q⟩
      | cel q c a => obtain ⟨e', q⟩ := h; exact ⟨by rw [List.getElem?_set_ne ne]; exact e', q⟩
  · have lo : ∀ {j : Nat}, ((Γ.set i (.imm r a))[j]?.bind celAt) = some q → (Γ[j]?.bind celAt) = some q := fun {j} ej => by
      cases e : (Γ.set i (.imm r a))[j]? with
      | none => rw [e] at ej; cases ej
      | some s =>
        rw [e] at ej
        rcases getset e with ⟨rfl, rfl, hl⟩ | ⟨ne, e⟩
        · cases ej
        · rw [e]; exact ej
    exact F.ds j k q (lo ej) (lo ek)
/-- the hidden object is the frame's own, at a slot -/
theorem Frm.own {α : Type} {c : Cl α} {a : α} {i : Nat} (F : Frm (A.add p o) σ H B Γ) (h0 : A.H0 p = none) (sub : Same A.B0 A.H0) (mh : ∀ p, A.m p → A.H0 p ≠ none) (k : c.ok B o a) : Frm A (σ.set i (some (.ref p))) H B (Γ.set i (.cel p c a)) := by
  have hm : ¬ A.m p := fun m => mh p m h0
  have hHp := F.hid h0 hm
  have hBp : B p = none := F.out p (by show upd A.H0 p o p ≠ none; rw [upd_same]; simp) (by
    cases q : A.B0 p with
    | none => exact q
    | some u => exact (absurd (sub p u q) (by rw [h0]; simp)))
  have D := F.drop h0 sub mh
  have hot : ∀ (j : Nat) (q : Addr), (Γ[j]?.bind celAt) = some q → q ≠ p := fun j q hq z => by
    cases e : Γ[j]? with
    | none => rw [e] at hq; cases hq
    | some s =>
      rw [e] at hq
      have hh := F.hot e hq
      rcases hh.2.2 with m | m
      · have m' : upd A.H0 p o q = none := m
        rw [z, upd_same] at m'; cases m'
      · rw [z] at m; exact hm m
  refine ⟨D.post, by rw [List.length_set, List.length_set]; exact D.len, fun j s e => ?_, fun j l q ej ek => ?_⟩
  · rcases getset e with ⟨rfl, rfl, hl⟩ | ⟨ne, e⟩
    · exact ⟨by rw [List.getElem?_set_self (by rw [D.len]; exact hl)], hBp, .inl h0, o, hHp, k⟩
    · have h := D.sl j s e
      cases s with
      | no => trivial
      | imm r a => obtain ⟨v', e', q⟩ := h; exact ⟨v', by rw [List.getElem?_set_ne ne]; exact e', q⟩
      | cel q c a => obtain ⟨e', q⟩ := h; exact ⟨by rw [List.getElem?_set_ne ne]; exact e', q⟩
  · have lo : ∀ {j : Nat}, ((Γ.set i (.cel p c a))[j]?.bind celAt) = some q → (j = i ∧ q = p) ∨ (Γ[j]?.bind celAt) = some q := fun {j} ej => by
      cases e : (Γ.set i (.cel p c a))[j]? with
      | none => rw [e] at ej; cases ej
      | some s =>
        rw [e] at ej
        rcases getset e with ⟨rfl, rfl, hl⟩ | ⟨ne, e⟩
        · cases ej; exact .inl ⟨rfl, rfl⟩
        · rw [e]; exact .inr ej
    rcases lo ej with ⟨y, z⟩ | ej2
    · rcases lo ek with ⟨y', z'⟩ | ek2
      · rw [y, y']
      · exact absurd z (hot _ _ ek2)
    · rcases lo ek with ⟨y', z'⟩ | ek2
      · exact absurd z' (hot _ _ ej2)
      · exact D.ds j l q ej2 ek2
/-- what is not known of a slot any more -/
theorem Frm.forget (F : Frm A σ H B Γ) (i : Nat) : Frm A σ H B (Γ.set i .no) := by
  refine ⟨F.post, by rw [List.length_set]; exact F.len, fun j s e => ?_, fun j k q ej ek => ?_⟩
  · rcases getset e with ⟨rfl, rfl, hl⟩ | ⟨ne, e⟩
    · trivial
    · exact F.sl j s e
  · have lo : ∀ {j : Nat}, ((Γ.set i .no)[j]?.bind celAt) = some q → (Γ[j]?.bind celAt) = some q := fun {j} ej => by
      cases e : (Γ.set i .no)[j]? with
      | none => rw [e] at ej; cases ej
      | some s =>
        rw [e] at ej
        rcases getset e with ⟨rfl, rfl, hl⟩ | ⟨ne, e⟩
        · cases ej
        · rw [e]; exact ej
    exact F.ds j k q (lo ej) (lo ek)
/-- the frame's own object at a slot is changed -/
theorem Frm.write {α β : Type} {c : Cl α} {c' : Cl β} {a : α} {a' : β} {i : Nat} {o' : HO} (F : Frm A σ H B Γ) (e : Γ[i]? = some (.cel p c a)) (k : c'.ok B o' a') (ho : szO o') : Frm A σ (upd H p o') B (Γ.set i (.cel p c' a')) := by
  have hp := F.hot e (p := p) rfl
  obtain ⟨e1, n, m, _⟩ := F.sl i _ e
  refine ⟨⟨fun b u q => ?_, F.b0, fun b u nm q => ?_, F.out, fun b n => ?_, F.sub, F.mh, F.ph, F.sz.upd ho⟩, by rw [List.length_set]; exact F.len, fun j s ej => ?_, fun j l q ej ek => ?_⟩
  · have hb : b ≠ p := fun z => by rw [z, n] at q; cases q
    rw [upd_ne hb]; exact F.bh b u q
  · have hb : b ≠ p := fun z => by
      rcases m with m | m
      · rw [z, m] at q; cases q
      · rw [z] at nm; exact nm m
    rw [upd_ne hb]; exact F.keep b u nm q
  · by_cases hb : b = p
    · rw [hb, upd_same]; simp
    · rw [upd_ne hb]; exact F.alive b n
  · rcases getset ej with ⟨rfl, rfl, hl⟩ | ⟨ne, ej⟩
    · exact ⟨e1, n, m, o', upd_same, k⟩
    · have h := F.sl j s ej
      cases s with
      | no => trivial
      | imm r a => exact h
      | cel q c a =>
        obtain ⟨e', n', m', u, hu, k'⟩ := h
        have hq : q ≠ p := fun z => ne (F.ds i j p (by rw [e]; rfl) (by rw [ej, z]; rfl))
        exact ⟨e', n', m', u, by rw [upd_ne hq]; exact hu, k'⟩
  · have lo : ∀ {j : Nat}, ((Γ.set i (.cel p c' a'))[j]?.bind celAt) = some q → (Γ[j]?.bind celAt) = some q := fun {j} ej => by
      cases e2 : (Γ.set i (.cel p c' a'))[j]? with
      | none => rw [e2] at ej; cases ej
      | some s =>
        rw [e2] at ej
        rcases getset e2 with ⟨rfl, rfl, hl⟩ | ⟨ne, e2⟩
        · rw [e]; exact ej
        · rw [e2]; exact ej
    exact F.ds j l q (lo ej) (lo ek)
end
end G

set_option maxHeartbeats 4000000
/-! # G: what an expression gives -/
namespace G
open PySem PySem.Spec PyProof.Rows L2

/-- from what is known at Γ the expression gives the datum a, and leaves what is known at Γ' -/
def EvX {α : Type} (r : Rp α) (t : TE) (Γ Γ' : List Sl) (a : α) : Prop := ∀ (A : Amb) (σ : L2.St) (H B : Hp), Frm A σ H B Γ → ∀ Q : VK, (∀ v H' B', Frm A σ H' B' Γ' → Same B B' → r.rel B' v a → Q v H') → t σ H Q
def EvT (t : TT) (Γ Γ' : List Sl) (b : Bool) : Prop := ∀ (A : Amb) (σ : L2.St) (H B : Hp), Frm A σ H B Γ → ∀ Q : Bool → Hp → Prop, (∀ H' B', Frm A σ H' B' Γ' → Same B B' → Q b H') → t σ H Q
def EvW {α : Type} (w : Rw α) (t : TA) (Γ Γ' : List Sl) (a : α) : Prop := ∀ (A : Amb) (σ : L2.St) (H B : Hp), Frm A σ H B Γ → ∀ Q : List V → Hp → Prop, (∀ vs H' B', Frm A σ H' B' Γ' → Same B B' → w.rel B' vs a → Q vs H') → t σ H Q
def EvH {α : Type} (r : Rp α) (t : TA) (Γ Γ' : List Sl) (xs : List α) : Prop := ∀ (A : Amb) (σ : L2.St) (H B : Hp), Frm A σ H B Γ → ∀ Q : List V → Hp → Prop, (∀ vs H' B', Frm A σ H' B' Γ' → Same B B' → Paired (r.rel B') vs xs → Q vs H') → t σ H Q
/-- a new object -/
def EvC {α : Type} (c : Cl α) (t : TE) (Γ Γ' : List Sl) (a : α) : Prop := ∀ (A : Amb) (σ : L2.St) (H B : Hp), Frm A σ H B Γ → ∀ Q : VK, (∀ p o H' B', Frm (A.add p o) σ H' B' Γ' → A.H0 p = none → Same B B' → c.ok B' o a → Q (.ref p) H') → t σ H Q

section
variable {α β γ : Type} {r ra : Rp α} {rb : Rp β} {rc : Rp γ} {c : Cl α} {w : Rw α} {ta tb te : TE} {tt tu : TT} {Γ Γ1 Γ2 Γ3 : List Sl} {x a : α} {y b : β} {z : γ} {K : PySem.W.Frag}
theorem Paired.imp2 {α β : Type} {F G : α → β → Prop} (h : ∀ a b, F a b → G a b) : ∀ {l₁ : List α} {l₂ : List β}, Paired F l₁ l₂ → Paired G l₁ l₂
  | _, _, .nil => .nil
  | _, _, .cons q t => .cons (h _ _ q) (Paired.imp2 h t)
theorem Paired.len {α β : Type} {F : α → β → Prop} : ∀ {l₁ : List α} {l₂ : List β}, Paired F l₁ l₂ → l₁.length = l₂.length
  | _, _, .nil => rfl
  | _, _, .cons _ t => by rw [List.length_cons, List.length_cons, Paired.len t]
theorem Paired.getR {α β : Type} {F : α → β → Prop} : ∀ {l₁ : List α} {l₂ : List β} {i : Nat} {y : β}, Paired F l₁ l₂ → l₂[i]? = some y → ∃ x, l₁[i]? = some x ∧ F x y
  | _, _, _, _, .nil, e => by simp at e
  | _, _, 0, _, .cons q _, e => by simp at e; subst e; exact ⟨_, rfl, q⟩
  | _, _, i + 1, _, .cons _ t, e => by simpa using Paired.getR (i := i) t (by simpa using e)
theorem Paired.getL {α β : Type} {F : α → β → Prop} : ∀ {l₁ : List α} {l₂ : List β} {i : Nat} {x : α}, Paired F l₁ l₂ → l₁[i]? = some x → ∃ y, l₂[i]? = some y ∧ F x y
  | _, _, _, _, .nil, e => by simp at e
  | _, _, 0, _, .cons q _, e => by simp at e; subst e; exact ⟨_, rfl, q⟩
  | _, _, i + 1, _, .cons _ t, e => by simpa using Paired.getL (i := i) t (by simpa using e)
theorem Paired.app {α β : Type} {F : α → β → Prop} : ∀ {l₁ k₁ : List α} {l₂ k₂ : List β}, Paired F l₁ l₂ → Paired F k₁ k₂ → Paired F (l₁ ++ k₁) (l₂ ++ k₂)
  | _, _, _, _, .nil, h => h
  | _, _, _, _, .cons q t, h => .cons q (Paired.app t h)
theorem Paired.dropN {α β : Type} {F : α → β → Prop} : ∀ {l₁ : List α} {l₂ : List β} (n : Nat), Paired F l₁ l₂ → Paired F (l₁.drop n) (l₂.drop n)
  | _, _, 0, h => h
  | _, _, _ + 1, .nil => .nil
  | _, _, n + 1, .cons _ t => Paired.dropN n t
theorem Paired.takeN {α β : Type} {F : α → β → Prop} : ∀ {l₁ : List α} {l₂ : List β} (n : Nat), Paired F l₁ l₂ → Paired F (l₁.take n) (l₂.take n)
  | _, _, 0, _ => .nil
  | _, _, _ + 1, .nil => .nil
  | _, _, n + 1, .cons q t => .cons q (Paired.takeN n t)
theorem Paired.revR {α β : Type} {F : α → β → Prop} : ∀ {l₁ : List α} {l₂ : List β}, Paired F l₁ l₂ → Paired F l₁.reverse l₂.reverse
  | _, _, .nil => .nil
  | _, _, .cons q t => by rw [List.reverse_cons, List.reverse_cons]; exact Paired.app (Paired.revR t) (.cons q .nil)
theorem Paired.mapEq {α β : Type} {F : α → β → Prop} {f : β → α} (h : ∀ a b, F a b → a = f b) : ∀ {l₁ : List α} {l₂ : List β}, Paired F l₁ l₂ → l₁ = l₂.map f
  | _, _, .nil => rfl
  | _, _, .cons q t => by rw [List.map_cons, h _ _ q, Paired.mapEq h t]
theorem Paired.ofMap {α β : Type} {F : α → β → Prop} {f : β → α} (h : ∀ b, F (f b) b) : ∀ (l : List β), Paired F (l.map f) l
  | [] => .nil
  | b :: l => .cons (h b) (Paired.ofMap h l)

/-! ### names, constants -/
theorem ev_var {i : Nat} (h : Γ[i]? = some (.imm r a)) : EvX r (tVar i) Γ Γ a := fun A σ H B F Q q => by
  obtain ⟨v, e, k⟩ := F.sl i _ h
  exact ⟨v, e, q v H B F (Same.refl _) k⟩
theorem ev_int {i : Int} : EvX rInt (tC (.int i)) Γ Γ i := fun A σ H B F Q q => q _ H B F (Same.refl _) rfl
theorem ev_bl {b : Bool} : EvX rBool (tC (.bl b)) Γ Γ b := fun A σ H B F Q q => q _ H B F (Same.refl _) rfl
theorem ev_str {s : Str} : EvX rStr (tC (.str s)) Γ Γ s := fun A σ H B F Q q => q _ H B F (Same.refl _) rfl
theorem ev_non : EvX rNon (tC .non) Γ Γ () := fun A σ H B F Q q => q _ H B F (Same.refl _) rfl
theorem ev_none : EvX (rOpt r) (tC .non) Γ Γ none := fun A σ H B F Q q => q _ H B F (Same.refl _) rfl
/-! ### what is None or not -/
/-- r's values are not None -/
def NN {α : Type} (r : Rp α) : Prop := ∀ H v a, r.rel H v a → v ≠ .non
theorem nn_int : NN rInt := fun _ _ _ h e => by rw [e] at h; cases h
theorem nn_str : NN rStr := fun _ _ _ h e => by rw [e] at h; cases h
theorem nn_bool : NN rBool := fun _ _ _ h e => by rw [e] at h; cases h
theorem nn_ob : NN (rOb c) := fun _ _ _ ⟨p, o, e, _⟩ e' => by rw [e'] at e; cases e
theorem ev_some (n : NN r) (h : EvX r te Γ Γ1 a) : EvX (rOpt r) te Γ Γ1 (some a) := fun A σ H B F Q q => h A σ H B F Q fun v H' B' F' s k => q v H' B' F' s ⟨k, n _ _ _ k⟩
theorem ev_get {o : Option α} (h : EvX (rOpt r) te Γ Γ1 o) (e : o = some a) : EvX r te Γ Γ1 a := fun A σ H B F Q q => h A σ H B F Q fun v H' B' F' s k => q v H' B' F' s (by rw [e] at k; exact k.1)
theorem ev_to {a' : α} (h : EvX r te Γ Γ1 a) (e : a = a') : EvX r te Γ Γ1 a' := e ▸ h
theorem ev_toNon (h : EvX (rOpt r) te Γ Γ1 none) : EvX rNon te Γ Γ1 () := fun A σ H B F Q q => h A σ H B F Q fun v H' B' F' s k => q v H' B' F' s k
theorem ev_isN {o : Option α} (h : EvX (rOpt r) te Γ Γ1 o) : EvX rBool (tIsN te) Γ Γ1 o.isNone := fun A σ H B F Q q => h A σ H B F _ fun v H' B' F' s k => q _ H' B' F' s (by
  cases o with
  | none => rw [show v = V.non from k]; rfl
  | some a => show V.bl (decide (v = V.non)) = V.bl false; rw [decide_eq_false k.2])
theorem ev_notN {o : Option α} (h : EvX (rOpt r) te Γ Γ1 o) : EvX rBool (tNotN te) Γ Γ1 o.isSome := fun A σ H B F Q q => h A σ H B F _ fun v H' B' F' s k => q _ H' B' F' s (by
  cases o with
  | none => rw [show v = V.non from k]; rfl
  | some a => show V.bl (!decide (v = V.non)) = V.bl true; rw [decide_eq_false k.2]; rfl)
/-! ### operators -/
theorem ev_op {R : R2} (ha : EvX ra ta Γ Γ1 x) (hb : EvX rb tb Γ1 Γ2 y) (h : ∀ (H B : Hp) (u v : V), Same B H → ra.rel B u x → rb.rel B v y → ∀ Q : VK, (∀ o, rc.rel B o z → Q o H) → R u v H Q) : EvX rc (tOp R ta tb) Γ Γ2 z :=
  fun A σ H B F Q q => ha A σ H B F _ fun u H1 B1 F1 s1 k1 => hb A σ H1 B1 F1 _ fun v H2 B2 F2 s2 k2 => h H2 B2 u v F2.bh (ra.mono s2 k1) k2 Q fun o ko => q o H2 B2 F2 (s1.trans s2) ko
theorem ev_opC {R : R2} {cc : Cl γ} (ha : EvX ra ta Γ Γ1 x) (hb : EvX rb tb Γ1 Γ2 y) (h : ∀ (H B : Hp) (u v : V), Sz H → Same B H → ra.rel B u x → rb.rel B v y → ∀ Q : VK, (∀ p o, H p = none → szO o → cc.ok B o z → Q (.ref p) (upd H p o)) → R u v H Q) : EvC cc (tOp R ta tb) Γ Γ2 z :=
  fun A σ H B F Q q => ha A σ H B F _ fun u H1 B1 F1 s1 k1 => hb A σ H1 B1 F1 _ fun v H2 B2 F2 s2 k2 => h H2 B2 u v F2.sz F2.bh (ra.mono s2 k1) k2 Q fun p o hp ho ko => q p o _ B2 (F2.fresh hp ho) (F2.H0none hp) (s1.trans s2) ko
theorem ev_un {R : V → Hp → VK → Prop} (ha : EvX ra ta Γ Γ1 x) (h : ∀ (H B : Hp) (u : V), Same B H → ra.rel B u x → ∀ Q : VK, (∀ o, rc.rel B o z → Q o H) → R u H Q) : EvX rc (tUn R ta) Γ Γ1 z :=
  fun A σ H B F Q q => ha A σ H B F _ fun u H1 B1 F1 s1 k1 => h H1 B1 u F1.bh k1 Q fun o ko => q o H1 B1 F1 s1 ko
theorem ev_I0 {g : Int → Int → V} {i j : Int} (ha : EvX rInt ta Γ Γ1 i) (hb : EvX rInt tb Γ1 Γ2 j) (h : ∀ B, rc.rel B (g i j) z) : EvX rc (tOp (rI0 g) ta tb) Γ Γ2 z :=
  ev_op ha hb fun H B u v _ ku kv Q q => ⟨i, j, ku, kv, q _ (h B)⟩
theorem ev_I {C : Int → Int → Prop} {g : Int → Int → V} {i j : Int} (ha : EvX rInt ta Γ Γ1 i) (hb : EvX rInt tb Γ1 Γ2 j) (hc : C i j) (h : ∀ B, rc.rel B (g i j) z) : EvX rc (tOp (rI C g) ta tb) Γ Γ2 z :=
  ev_op ha hb fun H B u v _ ku kv Q q => ⟨i, j, ku, kv, hc, q _ (h B)⟩
section
variable {i j : Int}
theorem ev_add (ha : EvX rInt ta Γ Γ1 i) (hb : EvX rInt tb Γ1 Γ2 j) : EvX rInt (tOp (rI0 fun i j => .int (i + j)) ta tb) Γ Γ2 (i + j) := ev_I0 ha hb fun _ => rfl
theorem ev_sub (ha : EvX rInt ta Γ Γ1 i) (hb : EvX rInt tb Γ1 Γ2 j) : EvX rInt (tOp (rI0 fun i j => .int (i - j)) ta tb) Γ Γ2 (i - j) := ev_I0 ha hb fun _ => rfl
theorem ev_mul (ha : EvX rInt ta Γ Γ1 i) (hb : EvX rInt tb Γ1 Γ2 j) (h : CMul i j) : EvX rInt (tOp (rI CMul fun i j => .int (i * j)) ta tb) Γ Γ2 (i * j) := ev_I ha hb h fun _ => rfl
theorem ev_mod (ha : EvX rInt ta Γ Γ1 i) (hb : EvX rInt tb Γ1 Γ2 j) (h : 0 < j) : EvX rInt (tOp (rI (fun _ j => 0 < j) fun i j => .int (i % j)) ta tb) Γ Γ2 (i % j) := ev_I ha hb h fun _ => rfl
theorem ev_divW (ha : EvX rInt ta Γ Γ1 i) (hb : EvX rInt tb Γ1 Γ2 j) (h : CDivW i j) : EvX rInt (tOp (rI CDivW fun i j => .int (i / j)) ta tb) Γ Γ2 (i / j) := ev_I ha hb h fun _ => rfl
theorem ev_pow (ha : EvX rInt ta Γ Γ1 i) (hb : EvX rInt tb Γ1 Γ2 j) (h : CPow i j) : EvX rInt (tOp (rI CPow fun i j => .int (i ^ j.toNat)) ta tb) Γ Γ2 (i ^ j.toNat) := ev_I ha hb h fun _ => rfl
theorem ev_neg (ha : EvX rInt ta Γ Γ1 i) : EvX rInt (tUn (rU fun i => .int (-i)) ta) Γ Γ1 (-i) := ev_un ha fun H B u _ k Q q => ⟨i, k, q _ rfl⟩
theorem ev_lt (ha : EvX rInt ta Γ Γ1 i) (hb : EvX rInt tb Γ1 Γ2 j) : EvX rBool (tOp (rI0 fun i j => .bl (decide (i < j))) ta tb) Γ Γ2 (decide (i < j)) := ev_I0 ha hb fun _ => rfl
theorem ev_le (ha : EvX rInt ta Γ Γ1 i) (hb : EvX rInt tb Γ1 Γ2 j) : EvX rBool (tOp (rI0 fun i j => .bl (decide (i ≤ j))) ta tb) Γ Γ2 (decide (i ≤ j)) := ev_I0 ha hb fun _ => rfl
theorem ev_gt (ha : EvX rInt ta Γ Γ1 i) (hb : EvX rInt tb Γ1 Γ2 j) : EvX rBool (tOp (rI0 fun i j => .bl (decide (j < i))) ta tb) Γ Γ2 (decide (j < i)) := ev_I0 ha hb fun _ => rfl
theorem ev_ge (ha : EvX rInt ta Γ Γ1 i) (hb : EvX rInt tb Γ1 Γ2 j) : EvX rBool (tOp (rI0 fun i j => .bl (decide (j ≤ i))) ta tb) Γ Γ2 (decide (j ≤ i)) := ev_I0 ha hb fun _ => rfl
end
/-- data that are a value without the heap -/
structure Sc {α : Type} (r : Rp α) where
  val : α → V
  ok : ∀ {H v a}, r.rel H v a → v = val a
  inj : ∀ {a b}, val a = val b → a = b
def scInt : Sc rInt := ⟨.int, fun h => h, fun h => V.int.inj h⟩
def scBool : Sc rBool := ⟨.bl, fun h => h, fun h => V.bl.inj h⟩
def scStr : Sc rStr := ⟨.str, fun h => h, fun h => V.str.inj h⟩
def scNon : Sc rNon := ⟨fun _ => .non, fun h => h, fun _ => rfl⟩
def oV {α : Type} (f : α → V) : Option α → V
  | none => .non
  | some a => f a
def scOpt {α : Type} {r : Rp α} (s : Sc r) (n : ∀ a, s.val a ≠ .non) : Sc (rOpt r) := ⟨oV s.val, fun {H v a} h => by
    cases a with
    | none => exact h
    | some a => exact s.ok h.1, fun {a b} h => by
    cases a with
    | none => cases b with
      | none => rfl
      | some b => exact absurd h.symm (n b)
    | some a => cases b with
      | none => exact absurd h (n a)
      | some b => rw [s.inj h]⟩
def scOI : Sc (rOpt rInt) := scOpt scInt fun _ h => V.noConfusion h
def scOS : Sc (rOpt rStr) := scOpt scStr fun _ h => V.noConfusion h
theorem sc_dec {r : Rp α} [DecidableEq α] (s : Sc r) (a b : α) : decide (s.val a = s.val b) = decide (a = b) := by
  by_cases e : a = b
  · rw [e]; simp
  · rw [decide_eq_false e, decide_eq_false fun h => e (s.inj h)]
theorem ev_eqS [DecidableEq α] (s : Sc r) (ha : EvX r ta Γ Γ1 x) (hb : EvX r tb Γ1 Γ2 a) (h : scal (s.val x) (s.val a) = true) : EvX rBool (tOp rEq ta tb) Γ Γ2 (decide (x = a)) :=
  ev_op ha hb fun H B u v _ ku kv Q q => by
    rw [s.ok ku, s.ok kv]
    exact ⟨h, q _ (by rw [sc_dec s]; rfl)⟩
theorem ev_neS [DecidableEq α] (s : Sc r) (ha : EvX r ta Γ Γ1 x) (hb : EvX r tb Γ1 Γ2 a) (h : scal (s.val x) (s.val a) = true) : EvX rBool (tOp rNe ta tb) Γ Γ2 (!decide (x = a)) :=
  ev_op ha hb fun H B u v _ ku kv Q q => by
    rw [s.ok ku, s.ok kv]
    exact ⟨h, q _ (by rw [sc_dec s]; rfl)⟩
theorem sc_oi (x a : Option Int) : scal (scOI.val x) (scOI.val a) = true := by cases x <;> cases a <;> rfl
theorem sc_os (x a : Option Str) : scal (scOS.val x) (scOS.val a) = true := by cases x <;> cases a <;> rfl
/-! ### tests -/
theorem et_B {b : Bool} (h : EvX rBool te Γ Γ1 b) : EvT (tB te) Γ Γ1 b := fun A σ H B F Q q => h A σ H B F _ fun v H' B' F' s k => ⟨b, k, q H' B' F' s⟩
theorem et_T {b : Bool} (h : EvX rBool te Γ Γ1 b) : EvT (tTest te) Γ Γ1 b := fun A σ H B F Q q => h A σ H B F _ fun v H' B' F' s k => ⟨b, k, q H' B' F' s⟩
theorem et_and {a b : Bool} (h1 : EvT tt Γ Γ1 a) (h2 : a = true → EvT tu Γ1 Γ2 b) (h3 : a = false → b = false ∧ Γ1 = Γ2) : EvT (tAnd tt tu) Γ Γ2 b := fun A σ H B F Q q => h1 A σ H B F _ fun H' B' F' s => by
  cases a with
  | true => exact h2 rfl A σ H' B' F' Q fun H2 B2 F2 s2 => q H2 B2 F2 (s.trans s2)
  | false => obtain ⟨rfl, rfl⟩ := h3 rfl; exact q H' B' F' s
theorem et_or {a b : Bool} (h1 : EvT tt Γ Γ1 a) (h2 : a = false → EvT tu Γ1 Γ2 b) (h3 : a = true → b = true ∧ Γ1 = Γ2) : EvT (tOr tt tu) Γ Γ2 b := fun A σ H B F Q q => h1 A σ H B F _ fun H' B' F' s => by
  cases a with
  | false => exact h2 rfl A σ H' B' F' Q fun H2 B2 F2 s2 => q H2 B2 F2 (s.trans s2)
  | true => obtain ⟨rfl, rfl⟩ := h3 rfl; exact q H' B' F' s
theorem et_and0 {a b : Bool} (h1 : EvT tt Γ Γ1 a) (h2 : EvT tu Γ1 Γ1 b) : EvT (tAnd tt tu) Γ Γ1 (a && b) := et_and h1 (fun e => by rw [e]; exact h2) fun e => ⟨by rw [e]; rfl, rfl⟩
theorem et_or0 {a b : Bool} (h1 : EvT tt Γ Γ1 a) (h2 : EvT tu Γ1 Γ1 b) : EvT (tOr tt tu) Γ Γ1 (a || b) := et_or h1 (fun e => by rw [e]; exact h2) fun e => ⟨by rw [e]; rfl, rfl⟩
theorem et_not {a : Bool} (h : EvT tt Γ Γ1 a) : EvT (tNot tt) Γ Γ1 (!a) := fun A σ H B F Q q => h A σ H B F _ fun H' B' F' s => q H' B' F' s
theorem ev_and {a b : Bool} (h1 : EvX rBool ta Γ Γ1 a) (h2 : a = true → EvX rBool tb Γ1 Γ2 b) (h3 : a = false → b = false ∧ Γ1 = Γ2) : EvX rBool (tAndV ta tb) Γ Γ2 b := fun A σ H B F Q q => h1 A σ H B F _ fun v H' B' F' s k => ⟨a, k, by
  cases a with
  | true => exact h2 rfl A σ H' B' F' Q fun v2 H2 B2 F2 s2 k2 => q v2 H2 B2 F2 (s.trans s2) k2
  | false => obtain ⟨rfl, rfl⟩ := h3 rfl; exact q _ H' B' F' s rfl⟩
theorem ev_or {a b : Bool} (h1 : EvX rBool ta Γ Γ1 a) (h2 : a = false → EvX rBool tb Γ1 Γ2 b) (h3 : a = true → b = true ∧ Γ1 = Γ2) : EvX rBool (tOrV ta tb) Γ Γ2 b := fun A σ H B F Q q => h1 A σ H B F _ fun v H' B' F' s k => ⟨a, k, by
  cases a with
  | false => exact h2 rfl A σ H' B' F' Q fun v2 H2 B2 F2 s2 k2 => q v2 H2 B2 F2 (s.trans s2) k2
  | true => obtain ⟨rfl, rfl⟩ := h3 rfl; exact q _ H' B' F' s rfl⟩
theorem ev_and0 {a b : Bool} (h1 : EvX rBool ta Γ Γ1 a) (h2 : EvX rBool tb Γ1 Γ1 b) : EvX rBool (tAndV ta tb) Γ Γ1 (a && b) := ev_and h1 (fun e => by rw [e]; exact h2) fun e => ⟨by rw [e]; rfl, rfl⟩
theorem ev_or0 {a b : Bool} (h1 : EvX rBool ta Γ Γ1 a) (h2 : EvX rBool tb Γ1 Γ1 b) : EvX rBool (tOrV ta tb) Γ Γ1 (a || b) := ev_or h1 (fun e => by rw [e]; exact h2) fun e => ⟨by rw [e]; rfl, rfl⟩
theorem ev_not {a : Bool} (h : EvX rBool ta Γ Γ1 a) : EvX rBool (tNotV ta) Γ Γ1 (!a) := fun A σ H B F Q q => h A σ H B F _ fun v H' B' F' s k => ⟨a, k, q _ H' B' F' s rfl⟩
theorem ev_if {b : Bool} (h : EvT tt Γ Γ1 b) (h1 : b = true → EvX r ta Γ1 Γ2 a) (h2 : b = false → EvX r tb Γ1 Γ2 a) : EvX r (tIf tt ta tb) Γ Γ2 a := fun A σ H B F Q q => h A σ H B F _ fun H' B' F' s => by
  cases b with
  | true => exact h1 rfl A σ H' B' F' Q fun v H2 B2 F2 s2 k => q v H2 B2 F2 (s.trans s2) k
  | false => exact h2 rfl A σ H' B' F' Q fun v H2 B2 F2 s2 k => q v H2 B2 F2 (s.trans s2) k
/-- two comparisons -/
theorem ev_chain {R R' : R2} {b1 b2 : Bool} {tc : TE} (ha : EvX ra ta Γ Γ1 x) (hb : EvX rb tb Γ1 Γ2 y) (hc : b1 = true → EvX rc tc Γ2 Γ2 z)
    (h1 : ∀ (H B : Hp) (u v : V), Same B H → ra.rel B u x → rb.rel B v y → ∀ Q : VK, Q (.bl b1) H → R u v H Q) (h2 : b1 = true → ∀ (H B : Hp) (u v : V), Same B H → rb.rel B u y → rc.rel B v z → ∀ Q : VK, Q (.bl b2) H → R' u v H Q) :
    EvX rBool (tChain R R' ta tb tc) Γ Γ2 (b1 && b2) := fun A σ H B F Q q => ha A σ H B F _ fun u H1 B1 F1 s1 k1 => hb A σ H1 B1 F1 _ fun v H2 B2 F2 s2 k2 => h1 H2 B2 u v F2.bh (ra.mono s2 k1) k2 _ ⟨b1, rfl, by
      cases b1 with
      | false => exact q _ H2 B2 F2 (s1.trans s2) rfl
      | true => exact hc rfl A σ H2 B2 F2 _ fun w H3 B3 F3 s3 k3 => h2 rfl H3 B3 v w F3.bh (rb.mono s3 k2) k3 Q (q _ H3 B3 F3 ((s1.trans s2).trans s3) rfl)⟩
/-! ### arguments, displays -/
theorem ew_0 : EvW w0 tNil Γ Γ () := fun A σ H B F Q q => q _ H B F (Same.refl _) rfl
theorem ew_1 (h : EvX r ta Γ Γ1 a) : EvW (w1 r) (tCons ta tNil) Γ Γ1 a := fun A σ H B F Q q => h A σ H B F _ fun v H' B' F' s k => q _ H' B' F' s ⟨v, rfl, k⟩
theorem ew_C {w : Rw β} {tr : TA} (h : EvX r ta Γ Γ1 a) (hr : EvW w tr Γ1 Γ2 y) : EvW (wC r w) (tCons ta tr) Γ Γ2 (a, y) := fun A σ H B F Q q =>
  h A σ H B F _ fun v H' B' F' s k => hr A σ H' B' F' _ fun vs H2 B2 F2 s2 k2 => q _ H2 B2 F2 (s.trans s2) ⟨v, vs, rfl, r.mono s2 k, k2⟩
theorem eh_0 : EvH r tNil Γ Γ [] := fun A σ H B F Q q => q _ H B F (Same.refl _) .nil
theorem eh_C {tr : TA} {xs : List α} (h : EvX r ta Γ Γ1 a) (hr : EvH r tr Γ1 Γ2 xs) : EvH r (tCons ta tr) Γ Γ2 (a :: xs) := fun A σ H B F Q q =>
  h A σ H B F _ fun v H' B' F' s k => hr A σ H' B' F' _ fun vs H2 B2 F2 s2 k2 => q _ H2 B2 F2 (s.trans s2) (.cons (r.mono s2 k) k2)
theorem ec_fresh {H B : Hp} {A : Amb} {σ : L2.St} {p : Addr} {o : HO} (F : Frm A σ H B Γ) (hp : H p = none) (ho : szO o) {Q : VK} (q : ∀ p o H' B', Frm (A.add p o) σ H' B' Γ → A.H0 p = none → Same B B' → c.ok B' o a → Q (.ref p) H') (k : c.ok B o a) : Q (.ref p) (upd H p o) :=
  q p o _ B (F.fresh hp ho) (F.H0none hp) (Same.refl _) k
/-- how many there are -/
class WLen {α : Type} (w : Rw α) (n : outParam Nat) : Prop where
  len : ∀ {H vs a}, w.rel H vs a → vs.length = n
instance : WLen w0 0 := ⟨fun h => by rw [show _ = ([] : List V) from h]; rfl⟩
instance {α : Type} (r : Rp α) : WLen (w1 r) 1 := ⟨fun ⟨v, e, _⟩ => by rw [e]; rfl⟩
instance {α β : Type} (r : Rp α) (w : Rw β) {n : Nat} [i : WLen w n] : WLen (wC r w) (n + 1) := ⟨fun ⟨v, t, e, _, k⟩ => by rw [e, List.length_cons, i.len k]⟩
theorem ec_tup {n : Nat} [i : WLen w n] {ta : TA} (h : EvW w ta Γ Γ1 a) (hn : n ≤ 1000 := by decide) : EvC (cTup w) (tTup ta) Γ Γ1 a := fun A σ H B F Q q => h A σ H B F _ fun vs H' B' F' s k => by
  have hl : vs.length ≤ sizeLine := by rw [i.len k]; exact Nat.le_of_lt (small1000 hn)
  exact ⟨hl, fun p hp => ec_fresh (c := cTup w) (o := .tup vs) F' hp hl (fun p o H2 B2 F2 n2 s2 k2 => q p o H2 B2 F2 n2 (s.trans s2) k2) ⟨vs, rfl, k⟩⟩
theorem ec_hls {n : Nat} [i : WLen w n] {ta : TA} (h : EvW w ta Γ Γ1 a) (hn : n ≤ 1000 := by decide) : EvC (cHls w) (tLst ta) Γ Γ1 a := fun A σ H B F Q q => h A σ H B F _ fun vs H' B' F' s k => by
  have hl : vs.length ≤ sizeLine := by rw [i.len k]; exact Nat.le_of_lt (small1000 hn)
  exact ⟨hl, fun p hp => ec_fresh (c := cHls w) (o := .lst vs) F' hp hl (fun p o H2 B2 F2 n2 s2 k2 => q p o H2 B2 F2 n2 (s.trans s2) k2) ⟨vs, rfl, k⟩⟩
theorem ec_lst {ta : TA} {xs : List α} (h : EvH r ta Γ Γ1 xs) (hn : xs.length ≤ 1000 := by decide) : EvC (cLst r) (tLst ta) Γ Γ1 xs := fun A σ H B F Q q => h A σ H B F _ fun vs H' B' F' s k => by
  have hl : vs.length ≤ sizeLine := by rw [Paired.len k]; exact Nat.le_of_lt (small1000 hn)
  exact ⟨hl, fun p hp => ec_fresh (c := cLst r) (o := .lst vs) F' hp hl (fun p o H2 B2 F2 n2 s2 k2 => q p o H2 B2 F2 n2 (s.trans s2) k2) ⟨vs, rfl, k⟩⟩
theorem ec_tpl {ta : TA} {xs : List α} (h : EvH r ta Γ Γ1 xs) (hn : xs.length ≤ 1000 := by decide) : EvC (cTpl r) (tTup ta) Γ Γ1 xs := fun A σ H B F Q q => h A σ H B F _ fun vs H' B' F' s k => by
  have hl : vs.length ≤ sizeLine := by rw [Paired.len k]; exact Nat.le_of_lt (small1000 hn)
  exact ⟨hl, fun p hp => ec_fresh (c := cTpl r) (o := .tup vs) F' hp hl (fun p o H2 B2 F2 n2 s2 k2 => q p o H2 B2 F2 n2 (s.trans s2) k2) ⟨vs, rfl, k⟩⟩
/-- a new object that nobody will change -/
theorem ev_new (h : EvC c te Γ Γ1 a) : EvX (rOb c) te Γ Γ1 a := fun A σ H B F Q q => h A σ H B F Q fun p o H' B' F' n s k => by
  have hm : ¬ A.m p := fun m => F.mh p m n
  have hB : B' p = none := F'.out p (by show upd A.H0 p o p ≠ none; rw [upd_same]; simp) (by
    cases e : A.B0 p with
    | none => exact e
    | some u => exact absurd (F.sub p u e) (by rw [n]; simp))
  have s' : Same B' (upd B' p o) := fun b u e => by rw [upd_ne (ne_of_none e hB)]; exact e
  exact q _ H' (upd B' p o) (F'.adopt n F.sub F.mh) (s.trans s') ⟨p, o, rfl, upd_same, c.mono s' k⟩
/-! ### items -/
theorem atI_rel {B : Hp} {vs : List V} {xs : List α} {i : Int} (h : Paired (r.rel B) vs xs) (e : atI xs i = some a) : ∃ v, atI vs i = some v ∧ r.rel B v a := by
  unfold atI at e ⊢
  rw [Paired.len h]
  cases q : ixN xs.length i with
  | none => rw [q] at e; cases e
  | some j =>
    rw [q] at e
    exact Paired.getR h e
theorem ob_lst {B H : Hp} {u : V} {xs : List α} (s : Same B H) (h : (rLst r).rel B u xs) : ∃ p vs, u = .ref p ∧ H p = some (.lst vs) ∧ Paired (r.rel B) vs xs := by
  obtain ⟨p, o, e, hp, vs, rfl, k⟩ := h
  exact ⟨p, vs, e, s _ _ hp, k⟩
theorem ob_tpl {B H : Hp} {u : V} {xs : List α} (s : Same B H) (h : (rTpl r).rel B u xs) : ∃ p vs, u = .ref p ∧ H p = some (.tup vs) ∧ Paired (r.rel B) vs xs := by
  obtain ⟨p, o, e, hp, vs, rfl, k⟩ := h
  exact ⟨p, vs, e, s _ _ hp, k⟩
theorem ob_hls {B H : Hp} {u : V} (s : Same B H) (h : (rHls w).rel B u a) : ∃ p vs, u = .ref p ∧ H p = some (.lst vs) ∧ w.rel B vs a := by
  obtain ⟨p, o, e, hp, vs, rfl, k⟩ := h
  exact ⟨p, vs, e, s _ _ hp, k⟩
theorem ob_tup {B H : Hp} {u : V} (s : Same B H) (h : (rTup w).rel B u a) : ∃ p vs, u = .ref p ∧ H p = some (.tup vs) ∧ w.rel B vs a := by
  obtain ⟨p, o, e, hp, vs, rfl, k⟩ := h
  exact ⟨p, vs, e, s _ _ hp, k⟩
theorem ev_ixL {xs : List α} {i : Int} (ha : EvX (rLst r) ta Γ Γ1 xs) (hb : EvX rInt tb Γ1 Γ2 i) (e : atI xs i = some a) : EvX r (tOp (rIxL K) ta tb) Γ Γ2 a :=
  ev_op ha hb fun H B u v s ku kv Q q => by
    obtain ⟨p, vs, rfl, hp, k⟩ := ob_lst s ku
    obtain ⟨o, ho, ko⟩ := atI_rel k e
    exact ⟨p, vs, i, o, rfl, kv, SqL.of hp, ho, q o ko⟩
theorem ev_ixT {xs : List α} {i : Int} (ha : EvX (rTpl r) ta Γ Γ1 xs) (hb : EvX rInt tb Γ1 Γ2 i) (e : atI xs i = some a) : EvX r (tOp (rIxT K) ta tb) Γ Γ2 a :=
  ev_op ha hb fun H B u v s ku kv Q q => by
    obtain ⟨p, vs, rfl, hp, k⟩ := ob_tpl s ku
    obtain ⟨o, ho, ko⟩ := atI_rel k e
    exact ⟨p, vs, i, o, rfl, kv, SqT.of hp, ho, q o ko⟩
/-- the k-th of a row -/
def Acc {α β : Type} (w : Rw α) (k : Nat) (r : Rp β) (f : α → β) : Prop := ∀ H vs a, w.rel H vs a → ∃ v, vs[k]? = some v ∧ r.rel H v (f a)
theorem acc1 : Acc (w1 r) 0 r (fun a => a) := fun H vs a ⟨v, e, k⟩ => ⟨v, by rw [e]; rfl, k⟩
theorem acc0 {w : Rw β} : Acc (wC r w) 0 r (·.1) := fun H vs a ⟨v, t, e, k, _⟩ => ⟨v, by rw [e]; rfl, k⟩
theorem accS {w : Rw β} {k : Nat} {f : β → γ} (h : Acc w k rc f) : Acc (wC r w) (k + 1) rc (fun a => f a.2) := fun H vs a ⟨v, t, e, _, q⟩ => by
  obtain ⟨u, h1, h2⟩ := h H t a.2 q
  exact ⟨u, by rw [e]; simpa using h1, h2⟩
theorem ev_ixR {k : Nat} {f : α → β} (ha : EvX (rHls w) ta Γ Γ1 a) (h : Acc w k rb f) : EvX rb (tOp (rIxL K) ta (tC (.int (k : Int)))) Γ Γ1 (f a) :=
  ev_op ha (ev_int (Γ := Γ1)) fun H B u v s ku kv Q q => by
    obtain ⟨p, vs, rfl, hp, g⟩ := ob_hls s ku
    obtain ⟨o, ho, ko⟩ := h B vs a g
    exact ⟨p, vs, (k : Int), o, rfl, kv, SqL.of hp, atI_nat ho, q o ko⟩
theorem ev_ixU {k : Nat} {f : α → β} (ha : EvX (rTup w) ta Γ Γ1 a) (h : Acc w k rb f) : EvX rb (tOp (rIxT K) ta (tC (.int (k : Int)))) Γ Γ1 (f a) :=
  ev_op ha (ev_int (Γ := Γ1)) fun H B u v s ku kv Q q => by
    obtain ⟨p, vs, rfl, hp, g⟩ := ob_tup s ku
    obtain ⟨o, ho, ko⟩ := h B vs a g
    exact ⟨p, vs, (k : Int), o, rfl, kv, SqT.of hp, atI_nat ho, q o ko⟩
end
end G

set_option maxHeartbeats 4000000
/-! # G: statements, calls, loops -/
namespace G
open PySem PySem.Spec PyProof.Rows L2

/-- from what is known at Γ the wish P holds -/
def Nx (A : Amb) (P : L2.St → Hp → Prop) (Γ : List Sl) : Prop := ∀ σ H B, Frm A σ H B Γ → P σ H
/-- what is handed back -/
def Rt {ρ : Type} (A : Amb) (ψ : ρ → Hp → Hp → V → Prop) (b : ρ) (rt : VK) : Prop := ∀ H B v, Post A H B → ψ b H B v → rt v H
def psi {β : Type} (r : Rp β) (b : β) (_ B : Hp) (v : V) : Prop := r.rel B v b
def psiS {β γ : Type} (p : Addr) (c : Cl γ) (r : Rp β) (b : β × γ) (H B : Hp) (v : V) : Prop := r.rel B v b.1 ∧ ∃ o, H p = some o ∧ c.ok B o b.2
def Fin (A : Amb) (M : List Sl) : L2.St → Hp → Prop := fun σ H => ∃ B, Frm A σ H B M

section
variable {α β γ ρ ς : Type} {r ra : Rp α} {rb : Rp β} {c : Cl α} {cc : Cl γ} {w : Rw α} {te : TE} {tt : TT} {t u : TS} {D : Ends} {A : Amb} {Γ Γ1 Γ2 M : List Sl} {a : α} {b : β} {i : Nat} {K : PySem.W.Frag} {P : L2.St → Hp → Prop} {ψ : ρ → Hp → Hp → V → Prop}
theorem nx_seq (h : Nx A (t { D with nx := u D }) Γ) : Nx A (tSeq t u D) Γ := h
theorem nx_next (h : Nx A D.nx Γ) : Nx A (tNext D) Γ := h
theorem nx_brk (h : Nx A D.bk Γ) : Nx A (tBreak D) Γ := h
theorem nx_cont (h : Nx A D.ct Γ) : Nx A (tCont D) Γ := h
theorem nx_asg (h : EvX r te Γ Γ1 a) (k : Nx A D.nx (Γ1.set i (.imm r a))) : Nx A (tAsg te (gName i) D) Γ := fun σ H B F => h A σ H B F _ fun v H' B' F' _ q => k _ _ _ (F'.set q)
theorem nx_asgC (h : EvC c te Γ Γ1 a) (k : ∀ p, ¬ A.m p → Nx A D.nx (Γ1.set i (.cel p c a))) : Nx A (tAsg te (gName i) D) Γ := fun σ H B F => h A σ H B F _ fun p o H' B' F' n _ q =>
  k p (fun m => F.mh p m n) _ _ _ (F'.own n F.sub F.mh q)
theorem nx_if {b : Bool} (h : EvT tt Γ Γ1 b) (h1 : b = true → Nx A (t D) Γ1) (h2 : b = false → Nx A (u D) Γ1) : Nx A (tIfS tt t u D) Γ := fun σ H B F => h A σ H B F _ fun H' B' F' _ => by
  cases b with
  | true => exact h1 rfl σ H' B' F'
  | false => exact h2 rfl σ H' B' F'
theorem nx_drop (h : EvX r te Γ Γ1 a) (k : Nx A D.nx Γ1) : Nx A (tDrop te D) Γ := fun σ H B F => h A σ H B F _ fun v H' B' F' _ _ => k _ _ _ F'
theorem nx_ret {b : α} (h : EvX r te Γ Γ1 a) (e : some a = some b) (k : Rt A (psi r) b D.rt) : Nx A (tRet te D) Γ := fun σ H B F => h A σ H B F _ fun v H' B' F' _ q => k H' B' v F'.post (by cases e; exact q)
theorem nx_retS {p : Addr} {st : γ} {b : α × γ} (h : EvX r te Γ Γ1 a) (hi : Γ1[i]? = some (.cel p cc st)) (e : some (a, st) = some b) (k : Rt A (psiS p cc r) b D.rt) : Nx A (tRet te D) Γ := fun σ H B F => h A σ H B F _ fun v H' B' F' _ q => by
  obtain ⟨_, _, _, o, ho, ko⟩ := F'.sl i _ hi
  exact k H' B' v F'.post (by cases e; exact ⟨q, o, ho, ko⟩)
theorem nx_cut (M : List Sl) (h : Nx A (t { D with nx := Fin A M }) Γ) (k : Nx A (u D) M) : Nx A (Evl.tCut t u D) Γ := fun σ H B F => ⟨Fin A M, h σ H B F, fun σ' H' ⟨B', F'⟩ => k σ' H' B' F'⟩
theorem nx_fin : Nx A (Fin A M) M := fun σ H B F => ⟨B, F⟩
theorem nx_forget (i : Nat) (h : Nx A P (Γ.set i .no)) : Nx A P Γ := fun σ H B F => h σ H B (F.forget i)
theorem nx_eq (e : Γ = Γ1) (h : Nx A P Γ1) : Nx A P Γ := e ▸ h
/-- the frame's own object is changed no more -/
theorem Frm.freeze {σ : L2.St} {H B : Hp} {p : Addr} (F : Frm A σ H B Γ) (hp : ¬ A.m p) (e : Γ[i]? = some (.cel p c a)) : ∃ B', Same B B' ∧ Frm A σ H B' (Γ.set i (.imm (rOb c) a)) := by
  have hh := F.hot e (p := p) rfl
  obtain ⟨e1, n, m, o, ho, k⟩ := F.sl i _ e
  have m0 : A.H0 p = none := m.resolve_right hp
  have bb : Same B (upd B p o) := fun b u q => by rw [upd_ne (ne_of_none q n)]; exact q
  refine ⟨upd B p o, bb, ⟨fun b u q => ?_, fun b u q => bb b u (F.b0 b u q), F.keep, fun b nb z => ?_, F.alive, F.sub, F.mh, A.up _ _ bb F.ph, F.sz⟩, by rw [List.length_set]; exact F.len, fun j s ej => ?_, fun j l q ej ek => ?_⟩
  · by_cases hb : b = p
    · subst hb; rw [upd_same] at q; cases q; exact ho
    · rw [upd_ne hb] at q; exact F.bh b u q
  · have hb : b ≠ p := fun q => nb (by rw [q]; exact m0)
    rw [upd_ne hb]; exact F.out b nb z
  · rcases getset ej with ⟨rfl, rfl, hl⟩ | ⟨ne, ej⟩
    · exact ⟨.ref p, e1, p, o, rfl, upd_same, c.mono bb k⟩
    · refine slok_mono (F.sl j s ej) bb (fun _ _ _ z => z) fun q hq => ?_
      have hq' : q ≠ p := fun z => ne (F.ds i j p (by rw [e]; rfl) (by rw [ej, ← z]; exact hq))
      rw [upd_ne hq']; exact (F.hot ej hq).1
  · have lo : ∀ {j : Nat}, ((Γ.set i (.imm (rOb c) a))[j]?.bind celAt) = some q → (Γ[j]?.bind celAt) = some q := fun {j} ej => by
      cases e2 : (Γ.set i (.imm (rOb c) a))[j]? with
      | none => rw [e2] at ej; cases ej
      | some s =>
        rw [e2] at ej
        rcases getset e2 with ⟨rfl, rfl, hl⟩ | ⟨ne, e2⟩
        · cases ej
        · rw [e2]; exact ej
    exact F.ds j l q (lo ej) (lo ek)
theorem nx_freeze {p : Addr} (i : Nat) (hp : ¬ A.m p) (e : Γ[i]? = some (.cel p c a)) (h : Nx A P (Γ.set i (.imm (rOb c) a))) : Nx A P Γ := fun σ H B F => by
  obtain ⟨B', _, F'⟩ := F.freeze hp e
  exact h σ H B' F'
end

/-! ### calls -/
def amb0 (B H : Hp) : Amb := ⟨B, H, fun _ => False, fun _ => True, fun _ _ _ _ => trivial⟩
def ambS (B H : Hp) (p : Addr) : Amb := ⟨B, H, fun q => q = p, fun _ => True, fun _ _ _ _ => trivial⟩
def SpP {α β : Type} (w : Rw α) (r : Rp β) (m : α → Option β) : Sp := fun vs H Q _ => ∃ B a b, Sz H ∧ Same B H ∧ w.rel B vs a ∧ m a = some b ∧ Rt (amb0 B H) (psi r) b Q
def SpS {α β γ : Type} (c : Cl γ) (w : Rw α) (r : Rp β) (m : γ → α → Option (β × γ)) : Sp := fun vs H Q _ => ∃ p vs' B o st a b, vs = .ref p :: vs' ∧ Sz H ∧ Same B H ∧ B p = none ∧ H p = some o ∧ c.ok B o st ∧ w.rel B vs' a ∧ m st a = some b ∧ Rt (ambS B H p) (psiS p c r) b Q
section
variable {α β γ : Type} {r : Rp β} {w : Rw α} {cc : Cl γ} {A : Amb} {σ : L2.St} {H H' B B' : Hp} {Γ Γ1 : List Sl} {i : Nat} {p : Addr} {st st' : γ}
theorem Frm.after (F : Frm A σ H B Γ) (P : Post (amb0 B H) H' B') : Frm A σ H' B' Γ where
  bh := P.bh
  b0 := fun p o e => P.b0 p o (F.b0 p o e)
  keep := fun p o m e => P.keep p o (fun z => z) (F.keep p o m e)
  out := fun p n z => P.out p (F.alive p n) (F.out p n z)
  alive := fun p n => P.alive p (F.alive p n)
  sub := F.sub
  mh := F.mh
  ph := A.up _ _ P.b0 F.ph
  sz := P.sz
  len := F.len
  sl := fun i s e => slok_mono (F.sl i s e) P.b0 (fun p o _ ho => P.keep p o (fun z => z) ho) fun p hp => P.out p (F.hot e hp).2.1 (F.hot e hp).1
  ds := F.ds
theorem Frm.afterS (F : Frm A σ H B Γ) (hi : Γ[i]? = some (.cel p cc st)) (P : Post (ambS B H p) H' B') (k : ∃ o, H' p = some o ∧ cc.ok B' o st') : Frm A σ H' B' (Γ.set i (.cel p cc st')) := by
  have hh := F.hot hi (p := p) rfl
  obtain ⟨e1, n, m, _⟩ := F.sl i _ hi
  refine ⟨⟨P.bh, fun p o e => P.b0 p o (F.b0 p o e), fun q o nm e => P.keep q o (fun z => ?_) (F.keep q o nm e), fun p n z => P.out p (F.alive p n) (F.out p n z), fun p n => P.alive p (F.alive p n), F.sub, F.mh, A.up _ _ P.b0 F.ph, P.sz⟩, by rw [List.length_set]; exact F.len, fun j s ej => ?_, fun j l q ej ek => ?_⟩
  · have z' : q = p := z
    subst z'
    rcases m with m | m
    · rw [m] at e; cases e
    · exact nm m
  · rcases getset ej with ⟨rfl, rfl, hl⟩ | ⟨ne, ej⟩
    · exact ⟨e1, P.out p hh.2.1 hh.1, m, k⟩
    · exact slok_mono (F.sl j s ej) P.b0 (fun q o hq ho => P.keep q o (fun (z : q = p) => ne (F.ds i j p (by rw [hi]; rfl) (by rw [ej, ← z]; exact hq))) ho) fun q hq => P.out q (F.hot ej hq).2.1 (F.hot ej hq).1
  · have lo : ∀ {j : Nat}, ((Γ.set i (.cel p cc st'))[j]?.bind celAt) = some q → (Γ[j]?.bind celAt) = some q := fun {j} ej => by
      cases e2 : (Γ.set i (.cel p cc st'))[j]? with
      | none => rw [e2] at ej; cases ej
      | some s =>
        rw [e2] at ej
        rcases getset e2 with ⟨rfl, rfl, hl⟩ | ⟨ne, e2⟩
        · rw [hi]; exact ej
        · rw [e2]; exact ej
    exact F.ds j l q (lo ej) (lo ek)
theorem ev_call {m : α → Option β} {a : α} {b : β} {E : XK} {ta : TA} (h : EvW w ta Γ Γ1 a) (e : m a = some b) : EvX r (tCall (SpP w r m) [] E ta) Γ Γ1 b := fun A σ H B F Q q => h A σ H B F _ fun vs H1 B1 F1 s1 k1 => by
  rw [List.append_nil]
  exact ⟨B1, a, b, F1.sz, F1.bh, k1, e, fun H2 B2 v P k => q v H2 B2 (F1.after P) (s1.trans P.b0) k⟩
theorem ev_callS {m : γ → α → Option (β × γ)} {a : α} {b : β} {E : XK} {tr : TA} (h : EvW w tr Γ Γ1 a) (hi0 : Γ[i]?.bind celAt = some p) (hi : Γ1[i]? = some (.cel p cc st)) (e : m st a = some (b, st')) : EvX r (tCall (SpS cc w r m) [] E (tCons (tVar i) tr)) Γ (Γ1.set i (.cel p cc st')) b :=
  fun A σ H B F Q q => by
    have hv : σ[i]? = some (some (V.ref p)) := by
      cases e : Γ[i]? with
      | none => rw [e] at hi0; cases hi0
      | some s =>
        rw [e] at hi0
        have h := F.sl i s e
        cases s with
        | no => cases hi0
        | imm r a => cases hi0
        | cel q c a => cases hi0; exact h.1
    refine ⟨_, hv, ?_⟩
    refine h A σ H B F _ fun vs H1 B1 F1 s1 k1 => ?_
    show SpS cc w r m ((V.ref p :: vs) ++ []) H1 Q E
    rw [List.append_nil]
    obtain ⟨_, n, m, o, ho, ko⟩ := F1.sl i _ hi
    exact ⟨p, vs, B1, o, st, a, (b, st'), rfl, F1.sz, F1.bh, n, ho, ko, k1, e, fun H2 B2 v P k => q v H2 B2 (F1.afterS hi P k.2) (s1.trans P.b0) k.1⟩
end

/-! ### a def -/
class WSl {α : Type} (w : Rw α) (f : outParam (α → List Sl)) : Prop where
  ok : ∀ {B vs a}, w.rel B vs a → (f a).length = vs.length ∧ ∀ (i : Nat) (s : Sl), (f a)[i]? = some s → celAt s = none ∧ ∀ (A : Amb) (σ : L2.St) (H : Hp), (∀ v, vs[i]? = some v → σ[i]? = some (some v)) → SlOk A σ H B i s
instance : WSl w0 (fun _ => []) := ⟨fun h => ⟨by rw [show _ = ([] : List V) from h]; rfl, fun i s e => by simp at e⟩⟩
instance {α : Type} (r : Rp α) : WSl (w1 r) (fun a => [.imm r a]) := ⟨fun {B vs a} ⟨v, e, k⟩ => ⟨by rw [e]; rfl, fun i s q => by
  cases i with
  | zero => cases q; exact ⟨rfl, fun A σ H h => ⟨v, h v (by rw [e]; rfl), k⟩⟩
  | succ i => simp at q⟩⟩
theorem slok_shift {A : Amb} {σ σ' : L2.St} {H B : Hp} {i j : Nat} {s : Sl} (h : SlOk A σ H B i s) (e : σ[i]? = σ'[j]?) : SlOk A σ' H B j s := by
  cases s with
  | no => trivial
  | imm r a => obtain ⟨v, q, k⟩ := h; exact ⟨v, by rw [← e]; exact q, k⟩
  | cel p c a => obtain ⟨q, k⟩ := h; exact ⟨by rw [← e]; exact q, k⟩
instance {α β : Type} (r : Rp α) (w : Rw β) {f : β → List Sl} [k : WSl w f] : WSl (wC r w) (fun a => .imm r a.1 :: f a.2) := ⟨fun {B vs a} ⟨v, t, e, k1, k2⟩ => by
  obtain ⟨hl, hs⟩ := k.ok k2
  refine ⟨by rw [e, List.length_cons, List.length_cons, hl], fun i s q => ?_⟩
  cases i with
  | zero => cases q; exact ⟨rfl, fun A σ H h => ⟨v, h v (by rw [e]; rfl), k1⟩⟩
  | succ i =>
    obtain ⟨h1, h2⟩ := hs i s (by simpa using q)
    refine ⟨h1, fun A σ H h => ?_⟩
    have g := h2 A σ.tail H (fun u hu => by
      have := h u (by rw [e]; simpa using hu)
      cases σ with
      | nil => simp at this
      | cons x y => simpa using this)
    exact slok_shift g (by cases σ <;> simp)⟩
theorem start_get {N : List Str} {vs : List V} {i : Nat} {v : V} (e : vs[i]? = some v) : (L2.start N vs)[i]? = some (some v) := by
  unfold L2.start
  have hl : i < (vs.map some).length := by rw [List.length_map]; exact (List.getElem?_eq_some_iff.mp e).1
  rw [List.getElem?_append_left hl, List.getElem?_map, e]; rfl
theorem start_len {N : List Str} {vs : List V} (h : vs.length ≤ N.length) : (L2.start N vs).length = N.length := by
  unfold L2.start
  rw [List.length_append, List.length_map, List.length_replicate]; omega
section
variable {α β γ : Type} {r : Rp β} {w : Rw α} {cc : Cl γ}
theorem frm_start {f : α → List Sl} [k : WSl w f] {B H : Hp} {vs : List V} {a : α} {N : List Str} {n : Nat} (z : Sz H) (s : Same B H) (h : w.rel B vs a) (hN : N.length = vs.length + n) : Frm (amb0 B H) (L2.start N vs) H B (f a ++ List.replicate n .no) := by
  obtain ⟨hl, hs⟩ := k.ok h
  have sp : ∀ (i : Nat) (s : Sl), (f a ++ List.replicate n .no)[i]? = some s → (f a)[i]? = some s ∨ s = .no := fun i s e => by
    by_cases hi : i < (f a).length
    · rw [List.getElem?_append_left hi] at e; exact .inl e
    · rw [List.getElem?_append_right (by omega), List.getElem?_replicate] at e
      split at e
      · cases e; exact .inr rfl
      · cases e
  refine ⟨⟨s, Same.refl _, fun _ _ _ e => e, fun _ _ e => e, fun _ n => n, s, fun _ z => z.elim, trivial, z⟩, ?_, fun i s e => ?_, fun i j p ei ej => ?_⟩
  · rw [start_len (by omega), List.length_append, List.length_replicate, hl]; exact hN
  · rcases sp i s e with e | rfl
    · exact (hs i s e).2 _ _ _ fun v hv => start_get hv
    · trivial
  · cases e : (f a ++ List.replicate n .no)[i]? with
    | none => rw [e] at ei; cases ei
    | some s =>
      rw [e] at ei
      rcases sp i s e with e | rfl
      · have ei' : celAt s = some p := ei
        rw [(hs i s e).1] at ei'; cases ei'
      · cases ei
theorem frm_startS {f : α → List Sl} [k : WSl w f] {B H : Hp} {vs : List V} {a : α} {N : List Str} {n : Nat} {p : Addr} {o : HO} {st : γ} (z : Sz H) (s : Same B H) (hB : B p = none) (hp : H p = some o) (ko : cc.ok B o st) (h : w.rel B vs a) (hN : N.length = (vs.length + 1) + n) :
    Frm (ambS B H p) (L2.start N (.ref p :: vs)) H B (.cel p cc st :: (f a ++ List.replicate n .no)) := by
  obtain ⟨hl, hs⟩ := k.ok h
  have sp : ∀ (i : Nat) (s : Sl), (f a ++ List.replicate n .no)[i]? = some s → (f a)[i]? = some s ∨ s = .no := fun i s e => by
    by_cases hi : i < (f a).length
    · rw [List.getElem?_append_left hi] at e; exact .inl e
    · rw [List.getElem?_append_right (by omega), List.getElem?_replicate] at e
      split at e
      · cases e; exact .inr rfl
      · cases e
  have nc : ∀ (i : Nat) (q : Addr), ((f a ++ List.replicate n .no)[i]?.bind celAt) ≠ some q := fun i q ei => by
    cases e : (f a ++ List.replicate n .no)[i]? with
    | none => rw [e] at ei; cases ei
    | some s =>
      rw [e] at ei
      rcases sp i s e with e | rfl
      · have ei' : celAt s = some q := ei
        rw [(hs i s e).1] at ei'; cases ei'
      · cases ei
  refine ⟨⟨s, Same.refl _, fun _ _ _ e => e, fun _ _ e => e, fun _ n => n, s, fun q (z : q = p) => by show H q ≠ none; rw [z, hp]; simp, trivial, z⟩, ?_, fun i s e => ?_, fun i j q ei ej => ?_⟩
  · rw [start_len (by rw [List.length_cons]; omega), List.length_cons, List.length_append, List.length_replicate, hl, hN]; omega
  · cases i with
    | zero => cases e; exact ⟨start_get rfl, hB, .inr rfl, o, hp, ko⟩
    | succ i =>
      rcases sp i s (by simpa using e) with e | rfl
      · have hN' : ∃ N', (L2.start N (.ref p :: vs)) = some (.ref p) :: L2.start N' vs := ⟨N.drop 1, by
          unfold L2.start
          rw [List.map_cons, List.cons_append, List.length_cons, List.length_drop]
          congr 3; omega⟩
        obtain ⟨N', e'⟩ := hN'
        exact slok_shift ((hs i s e).2 _ (L2.start N' vs) H fun v hv => start_get hv) (by rw [e']; simp)
      · trivial
  · cases i with
    | zero => cases j with
      | zero => rfl
      | succ j => exact absurd (by simpa using ej) (nc j q)
    | succ i => exact absurd (by simpa using ei) (nc i q)
end
end G

set_option maxHeartbeats 4000000
/-! # G: loops -/
namespace G
open PySem PySem.Spec PyProof.Rows L2

/-! ### the mirrors of loops -/
inductive Step (ρ ς : Type) where
  | nx (s : ς)
  | brk (s : ς)
  | ret (b : ρ)
def forL {α ρ ς : Type} (f : α → ς → Option (Step ρ ς)) : List α → ς → Option (Step ρ ς)
  | [], s => some (.nx s)
  | x :: xs, s => match f x s with
    | none => none
    | some (.nx s') => forL f xs s'
    | some (.brk s') => some (.nx s')
    | some (.ret b) => some (.ret b)
def whL {ρ ς : Type} (c : ς → Option Bool) (f : ς → Option (Step ρ ς)) : Nat → ς → Option (Step ρ ς)
  | 0, _ => none
  | n + 1, s => match c s with
    | none => none
    | some false => some (.nx s)
    | some true => match f s with
      | none => none
      | some (.nx s') => whL c f n s'
      | some (.brk s') => some (.nx s')
      | some (.ret b) => some (.ret b)
def compL {α β : Type} (f : α → Option (Option β)) : List α → Option (List β)
  | [] => some []
  | x :: xs => match f x with
    | none => none
    | some none => compL f xs
    | some (some y) => match compL f xs with
      | none => none
      | some ys => some (y :: ys)
def compS {α β ς : Type} (f : α → ς → Option (Option β × ς)) : List α → ς → Option (List β × ς)
  | [], s => some ([], s)
  | x :: xs, s => match f x s with
    | none => none
    | some (none, s') => compS f xs s'
    | some (some y, s') => match compS f xs s' with
      | none => none
      | some (ys, s'') => some (y :: ys, s'')

/-! ### what is walked -/
structure Yl {α : Type} (Bx : Hp) (J : It) (r : Rp α) (xs : List α) : Prop where
  len : xs.length ≤ sizeLine
  stop : ∀ H B, Same Bx B → Same B H → J.stop xs.length H
  go : ∀ i H B, Same Bx B → Same B H → i < xs.length → J.go i H
  yld : ∀ (i : Nat) (x : α) H B v H', Same Bx B → Same B H → xs[i]? = some x → J.yld i H v H' → ∀ (A : Amb) (σ : L2.St) (Γ : List Sl), Frm A σ H B Γ → ∃ B', Frm A σ H' B' Γ ∧ Same B B' ∧ r.rel B' v x
def ItX {α : Type} (r : Rp α) (wi : TI) (Γ Γ' : List Sl) (xs : List α) : Prop := ∀ (A : Amb) (σ : L2.St) (H B : Hp), Frm A σ H B Γ → ∀ R : It → Hp → Prop, (∀ J H' B', Frm A σ H' B' Γ' → Same B B' → Yl B' J r xs → R J H') → wi σ H R
/-- the target of a store -/
def TgX {α : Type} (g : TG) (r : Rp α) (vs : List Nat) (Γ : List Sl) (Γf : α → List Sl) : Prop := ∀ (A : Amb) (σ : L2.St) (H B : Hp) (v : V) (x : α), Frm A σ H B Γ → r.rel B v x → ∀ Q : L2.St → Hp → Prop,
  (∀ σ', Frm A σ' H B (Γf x) → σ'.length = σ.length → (∀ k, k ∉ vs → σ'[k]? = σ[k]?) → Q σ' H) → g v σ H Q
section
variable {α β γ ρ ς : Type} {r ra : Rp α} {rb : Rp β} {te ta tb : TE} {Γ Γ1 Γ2 : List Sl} {xs : List α} {K : PySem.W.Frag}
theorem it_list (h : EvX (rLst r) te Γ Γ1 xs) : ItX r (iList K te) Γ Γ1 xs := fun A σ H B F R q => h A σ H B F _ fun v H' B' F' s k => by
  obtain ⟨p, o, rfl, hp, vs, rfl, kp⟩ := k
  refine ⟨p, rfl, ⟨vs, SqL.of (F'.bh _ _ hp)⟩, q _ H' B' F' s ⟨by rw [← Paired.len kp]; exact F'.sz _ _ (F'.bh _ _ hp), fun H2 B2 s1 s2 => ?_, fun i H2 B2 s1 s2 hi => ?_, fun i x H2 B2 v H3 s1 s2 hx hy A σ Γ F => ?_⟩⟩
  · exact ⟨vs, SqL.of (s2 _ _ (s1 _ _ hp)), by rw [Paired.len kp]; exact Nat.le_refl _⟩
  · obtain ⟨y, hy⟩ : ∃ y, vs[i]? = some y := ⟨_, List.getElem?_eq_getElem (by rw [Paired.len kp]; exact hi)⟩
    exact ⟨vs, y, SqL.of (s2 _ _ (s1 _ _ hp)), hy⟩
  · obtain ⟨rfl, hv⟩ := hy
    obtain ⟨y, hy, ky⟩ := Paired.getR kp hx
    have e := hv vs (SqL.of (s2 _ _ (s1 _ _ hp)))
    rw [hy] at e; cases e
    exact ⟨B2, F, Same.refl _, r.mono s1 ky⟩
theorem it_tpl (h : EvX (rTpl r) te Γ Γ1 xs) : ItX r (iTup K te) Γ Γ1 xs := fun A σ H B F R q => h A σ H B F _ fun v H' B' F' s k => by
  obtain ⟨p, o, rfl, hp, vs, rfl, kp⟩ := k
  refine ⟨p, rfl, ⟨vs, SqT.of (F'.bh _ _ hp)⟩, q _ H' B' F' s ⟨by rw [← Paired.len kp]; exact F'.sz _ _ (F'.bh _ _ hp), fun H2 B2 s1 s2 => ?_, fun i H2 B2 s1 s2 hi => ?_, fun i x H2 B2 v H3 s1 s2 hx hy A σ Γ F => ?_⟩⟩
  · exact ⟨vs, SqT.of (s2 _ _ (s1 _ _ hp)), by rw [Paired.len kp]; exact Nat.le_refl _⟩
  · obtain ⟨y, hy⟩ : ∃ y, vs[i]? = some y := ⟨_, List.getElem?_eq_getElem (by rw [Paired.len kp]; exact hi)⟩
    exact ⟨vs, y, SqT.of (s2 _ _ (s1 _ _ hp)), hy⟩
  · obtain ⟨rfl, hv⟩ := hy
    obtain ⟨y, hy, ky⟩ := Paired.getR kp hx
    have e := hv vs (SqT.of (s2 _ _ (s1 _ _ hp)))
    rw [hy] at e; cases e
    exact ⟨B2, F, Same.refl _, r.mono s1 ky⟩
/-- lo, lo + 1, .. -/
def rng (lo : Int) (n : Nat) : List Int := (List.range n).map fun (i : Nat) => lo + (i : Int)
theorem rng_len (lo : Int) (n : Nat) : (rng lo n).length = n := by unfold rng; rw [List.length_map, List.length_range]
theorem rng_get {lo : Int} {n i : Nat} {x : Int} (h : (rng lo n)[i]? = some x) : i < n ∧ x = lo + (i : Int) := by
  unfold rng at h
  rw [List.getElem?_map] at h
  cases e : (List.range n)[i]? with
  | none => rw [e] at h; cases h
  | some j =>
    rw [e] at h
    have hl : i < n := by have := (List.getElem?_eq_some_iff.mp e).1; rwa [List.length_range] at this
    rw [List.getElem?_range hl] at e
    cases e; cases h
    exact ⟨hl, rfl⟩
theorem yl_rng {Bx : Hp} {lo : Int} {n : Nat} (hn : n ≤ 1000000) : Yl Bx (Itr lo n) rInt (rng lo n) := ⟨by rw [rng_len]; exact Nat.le_trans hn (by decide), fun H B _ _ => by rw [rng_len]; exact Nat.le_refl _, fun i H B _ _ hi => by rw [rng_len] at hi; exact hi, fun i x H B v H' _ _ hx hy A σ Γ F => by
  obtain ⟨rfl, e⟩ := hy
  exact ⟨B, F, Same.refl _, by rw [(rng_get hx).2]; exact e⟩⟩
/-- range(j) -/
def pyRng (j : Int) : Option (List Int) := if -(2 ^ 62) ≤ j ∧ j ≤ 1000000 then some (rng 0 j.toNat) else none
def pyRng2 (i j : Int) : Option (List Int) := if (-(2 ^ 62) ≤ i ∧ i < 2 ^ 62 ∧ -(2 ^ 62) ≤ j ∧ j < 2 ^ 62) ∧ j - i ≤ 1000000 then some (rng i (j - i).toNat) else none
theorem it_rng1 {ta : TA} {j : Int} {l : List Int} (h : EvW (w1 rInt) ta Γ Γ1 j) (e : pyRng j = some l) : ItX rInt (iRng1 ta) Γ Γ1 l := fun A σ H B F R q => h A σ H B F _ fun vs H' B' F' s k => by
  obtain ⟨v, rfl, rfl⟩ := k
  unfold pyRng at e
  split at e
  · rename_i hj
    cases e
    exact ⟨j, rfl, hj.1, by omega, q _ H' B' F' s (yl_rng (by omega))⟩
  · cases e
theorem it_rng2 {ta : TA} {i j : Int} {l : List Int} (h : EvW (wC rInt (w1 rInt)) ta Γ Γ1 (i, j)) (e : pyRng2 i j = some l) : ItX rInt (iRng2 ta) Γ Γ1 l := fun A σ H B F R q => h A σ H B F _ fun vs H' B' F' s k => by
  obtain ⟨v, t, rfl, rfl, u, rfl, rfl⟩ := k
  unfold pyRng2 at e
  split at e
  · rename_i hj
    cases e
    exact ⟨i, j, rfl, hj.1, q _ H' B' F' s (yl_rng (by omega))⟩
  · cases e
/-- a text's signs -/
def sgn (z : Str) : List Str := z.cps.toList.map fun c => (⟨#[c]⟩ : Str)
def pySgn (z : Str) : Option (List Str) := if z.length ≤ 1000000 then some (sgn z) else none
theorem it_str {z : Str} {l : List Str} (h : EvX rStr te Γ Γ1 z) (e : pySgn z = some l) : ItX rStr (iStr te) Γ Γ1 l := fun A σ H B F R q => h A σ H B F _ fun v H' B' F' s k => by
  unfold pySgn at e
  split at e <;> cases e
  rename_i hz
  refine ⟨z, k, q _ H' B' F' s ⟨by unfold sgn; rw [List.length_map, Array.length_toList]; exact Nat.le_trans hz (by decide), fun H2 B2 _ _ => ?_, fun i H2 B2 _ _ hi => ?_, fun i x H2 B2 v H3 _ _ hx hy A σ Γ F => ?_⟩⟩
  · unfold sgn; rw [List.length_map]; first | exact rfl | exact Nat.le_refl _ | (simp [Its, Str.length])
  · unfold sgn at hi; rw [List.length_map] at hi; simpa [Its, Str.length] using hi
  · unfold sgn at hx
    rw [List.getElem?_map] at hx
    obtain ⟨rfl, hv⟩ := hy
    obtain ⟨c, hc, ev⟩ := hv
    have hc' : z.cps.toList[i]? = some c := by first | exact hc | simpa using hc
    rw [hc'] at hx
    cases hx
    exact ⟨B2, F, Same.refl _, ev⟩
/-! ### targets -/
theorem tg_name {j : Nat} : TgX (gName j) r [j] Γ (fun x => Γ.set j (.imm r x)) := fun A σ H B v x F k Q q => q _ (F.set k) (by rw [List.length_set]) fun n hn => by
  rw [List.getElem?_set_ne (fun e => hn (by rw [e]; exact List.mem_singleton.mpr rfl))]
/-- a tuple's parts -/
def TgW {α : Type} (g : TGs) (w : Rw α) (vs : List Nat) (Γ : List Sl) (Γf : α → List Sl) : Prop := ∀ (A : Amb) (σ : L2.St) (H B : Hp) (us : List V) (x : α), Frm A σ H B Γ → w.rel B us x → ∀ Q : L2.St → Hp → Prop,
  (∀ σ', Frm A σ' H B (Γf x) → σ'.length = σ.length → (∀ k, k ∉ vs → σ'[k]? = σ[k]?) → Q σ' H) → g us σ H Q
theorem tw_1 {g : TG} {vs : List Nat} {Γf : α → List Sl} (h : TgX g r vs Γ Γf) : TgW (gCons g gNil) (w1 r) vs Γ Γf := fun A σ H B us x F k Q q => by
  obtain ⟨v, rfl, k⟩ := k
  exact ⟨v, [], rfl, h A σ H B v x F k _ fun σ' F' l d => ⟨rfl, q σ' F' l d⟩⟩
theorem tw_C {g : TG} {gs : TGs} {w : Rw β} {vs ws : List Nat} {Γf : α → List Sl} {Γg : α → β → List Sl} (h : TgX g r vs Γ Γf) (hr : ∀ x, TgW gs w ws (Γf x) (Γg x)) : TgW (gCons g gs) (wC r w) (vs ++ ws) Γ (fun x => Γg x.1 x.2) := fun A σ H B us x F k Q q => by
  obtain ⟨v, t, rfl, k1, k2⟩ := k
  exact ⟨v, t, rfl, h A σ H B v x.1 F k1 _ fun σ' F' l d => hr x.1 A σ' H B t x.2 F' k2 _ fun σ2 F2 l2 d2 => q σ2 F2 (l2.trans l) fun k hk =>
    (d2 k fun z => hk (List.mem_append_right _ z)).trans (d k fun z => hk (List.mem_append_left _ z))⟩
theorem tg_tup {g : TGs} {n m : Nat} {w : Rw α} [i : WLen w m] {vs : List Nat} {Γf : α → List Sl} (h : TgW g w vs Γ Γf) (e : m = n := by rfl) : TgX (gTup K n g) (rTup w) vs Γ Γf := fun A σ H B v x F k Q q => by
  obtain ⟨p, us, rfl, hp, kw⟩ := ob_tup F.bh k
  exact ⟨p, us, rfl, SqT.of hp, (i.len kw).trans e, h A σ H B us x F kw Q q⟩
theorem nx_asgT {A : Amb} {D : Ends} {g : TG} {vs : List Nat} {Γf : α → List Sl} {a : α} (h : EvX r te Γ Γ1 a) (hg : TgX g r vs Γ1 Γf) (k : Nx A D.nx (Γf a)) : Nx A (tAsg te g D) Γ := fun σ H B F => h A σ H B F _ fun v H' B' F' _ q =>
  hg A σ H' B' v a F' q _ fun σ' F2 _ _ => k σ' H' B' F2

/-! ### for -/
def Amb.and (A : Amb) (Bx : Hp) : Amb := ⟨A.B0, A.H0, A.m, fun B => A.φ B ∧ Same Bx B, fun B B' s h => ⟨A.up B B' s h.1, h.2.trans s⟩⟩
theorem Post.and {A : Amb} {H B Bx : Hp} (P : Post A H B) (s : Same Bx B) : Post (A.and Bx) H B := ⟨P.bh, P.b0, P.keep, P.out, P.alive, P.sub, P.mh, ⟨P.ph, s⟩, P.sz⟩
theorem Post.unand {A : Amb} {H B Bx : Hp} (P : Post (A.and Bx) H B) : Post A H B := ⟨P.bh, P.b0, P.keep, P.out, P.alive, P.sub, P.mh, P.ph.1, P.sz⟩
theorem Frm.and {A : Amb} {σ : L2.St} {H B Bx : Hp} {Γ : List Sl} (F : Frm A σ H B Γ) (s : Same Bx B) : Frm (A.and Bx) σ H B Γ := ⟨F.post.and s, F.len, fun i s e => F.sl i s e, F.ds⟩
theorem Frm.unand {A : Amb} {σ : L2.St} {H B Bx : Hp} {Γ : List Sl} (F : Frm (A.and Bx) σ H B Γ) : Frm A σ H B Γ := ⟨F.post.unand, F.len, fun i s e => F.sl i s e, F.ds⟩
/-- what a body must do: from s with the step st -/
structure Conts {ρ ς : Type} (A : Amb) (ψ : ρ → Hp → Hp → V → Prop) (D : Ends) (mk : ς → List Sl) (st : Step ρ ς) : Prop where
  nx : ∀ s, st = .nx s → Nx A D.nx (mk s)
  ct : ∀ s, st = .nx s → Nx A D.ct (mk s)
  bk : ∀ s, st = .brk s → Nx A D.bk (mk s)
  rt : ∀ b, st = .ret b → Rt A ψ b D.rt
theorem nx_for {A : Amb} {ψ : ρ → Hp → Hp → V → Prop} {wi : TI} {g : TG} {tb : TS} {D : Ends} {vs : List Nat} (f : α → ς → Option (Step ρ ς)) (mk : ς → List Sl) {Γf : α → ς → List Sl} {s0 : ς} {R0 : Step ρ ς}
    (hi : ItX r wi Γ Γ1 xs) (e : forL f xs s0 = some R0) (h0 : ∀ A' : Amb, A'.m = A.m → Nx A' (Fin A' (mk s0)) Γ1)
    (hg : ∀ s, TgX g r vs (mk s) (fun x => Γf x s))
    (hb : ∀ (A' : Amb) (D' : Ends) (x : α) (s : ς) (st : Step ρ ς), A'.m = A.m → f x s = some st → Conts A' ψ D' mk st → Nx A' (tb D') (Γf x s))
    (hr : ∀ b, R0 = .ret b → Rt A ψ b D.rt) (hd : ∀ s, R0 = .nx s → Nx A D.nx (mk s)) : Nx A (tFor wi g tb D) Γ := fun σ H B F => by
  refine hi A σ H B F _ fun J H1 B1 F1 s1 Y => ?_
  refine ⟨fun i m σ H => m = xs.length - i ∧ i ≤ xs.length ∧ ∃ B s, Frm (A.and B1) σ H B (mk s) ∧ forL f (xs.drop i) s = some R0, ?_, ?_⟩
  · obtain ⟨B2, F2⟩ := h0 (A.and B1) rfl σ H1 B1 (F1.and (Same.refl _))
    exact ⟨_, rfl, Nat.zero_le _, B2, s0, F2, by rw [List.drop_zero]; exact e⟩
  · rintro i m σ2 H2 ⟨rfl, hi, B2, s2, F2, e2⟩
    by_cases hlt : i < xs.length
    · right
      have hx : xs[i]? = some xs[i] := List.getElem?_eq_getElem hlt
      rw [List.drop_eq_getElem_cons hlt] at e2
      refine ⟨Y.go i H2 B2 F2.ph.2 F2.bh hlt, fun σ3 H3 => ∃ s3, Fin (A.and B1) (mk s3) σ3 H3 ∧ forL f (xs.drop (i + 1)) s3 = some R0, fun σ3 H3 ⟨s3, ⟨B3, F3⟩, e3⟩ => ⟨_, by omega, rfl, by omega, B3, s3, F3, e3⟩, fun v H3 hy => ?_⟩
      obtain ⟨B3, F3, s3, k3⟩ := Y.yld i _ H2 B2 v H3 F2.ph.2 F2.bh hx hy (A.and B1) σ2 (mk s2) F2
      refine hg s2 (A.and B1) σ2 H3 B3 v xs[i] F3 k3 _ fun σ4 F4 _ _ => ?_
      unfold forL at e2
      cases q : f xs[i] s2 with
      | none => rw [q] at e2; cases e2
      | some st =>
        rw [q] at e2
        refine hb (A.and B1) _ xs[i] s2 st rfl q ⟨fun s5 z => ?_, fun s5 z => ?_, fun s5 z => ?_, fun b z => ?_⟩ σ4 H3 B3 F4
        · subst z
          exact fun σ5 H5 B5 F5 => ⟨s5, ⟨B5, F5⟩, e2⟩
        · subst z
          exact fun σ5 H5 B5 F5 => ⟨s5, ⟨B5, F5⟩, e2⟩
        · subst z
          exact fun σ5 H5 B5 F5 => hd s5 (Option.some.inj e2).symm σ5 H5 B5 F5.unand
        · subst z
          exact fun H5 B5 v5 P5 k5 => hr b (Option.some.inj e2).symm H5 B5 v5 P5.unand k5
    · left
      have hil : i = xs.length := by omega
      subst hil
      refine ⟨Y.stop H2 B2 F2.ph.2 F2.bh, ?_⟩
      rw [List.drop_length] at e2
      unfold forL at e2
      exact hd s2 (Option.some.inj e2).symm σ2 H2 B2 F2.unand
/-- while, by how many turns are left at most -/
theorem nx_while {A : Amb} {ψ : ρ → Hp → Hp → V → Prop} {tt : TT} {tb : TS} {D : Ends} (c : ς → Option Bool) (f : ς → Option (Step ρ ς)) (mk : ς → List Sl) {s0 : ς} {R0 : Step ρ ς} {n : Nat}
    (e : whL c f n s0 = some R0) (h0 : Nx A (Fin A (mk s0)) Γ) (ht : ∀ s b, c s = some b → EvT tt (mk s) (mk s) b)
    (hb : ∀ (D' : Ends) (s : ς) (st : Step ρ ς), c s = some true → f s = some st → Conts A ψ D' mk st → Nx A (tb D') (mk s))
    (hr : ∀ b, R0 = .ret b → Rt A ψ b D.rt) (hd : ∀ s, R0 = .nx s → Nx A D.nx (mk s)) : Nx A (tWhile tt tb D) Γ := fun σ H B F => by
  refine ⟨fun m σ H => ∃ B s, Frm A σ H B (mk s) ∧ whL c f m s = some R0, ?_, ?_⟩
  · obtain ⟨B1, F1⟩ := h0 σ H B F
    exact ⟨n, B1, s0, F1, e⟩
  · rintro m σ1 H1 ⟨B1, s1, F1, e1⟩
    cases m with
    | zero => cases e1
    | succ m =>
      unfold whL at e1
      cases q : c s1 with
      | none => rw [q] at e1; cases e1
      | some b =>
        rw [q] at e1
        refine ht s1 b q A σ1 H1 B1 F1 _ fun H2 B2 F2 s2 => ?_
        cases b with
        | false => exact hd s1 (Option.some.inj e1).symm σ1 H2 B2 F2
        | true =>
          refine ⟨fun σ3 H3 => ∃ s3, Fin A (mk s3) σ3 H3 ∧ whL c f m s3 = some R0, fun σ3 H3 ⟨s3, ⟨B3, F3⟩, e3⟩ => ⟨m, Nat.lt_succ_self m, B3, s3, F3, e3⟩, ?_⟩
          cases q2 : f s1 with
          | none => rw [q2] at e1; cases e1
          | some st =>
            rw [q2] at e1
            refine hb _ s1 st q q2 ⟨fun s5 z => ?_, fun s5 z => ?_, fun s5 z => ?_, fun b z => ?_⟩ σ1 H2 B2 F2
            · subst z
              exact fun σ5 H5 B5 F5 => ⟨s5, ⟨B5, F5⟩, e1⟩
            · subst z
              exact fun σ5 H5 B5 F5 => ⟨s5, ⟨B5, F5⟩, e1⟩
            · subst z
              exact hd s5 (Option.some.inj e1).symm
            · subst z
              exact hr b (Option.some.inj e1).symm

/-! ### comprehensions -/
theorem Frm.hidset {A : Amb} {σ : L2.St} {H B : Hp} {Γ : List Sl} {p : Addr} {o o' : HO} (F : Frm (A.add p o) σ H B Γ) (h0 : A.H0 p = none) (hm : ¬ A.m p) (sub : Same A.B0 A.H0) (ho : szO o') : Frm (A.add p o') σ (upd H p o') B Γ := by
  have hBp : B p = none := F.out p (by show upd A.H0 p o p ≠ none; rw [upd_same]; simp) (by
    cases q : A.B0 p with
    | none => exact q
    | some u => exact (absurd (sub p u q) (by rw [h0]; simp)))
  have hot : ∀ (i : Nat) (s : Sl), Γ[i]? = some s → ∀ q, celAt s = some q → q ≠ p := fun i s e q hq z => by
    have hh := F.hot e hq
    rcases hh.2.2 with m | m
    · have m' : upd A.H0 p o q = none := m
      rw [z, upd_same] at m'; cases m'
    · rw [z] at m; exact hm m
  refine ⟨⟨fun b u e => ?_, F.b0, fun b u m e => ?_, fun b n z => ?_, fun b n => ?_, fun b u e => ?_, fun b m => ?_, F.ph, F.sz.upd ho⟩, F.len, fun i s e => ?_, F.ds⟩
  · have hb : b ≠ p := fun z => by rw [z, hBp] at e; cases e
    rw [upd_ne hb]; exact F.bh b u e
  · by_cases hb : b = p
    · subst hb
      have e' : upd A.H0 b o' b = some u := e
      rw [upd_same] at e'; rw [upd_same]; exact e'
    · have e' : upd A.H0 p o' b = some u := e
      rw [upd_ne hb] at e'; rw [upd_ne hb]
      exact F.keep b u m (by show upd A.H0 p o b = some u; rw [upd_ne hb]; exact e')
  · by_cases hb : b = p
    · rw [hb]; exact hBp
    · have n' : upd A.H0 p o' b ≠ none := n
      rw [upd_ne hb] at n'
      exact F.out b (by show upd A.H0 p o b ≠ none; rw [upd_ne hb]; exact n') z
  · by_cases hb : b = p
    · subst hb; rw [upd_same]; simp
    · have n' : upd A.H0 p o' b ≠ none := n
      rw [upd_ne hb] at n'; rw [upd_ne hb]
      exact F.alive b (by show upd A.H0 p o b ≠ none; rw [upd_ne hb]; exact n')
  · have hb : b ≠ p := fun z => by rw [z] at e; exact absurd (sub p u e) (by rw [h0]; simp)
    show upd A.H0 p o' b = some u
    rw [upd_ne hb]; exact sub b u e
  · have hb : b ≠ p := fun z => by rw [z] at m; exact hm m
    show upd A.H0 p o' b ≠ none
    rw [upd_ne hb]
    have := F.mh b m
    have t : upd A.H0 p o b ≠ none := this
    rw [upd_ne hb] at t; exact t
  · have h := F.sl i s e
    cases s with
    | no => trivial
    | imm r a => exact h
    | cel q c a =>
      obtain ⟨e1, n, m, u, hu, k⟩ := h
      have hq : q ≠ p := hot i _ e q rfl
      refine ⟨e1, n, ?_, u, by rw [upd_ne hq]; exact hu, k⟩
      rcases m with m | m
      · left
        have m' : upd A.H0 p o q = none := m
        rw [upd_ne hq] at m'
        show upd A.H0 p o' q = none
        rw [upd_ne hq]; exact m'
      · exact .inr m
/-- slots emptied -/
def wipeG (Γ : List Sl) : List Nat → List Sl
  | [] => Γ
  | v :: vs => (wipeG Γ vs).set v .no
theorem Frm.wipe {A : Amb} {σ : L2.St} {H B : Hp} {Γ : List Sl} (F : Frm A σ H B Γ) : ∀ vs : List Nat, Frm A (L2.wipe σ vs) H B (wipeG Γ vs)
  | [] => F
  | v :: vs => by
    have F1 := F.wipe vs
    refine ⟨F1.post, by show ((L2.wipe σ vs).set v none).length = _; unfold wipeG; rw [List.length_set, List.length_set]; exact F1.len, fun i s e => ?_, fun i j p ei ej => ?_⟩
    · unfold wipeG at e
      rcases getset e with ⟨rfl, rfl, _⟩ | ⟨ne, e⟩
      · trivial
      · exact slok_shift (F1.sl i s e) (by show _ = ((L2.wipe σ vs).set v none)[i]?; rw [List.getElem?_set_ne ne])
    · have lo : ∀ {j : Nat}, ((wipeG Γ (v :: vs))[j]?.bind celAt) = some p → ((wipeG Γ vs)[j]?.bind celAt) = some p := fun {j} ej => by
        unfold wipeG at ej
        cases e : ((wipeG Γ vs).set v .no)[j]? with
        | none => rw [e] at ej; cases ej
        | some s =>
          rw [e] at ej
          rcases getset e with ⟨rfl, rfl, _⟩ | ⟨ne, e⟩
          · cases ej
          · rw [e]; exact ej
      exact F1.ds i j p (lo ei) (lo ej)
theorem wipe_get (σ : L2.St) : ∀ (vs : List Nat) (k : Nat), (L2.wipe σ vs)[k]? = if k ∈ vs then (if k < σ.length then some none else none) else σ[k]?
  | [], k => by simp [L2.wipe]
  | v :: vs, k => by
    show ((L2.wipe σ vs).set v none)[k]? = _
    by_cases e : v = k
    · subst e
      rw [List.getElem?_set, if_pos rfl, if_pos (List.mem_cons_self), L2.wipe_length]
    · rw [List.getElem?_set_ne e, wipe_get σ vs k]
      have : (k ∈ v :: vs) ↔ k ∈ vs := by
        rw [List.mem_cons]; exact ⟨fun h => h.resolve_left fun z => e z.symm, .inr⟩
      simp only [this]
theorem wipe_same {σ σ' : L2.St} {vs : List Nat} (hl : σ'.length = σ.length) (h : ∀ k, k ∉ vs → σ'[k]? = σ[k]?) : L2.wipe σ' vs = L2.wipe σ vs := by
  apply List.ext_getElem?
  intro k
  rw [wipe_get, wipe_get, hl]
  by_cases hk : k ∈ vs
  · rw [if_pos hk, if_pos hk]
  · rw [if_neg hk, if_neg hk]; exact h k hk
theorem wipe_wipe {σ σ' : L2.St} {vs : List Nat} (hl : σ'.length = (L2.wipe σ vs).length) (h : ∀ k, k ∉ vs → σ'[k]? = (L2.wipe σ vs)[k]?) : L2.wipe σ' vs = L2.wipe σ vs :=
  wipe_same (by rw [hl, L2.wipe_length]) fun k hk => by rw [h k hk, wipe_get, if_neg hk]
theorem Frm.unwipe {A : Amb} {σ : L2.St} {H B : Hp} {Γ : List Sl} {vs : List Nat} (F : Frm A (L2.wipe σ vs) H B Γ) (hv : wipeG Γ vs = Γ) : Frm A σ H B Γ := by
  have no : ∀ (ws : List Nat) (k : Nat) (s : Sl), k ∈ ws → (wipeG Γ ws)[k]? = some s → s = .no := by
    intro ws
    induction ws with
    | nil => intro k s hk; cases hk
    | cons v ws ih =>
      intro k s hk e
      unfold wipeG at e
      rcases getset e with ⟨rfl, rfl, _⟩ | ⟨ne, e⟩
      · rfl
      · exact ih k s ((List.mem_cons.mp hk).resolve_left fun z => ne z.symm) e
  refine ⟨F.post, by rw [← F.len, L2.wipe_length], fun i s e => ?_, F.ds⟩
  by_cases hi : i ∈ vs
  · have := no vs i s hi (by rw [hv]; exact e)
    subst this; trivial
  · exact slok_shift (F.sl i s e) (by rw [wipe_get, if_neg hi])
/-- [e for x in xs if t], the state of the frame's own objects threaded -/
theorem ec_lcS {wi : TI} {g : TG} {tt : TT} {te : TE} {ws vs : List Nat} (f : α → ς → Option (Option β × ς)) (mk : ς → List Sl) {Γf : α → ς → List Sl} {s0 s1 : ς} {ys : List β}
    (hi : ItX r wi Γ Γ1 xs) (e : compS f xs s0 = some (ys, s1)) (h0 : ∀ A' : Amb, Nx A' (Fin A' (mk s0)) Γ1) (hv : ∀ s, wipeG (mk s) vs = mk s) (hg : ∀ s, TgX g r ws (mk s) (fun x => Γf x s)) (hw : ∀ k, k ∈ ws → k ∈ vs) (hm : ∀ x s, wipeG (Γf x s) vs = mk s)
    (hb : ∀ (x : α) (s : ς) (o : Option β) (s' : ς), f x s = some (o, s') → ∃ s2, EvT tt (Γf x s) (Γf x s2) o.isSome ∧ (∀ y, o = some y → EvX rb te (Γf x s2) (Γf x s') y) ∧ (o = none → s2 = s')) :
    EvC (cLst rb) (tLc wi g tt te vs) Γ (mk s1) ys := fun A σ H B F Q q => by
  refine hi A σ H B F _ fun J H1 B1 F1 sB1 Y => fun D hD => ?_
  obtain ⟨B2, F2⟩ := h0 (A.and B1) σ H1 B1 (F1.and (Same.refl _))
  have h0D : A.H0 D = none := F1.H0none hD
  have hmD : ¬ A.m D := fun m => F.mh D m h0D
  have F3 := F2.wipe vs
  rw [hv] at F3
  have F4 := F3.fresh (o := .lst []) hD (Nat.zero_le _)
  refine ⟨fun i m H => m = xs.length - i ∧ i ≤ xs.length ∧ ∃ B s acc dn rest, Frm ((A.and B1).add D (.lst acc)) (L2.wipe σ vs) H B (mk s) ∧ Paired (rb.rel B) acc dn ∧ acc.length ≤ i ∧ compS f (xs.drop i) s = some (rest, s1) ∧ dn ++ rest = ys, ?_, ?_⟩
  · exact ⟨_, rfl, Nat.zero_le _, B2, s0, [], [], ys, F4, .nil, Nat.le_refl _, by rw [List.drop_zero]; exact e, rfl⟩
  · rintro i m H2 ⟨rfl, hil, B3, s2, acc, dn, rest, F5, pa, hacc, e2, ed⟩
    by_cases hlt : i < xs.length
    · right
      have hx : xs[i]? = some xs[i] := List.getElem?_eq_getElem hlt
      rw [List.drop_eq_getElem_cons hlt] at e2
      refine ⟨Y.go i H2 B3 F5.ph.2 F5.bh hlt, fun H3 => ∃ B s acc dn rest, Frm ((A.and B1).add D (.lst acc)) (L2.wipe σ vs) H3 B (mk s) ∧ Paired (rb.rel B) acc dn ∧ acc.length ≤ i + 1 ∧ compS f (xs.drop (i + 1)) s = some (rest, s1) ∧ dn ++ rest = ys, fun H3 h3 => ⟨_, by omega, rfl, by omega, h3⟩, fun v H3 hy => ?_⟩
      obtain ⟨B4, F6, sB4, k4⟩ := Y.yld i _ H2 B3 v H3 F5.ph.2 F5.bh hx hy _ _ _ F5
      refine hg s2 _ _ H3 B4 v xs[i] F6 k4 _ fun σ4 F7 hl4 d4 => ⟨wipe_wipe hl4 fun k hk => d4 k fun z => hk (hw k z), ?_⟩
      have hwp := wipe_wipe hl4 fun k hk => d4 k fun z => hk (hw k z)
      unfold compS at e2
      cases q2 : f xs[i] s2 with
      | none => rw [q2] at e2; cases e2
      | some os =>
        obtain ⟨o, s'⟩ := os
        rw [q2] at e2
        obtain ⟨s3, hT, hE, hN⟩ := hb _ _ _ _ q2
        refine hT _ _ _ _ F7 _ fun H5 B5 F8 sB5 => ?_
        cases o with
        | none =>
          have F9 := F8.wipe vs
          rw [hm, hwp] at F9
          exact ⟨B5, s3, acc, dn, rest, F9, Paired.monoR (sB4.trans sB5) pa, by omega, by rw [hN rfl]; exact e2, ed⟩
        | some y =>
          refine hE y rfl _ _ _ _ F8 _ fun u H6 B6 F9 sB6 k6 => ?_
          have hid := F9.hid (A := A.and B1) h0D hmD
          refine ⟨acc, hid, Nat.lt_of_lt_of_le (Nat.lt_of_le_of_lt hacc hlt) Y.len, ?_⟩
          have F10 := F9.wipe vs
          rw [hm, hwp] at F10
          have hlen : (acc ++ [u]).length ≤ sizeLine := by rw [List.length_append, List.length_singleton]; exact Nat.le_trans (by omega) Y.len
          have F11 := F10.hidset (A := A.and B1) (o' := .lst (acc ++ [u])) h0D hmD F.sub hlen
          dsimp only at e2
          cases q3 : compS f (xs.drop (i + 1)) s' with
          | none => rw [q3] at e2; cases e2
          | some z =>
            obtain ⟨r3, s4⟩ := z
            rw [q3] at e2
            cases e2
            exact ⟨B6, s', acc ++ [u], dn ++ [y], r3, F11, Paired.app (Paired.monoR ((sB4.trans sB5).trans sB6) pa) (.cons k6 .nil), by rw [List.length_append, List.length_singleton]; omega, q3, by rw [← ed, List.append_assoc]; rfl⟩
    · left
      have hil : i = xs.length := by omega
      subst hil
      refine ⟨Y.stop H2 B3 F5.ph.2 F5.bh, ?_⟩
      rw [List.drop_length] at e2
      unfold compS at e2
      cases e2
      have F6 := F5.unwipe (hv _)
      have F7 : Frm ((A.add D (.lst acc)).and B1) σ H2 B3 _ := F6
      refine q D (.lst acc) H2 B3 F7.unand h0D (sB1.trans F5.ph.2) ⟨acc, rfl, ?_⟩
      rw [List.append_nil] at ed
      rw [← ed]; exact pa
theorem compS_L (f : α → Option (Option β)) : ∀ {xs : List α} {ys : List β}, compL f xs = some ys → compS (fun x (_ : Unit) => (f x).map fun o => (o, ())) xs () = some (ys, ())
  | [], ys, h => by unfold compL at h; cases h; rfl
  | x :: xs, ys, h => by
    unfold compL at h
    unfold compS
    cases q : f x with
    | none => rw [q] at h; cases h
    | some o =>
      rw [q] at h
      cases o with
      | none => exact compS_L f h
      | some y =>
        cases q2 : compL f xs with
        | none => rw [q2] at h; cases h
        | some zs =>
          rw [q2] at h
          cases h
          have := compS_L f q2
          dsimp only [Option.map_some]
          rw [this]
theorem ec_lc {wi : TI} {g : TG} {tt : TT} {te : TE} {ws vs : List Nat} (f : α → Option (Option β)) {Γf : α → List Sl} {ys : List β}
    (hi : ItX r wi Γ Γ1 xs) (e : compL f xs = some ys) (hg : TgX g r ws (wipeG Γ1 vs) Γf) (hw : ∀ k, k ∈ ws → k ∈ vs) (hv : wipeG Γ1 vs = Γ1) (hm : ∀ x, wipeG (Γf x) vs = Γ1)
    (hb : ∀ (x : α) (o : Option β), f x = some o → EvT tt (Γf x) (Γf x) o.isSome ∧ (∀ y, o = some y → EvX rb te (Γf x) (Γf x) y)) : EvC (cLst rb) (tLc wi g tt te vs) Γ Γ1 ys :=
  ec_lcS (ς := Unit) _ (fun _ => Γ1) (Γf := fun x _ => Γf x) hi (compS_L f e) (fun A' => nx_fin) (fun _ => hv) (fun _ => by rw [hv] at hg; exact hg) hw (fun x _ => hm x) fun x s o s' h => by
    cases q : f x with
    | none => simp [q] at h
    | some o' =>
      simp [q] at h
      subst h
      exact ⟨s, (hb x o' q).1, fun y hy => (hb x o' q).2 y hy, fun _ => rfl⟩
/-- no test -/
theorem et_yes {Γ : List Sl} : EvT tYes Γ Γ true := fun A σ H B F Q q => q H B F (Same.refl _)
end
end G

set_option maxHeartbeats 4000000
/-! # G: built-ins, the frame's own objects -/
namespace G
open PySem PySem.Spec PyProof.Rows L2
section
variable {α β γ ρ ς : Type} {r ra : Rp α} {rb : Rp β} {c : Cl α} {te ta tb : TE} {Γ Γ1 Γ2 Γ3 : List Sl} {xs : List α} {K : PySem.W.Frag} {a : α} {b : β} {w : Rw α} {p : Addr} {i : Nat}
/-- a list that the program was handed -/
def rScr (K : PySem.W.Frag) : Rp (List Int) := ⟨fun H v ns => ∃ a, v = .ref a ∧ SqL K H a (ns.map V.int), fun s ⟨a, e, h⟩ => ⟨a, e, s.seq h⟩⟩
/-! ### partial operations -/
def pyMod (i j : Int) : Option Int := if 0 < j then some (i % j) else none
def pyDiv (i j : Int) : Option Int := if 0 < j ∧ j.natAbs.log2 < 9000 then some (i / j) else none
def pyMul (i j : Int) : Option Int := if (-(2 ^ 64) < i ∧ i < 2 ^ 64) ∨ (-(2 ^ 64) < j ∧ j < 2 ^ 64) then some (i * j) else none
def pyPow (i j : Int) : Option Int := if 0 ≤ j ∧ j ≤ 1000000 ∧ i.natAbs < 2 ^ 64 then some (i ^ j.toNat) else none
def pyLenS (z : Str) : Option Int := if z.length ≤ sizeLine then some (z.length : Int) else none
def pyAddS (x y : Str) : Option Str := if x.length + y.length ≤ sizeLine then some (x ++ y) else none
def pyIxS (z : Str) (i : Int) : Option Str := if z.length ≤ sizeLine then (atI z.cps.toList i).map fun c => (⟨#[c]⟩ : Str) else none
def pySlS (z : Str) (lo hi : Option Int) : Option Str := if z.length ≤ sizeLine then some (Txt.slice z lo hi) else none
def pyInSg (x z : Str) : Option Bool := match x.cps.toList with
  | [c] => some (decide (c ∈ z.cps.toList))
  | _ => none
theorem ev_modP {i j k : Int} (ha : EvX rInt ta Γ Γ1 i) (hb : EvX rInt tb Γ1 Γ2 j) (e : pyMod i j = some k) : EvX rInt (tOp (rI (fun _ j => 0 < j) fun i j => .int (i % j)) ta tb) Γ Γ2 k := by
  unfold pyMod at e; split at e <;> cases e
  exact ev_mod ha hb (by assumption)
theorem ev_divP {i j k : Int} (ha : EvX rInt ta Γ Γ1 i) (hb : EvX rInt tb Γ1 Γ2 j) (e : pyDiv i j = some k) : EvX rInt (tOp (rI CDivW fun i j => .int (i / j)) ta tb) Γ Γ2 k := by
  unfold pyDiv at e; split at e <;> cases e
  exact ev_divW ha hb (by assumption)
theorem ev_mulP {i j k : Int} (ha : EvX rInt ta Γ Γ1 i) (hb : EvX rInt tb Γ1 Γ2 j) (e : pyMul i j = some k) : EvX rInt (tOp (rI CMul fun i j => .int (i * j)) ta tb) Γ Γ2 k := by
  unfold pyMul at e; split at e <;> cases e
  exact ev_mul ha hb (by assumption)
theorem ev_powP {i j k : Int} (ha : EvX rInt ta Γ Γ1 i) (hb : EvX rInt tb Γ1 Γ2 j) (e : pyPow i j = some k) : EvX rInt (tOp (rI CPow fun i j => .int (i ^ j.toNat)) ta tb) Γ Γ2 k := by
  unfold pyPow at e; split at e <;> cases e
  exact ev_pow ha hb (by assumption)
theorem ev_addS {x y z : Str} (ha : EvX rStr ta Γ Γ1 x) (hb : EvX rStr tb Γ1 Γ2 y) (e : pyAddS x y = some z) : EvX rStr (tOp (fun x y H Q => ∃ i j, x = .str i ∧ y = .str j ∧ i.length + j.length ≤ sizeLine ∧ Q (.str (i ++ j)) H) ta tb) Γ Γ2 z := by
  unfold pyAddS at e; split at e <;> cases e
  exact ev_op ha hb fun H B u v _ ku kv Q q => ⟨x, y, ku, kv, by assumption, q _ rfl⟩
theorem ev_ixS {z c : Str} {i : Int} (ha : EvX rStr ta Γ Γ1 z) (hb : EvX rInt tb Γ1 Γ2 i) (e : pyIxS z i = some c) : EvX rStr (tOp rIxS ta tb) Γ Γ2 c := by
  unfold pyIxS at e; split at e
  · rename_i hz
    cases q : atI z.cps.toList i with
    | none => rw [q] at e; cases e
    | some n =>
      rw [q] at e; cases e
      exact ev_op ha hb fun H B u v _ ku kv Q k => ⟨z, i, n, ku, kv, hz, q, k _ rfl⟩
  · cases e
theorem sg_of {x : Str} {c : Nat} (h : x.cps.toList = [c]) : x = ⟨#[c]⟩ := by
  cases x with
  | mk cps => simp only at h; congr 1; exact Array.toList_inj.mp h
theorem ev_inSg {x z : Str} {b : Bool} (ha : EvX rStr ta Γ Γ1 x) (hb : EvX rStr tb Γ1 Γ2 z) (e : pyInSg x z = some b) : EvX rBool (tOp (fun x y H Q => ∃ (c : Nat) (z : Str), x = .str ⟨#[c]⟩ ∧ y = .str z ∧ Q (.bl (decide (c ∈ z.cps.toList))) H) ta tb) Γ Γ2 b := by
  unfold pyInSg at e; split at e
  · rename_i c hc
    cases e
    exact ev_op ha hb fun H B u v _ ku kv Q k => ⟨c, z, by rw [ku, sg_of hc], kv, k _ rfl⟩
  · cases e
theorem ev_ninSg {x z : Str} {b : Bool} (ha : EvX rStr ta Γ Γ1 x) (hb : EvX rStr tb Γ1 Γ2 z) (e : pyInSg x z = some b) : EvX rBool (tOp (fun x y H Q => ∃ (c : Nat) (z : Str), x = .str ⟨#[c]⟩ ∧ y = .str z ∧ Q (.bl (!decide (c ∈ z.cps.toList))) H) ta tb) Γ Γ2 (!b) := by
  unfold pyInSg at e; split at e
  · rename_i c hc
    cases e
    exact ev_op ha hb fun H B u v _ ku kv Q k => ⟨c, z, by rw [ku, sg_of hc], kv, k _ rfl⟩
  · cases e
/-! ### slices -/
def EvO (t : TO) (Γ Γ' : List Sl) (o : Option Int) : Prop := ∀ (A : Amb) (σ : L2.St) (H B : Hp), Frm A σ H B Γ → ∀ Q : Option Int → Hp → Prop, (∀ H' B', Frm A σ H' B' Γ' → Same B B' → Q o H') → t σ H Q
theorem eo_none : EvO tNoPart Γ Γ none := fun A σ H B F Q q => q H B F (Same.refl _)
theorem eo_some {j : Int} (h : EvX rInt te Γ Γ1 j) : EvO (tPart te) Γ Γ1 (some j) := fun A σ H B F Q q => h A σ H B F _ fun v H' B' F' s k => ⟨j, k, q H' B' F' s⟩
theorem ev_slS {z y : Str} {lo hi : Option Int} {tl th : TO} (h : EvX rStr te Γ Γ1 z) (hl : EvO tl Γ1 Γ2 lo) (hh : EvO th Γ2 Γ3 hi) (e : pySlS z lo hi = some y) : EvX rStr (L2.tSl C8.rSlX te tl th) Γ Γ3 y := by
  unfold pySlS at e; split at e <;> cases e
  exact fun A σ H B F Q q => h A σ H B F _ fun v H1 B1 F1 s1 k1 => hl A σ H1 B1 F1 _ fun H2 B2 F2 s2 => hh A σ H2 B2 F2 _ fun H3 B3 F3 s3 => ⟨z, k1, by assumption, q _ H3 B3 F3 ((s1.trans s2).trans s3) rfl⟩
def cut {α : Type} (xs : List α) (lo hi : Option Int) : List α := (xs.drop (HT.sIx xs.length 0 lo)).take (HT.sIx xs.length xs.length hi - HT.sIx xs.length 0 lo)
theorem paired_cut {F : V → α → Prop} {vs : List V} {lo hi : Option Int} (h : Paired F vs xs) : Paired F (cutV vs lo hi) (cut xs lo hi) := by
  unfold cutV cut
  rw [Paired.len h]
  exact Paired.takeN _ (Paired.dropN _ h)
theorem cut_len (lo hi : Option Int) (vs : List V) : (cutV vs lo hi).length ≤ vs.length := by
  unfold cutV
  rw [List.length_take, List.length_drop]; omega
theorem ec_slL {lo hi : Option Int} {tl th : TO} (h : EvX (rLst r) te Γ Γ1 xs) (hl : EvO tl Γ1 Γ2 lo) (hh : EvO th Γ2 Γ3 hi) : EvC (cLst r) (L2.tSl (rSlL K) te tl th) Γ Γ3 (cut xs lo hi) :=
  fun A σ H B F Q q => h A σ H B F _ fun v H1 B1 F1 s1 k1 => hl A σ H1 B1 F1 _ fun H2 B2 F2 s2 => hh A σ H2 B2 F2 _ fun H3 B3 F3 s3 => by
    obtain ⟨a, vs, rfl, ha, pv⟩ := ob_lst F3.bh ((rLst r).mono (s2.trans s3) k1)
    exact ⟨a, vs, rfl, SqL.of ha, fun l hl => ec_fresh (c := cLst r) (o := .lst (cutV vs lo hi)) F3 hl (Nat.le_trans (cut_len lo hi vs) (F3.sz _ _ ha)) (fun p o H2 B2 F2 n2 s4 k2 => q p o H2 B2 F2 n2 (((s1.trans s2).trans s3).trans s4) k2) ⟨_, rfl, paired_cut pv⟩⟩
/-! ### built-ins of one argument -/
theorem ev_B1 {R : List V → Hp → VK → Prop} (h : EvX ra ta Γ Γ1 a) (k : ∀ (H B : Hp) (u : V), Sz H → Same B H → ra.rel B u a → ∀ Q : VK, (∀ o, rb.rel B o b → Q o H) → R [u] H Q) : EvX rb (tCB R (tCons ta tNil)) Γ Γ1 b := fun A σ H B F Q q =>
  h A σ H B F _ fun v H1 B1 F1 s1 k1 => k H1 B1 v F1.sz F1.bh k1 Q fun o ko => q o H1 B1 F1 s1 ko
theorem ec_B1 {R : List V → Hp → VK → Prop} {cb : Cl β} (h : EvX ra ta Γ Γ1 a) (k : ∀ (H B : Hp) (u : V), Sz H → Same B H → ra.rel B u a → ∀ Q : VK, (∀ p o, H p = none → szO o → cb.ok B o b → Q (.ref p) (upd H p o)) → R [u] H Q) : EvC cb (tCB R (tCons ta tNil)) Γ Γ1 b := fun A σ H B F Q q =>
  h A σ H B F _ fun v H1 B1 F1 s1 k1 => k H1 B1 v F1.sz F1.bh k1 Q fun p o hp ho ko => q p o _ B1 (F1.fresh hp ho) (F1.H0none hp) s1 ko
abbrev RLen (K : PySem.W.Frag) : List V → Hp → VK → Prop := fun xs H Q => ∃ p ys, xs = [.ref p] ∧ (SqL K H p ys ∨ SqT K H p ys) ∧ Q (.int ys.length) H
theorem ev_lenL (h : EvX (rLst r) ta Γ Γ1 xs) : EvX rInt (tCB (RLen K) (tCons ta tNil)) Γ Γ1 (xs.length : Int) := ev_B1 h fun H B u _ s k Q q => by
  obtain ⟨p, vs, rfl, hp, kv⟩ := ob_lst s k
  exact ⟨p, vs, rfl, .inl (SqL.of hp), q _ (by rw [Paired.len kv]; rfl)⟩
theorem ev_lenT (h : EvX (rTpl r) ta Γ Γ1 xs) : EvX rInt (tCB (RLen K) (tCons ta tNil)) Γ Γ1 (xs.length : Int) := ev_B1 h fun H B u _ s k Q q => by
  obtain ⟨p, vs, rfl, hp, kv⟩ := ob_tpl s k
  exact ⟨p, vs, rfl, .inr (SqT.of hp), q _ (by rw [Paired.len kv]; rfl)⟩
theorem ev_lenC {ns : List Int} (h : EvX (rScr K) ta Γ Γ1 ns) : EvX rInt (tCB (RLen K) (tCons ta tNil)) Γ Γ1 (ns.length : Int) := ev_B1 h fun H B u _ s k Q q => by
  obtain ⟨p, rfl, hp⟩ := k
  exact ⟨p, _, rfl, .inl (s.seq hp), q _ (by rw [List.length_map]; rfl)⟩
theorem ev_lenS {z : Str} {n : Int} (h : EvX rStr ta Γ Γ1 z) (e : pyLenS z = some n) : EvX rInt (tCB (fun xs H Q => ∃ z, xs = [.str z] ∧ z.length ≤ sizeLine ∧ Q (.int z.length) H) (tCons ta tNil)) Γ Γ1 n := by
  unfold pyLenS at e; split at e <;> cases e
  exact ev_B1 h fun H B u _ s k Q q => ⟨z, by rw [k], by assumption, q _ rfl⟩
theorem ev_int1 {j : Int} (h : EvX rInt ta Γ Γ1 j) : EvX rInt (tCB (fun xs H Q => (∃ i, xs = [.int i] ∧ Q (.int i) H) ∨ ∃ k, xs = [.bl k] ∧ Q (.int (if k then 1 else 0)) H) (tCons ta tNil)) Γ Γ1 j := ev_B1 h fun H B u _ s k Q q => .inl ⟨j, by rw [k], q _ rfl⟩
abbrev RList (K : PySem.W.Frag) : List V → Hp → VK → Prop := fun xs H Q => ∃ p ys, xs = [.ref p] ∧ (SqL K H p ys ∨ SqT K H p ys) ∧ ∀ l, H l = none → Q (.ref l) (upd H l (.lst ys))
theorem ec_listL (h : EvX (rLst r) ta Γ Γ1 xs) : EvC (cLst r) (tCB (RList K) (tCons ta tNil)) Γ Γ1 xs := ec_B1 h fun H B u z s k Q q => by
  obtain ⟨p, vs, rfl, hp, kv⟩ := ob_lst s k
  exact ⟨p, vs, rfl, .inl (SqL.of hp), fun l hl => q l _ hl (show vs.length ≤ sizeLine from z p _ hp) ⟨vs, rfl, kv⟩⟩
theorem ec_listT (h : EvX (rTpl r) ta Γ Γ1 xs) : EvC (cLst r) (tCB (RList K) (tCons ta tNil)) Γ Γ1 xs := ec_B1 h fun H B u z s k Q q => by
  obtain ⟨p, vs, rfl, hp, kv⟩ := ob_tpl s k
  exact ⟨p, vs, rfl, .inr (SqT.of hp), fun l hl => q l _ hl (show vs.length ≤ sizeLine from z p _ hp) ⟨vs, rfl, kv⟩⟩
theorem paired_ints : ∀ (ns : List Int) (B : Hp), Paired (rInt.rel B) (ns.map V.int) ns
  | [], _ => .nil
  | n :: ns, B => .cons rfl (paired_ints ns B)
def pyScr (ns : List Int) : Option (List Int) := if ns.length ≤ 100000 then some ns else none
theorem ec_listC {ns l : List Int} (h : EvX (rScr K) ta Γ Γ1 ns) (e : pyScr ns = some l) : EvC (cLst rInt) (tCB (RList K) (tCons ta tNil)) Γ Γ1 l := by
  unfold pyScr at e; split at e <;> cases e
  rename_i hl
  exact ec_B1 h fun H B u z s k Q q => by
    obtain ⟨p, rfl, hp⟩ := k
    exact ⟨p, _, rfl, .inl (s.seq hp), fun l hl => q l _ hl (by show (ns.map V.int).length ≤ _; rw [List.length_map]; exact Nat.le_trans (by assumption) (by decide)) ⟨_, rfl, paired_ints ns B⟩⟩
theorem ev_ixC {ns : List Int} {j v : Int} (ha : EvX (rScr K) ta Γ Γ1 ns) (hb : EvX rInt tb Γ1 Γ2 j) (e : atI ns j = some v) : EvX rInt (tOp (rIxL K) ta tb) Γ Γ2 v :=
  ev_op ha hb fun H B u w s ku kw Q q => by
    obtain ⟨p, rfl, hp⟩ := ku
    obtain ⟨o, ho, ko⟩ := atI_rel (paired_ints ns B) e
    exact ⟨p, _, j, o, rfl, kw, s.seq hp, ho, q o ko⟩
theorem ec_tupL (h : EvX (rLst r) ta Γ Γ1 xs) : EvC (cTpl r) (tCB (fun xs H Q => ∃ p ys, xs = [.ref p] ∧ ((SqL K H p ys ∧ ∀ l, H l = none → Q (.ref l) (upd H l (.tup ys))) ∨ (SqT K H p ys ∧ Q (.ref p) H))) (tCons ta tNil)) Γ Γ1 xs := ec_B1 h fun H B u z s k Q q => by
  obtain ⟨p, vs, rfl, hp, kv⟩ := ob_lst s k
  exact ⟨p, vs, rfl, .inl ⟨SqL.of hp, fun l hl => q l _ hl (show vs.length ≤ sizeLine from z p _ hp) ⟨vs, rfl, kv⟩⟩⟩
theorem ev_tupT (h : EvX (rTpl r) ta Γ Γ1 xs) : EvX (rTpl r) (tCB (fun xs H Q => ∃ p ys, xs = [.ref p] ∧ ((SqL K H p ys ∧ ∀ l, H l = none → Q (.ref l) (upd H l (.tup ys))) ∨ (SqT K H p ys ∧ Q (.ref p) H))) (tCons ta tNil)) Γ Γ1 xs := ev_B1 h fun H B u _ s k Q q => by
  obtain ⟨p, vs, e, hp, kv⟩ := ob_tpl s k
  exact ⟨p, vs, by rw [e], .inr ⟨SqT.of hp, by rw [← e]; exact q _ k⟩⟩
theorem ev_allL {bs : List Bool} (h : EvX (rLst rBool) ta Γ Γ1 bs) : EvX rBool (tCB (rAll K) (tCons ta tNil)) Γ Γ1 (bs.all id) := ev_B1 h fun H B u _ s k Q q => by
  obtain ⟨p, vs, rfl, hp, kv⟩ := ob_lst s k
  exact ⟨p, bs, rfl, by rw [← Paired.mapEq (fun a b h => h) kv]; exact SqL.of hp, q _ rfl⟩
/-! ### the frame's own objects -/
theorem cel_at {A : Amb} {σ : L2.St} {H B : Hp} (F : Frm A σ H B Γ) (h : Γ[i]? = some (.cel p c a)) : σ[i]? = some (some (V.ref p)) ∧ ∃ o, H p = some o ∧ c.ok B o a := by
  obtain ⟨e, _, _, o, ho, k⟩ := F.sl i _ h
  exact ⟨e, o, ho, k⟩
/-- an item of the frame's own list of known form -/
theorem ev_celR {k : Nat} {f : α → β} (h : Γ[i]? = some (.cel p (cHls w) a)) (g : Acc w k rb f) : EvX rb (tOp (rIxL K) (tVar i) (tC (.int (k : Int)))) Γ Γ (f a) := fun A σ H B F Q q => by
  obtain ⟨e, o, ho, vs, rfl, kw⟩ := cel_at F h
  obtain ⟨u, hu, ku⟩ := g B vs a kw
  exact ⟨_, e, p, vs, (k : Int), u, rfl, rfl, SqL.of ho, atI_nat hu, q u H B F (Same.refl _) ku⟩
/-- such an item is stored -/
def Upd {α β : Type} (w : Rw α) (k : Nat) (r : Rp β) (f : α → β → α) : Prop := ∀ B vs a v b, w.rel B vs a → r.rel B v b → k < vs.length ∧ w.rel B (vs.set k v) (f a b)
theorem upd1 : Upd (w1 ra) 0 ra (fun _ b => b) := fun B vs a v b ⟨u, e, _⟩ k => ⟨by rw [e]; exact Nat.zero_lt_one, v, by rw [e]; rfl, k⟩
theorem upd0 {w : Rw β} : Upd (wC ra w) 0 ra (fun a b => (b, a.2)) := fun B vs a v b ⟨u, t, e, _, q⟩ k => ⟨by rw [e, List.length_cons]; omega, v, t, by rw [e]; rfl, k, q⟩
theorem updS {w : Rw β} {rc : Rp γ} {k : Nat} {f : β → γ → β} (h : Upd w k rc f) : Upd (wC ra w) (k + 1) rc (fun a b => (a.1, f a.2 b)) := fun B vs a v b ⟨u, t, e, q1, q2⟩ kv => by
  obtain ⟨h1, h2⟩ := h B t a.2 v b q2 kv
  exact ⟨by rw [e, List.length_cons]; omega, u, t.set k v, by rw [e]; rfl, q1, h2⟩
theorem nx_setR {A : Amb} {D : Ends} {k : Nat} {f : α → β → α} (h : EvX rb te Γ Γ1 b) (hi : Γ1[i]? = some (.cel p (cHls w) a)) (g : Upd w k rb f) (n : Nx A D.nx (Γ1.set i (.cel p (cHls w) (f a b)))) : Nx A (tAsg te (gSub (tVar i) (tC (.int (k : Int))) rSetL) D) Γ := fun σ H B F =>
  h A σ H B F _ fun v H1 B1 F1 s1 k1 => by
    obtain ⟨e, o, ho, vs, rfl, kw⟩ := cel_at F1 hi
    obtain ⟨hk, kw'⟩ := g B1 vs a v b kw k1
    refine ⟨_, e, p, vs, (k : Int), k, rfl, rfl, ho, ?_, ?_⟩
    · unfold ixN; rw [if_pos (by omega), if_pos (by omega)]; simp
    · exact n σ _ B1 (F1.write hi (c' := cHls w) (o' := .lst (vs.set k v)) ⟨_, rfl, kw'⟩ (by show (vs.set k v).length ≤ _; rw [List.length_set]; exact F1.sz _ _ ho))
end
end G

set_option maxHeartbeats 4000000
/-! # G: how mirrors are written; small words -/
namespace G
open PySem PySem.Spec PyProof.Rows L2
section
variable {α β γ ρ ς τ : Type}
def bindO (e : Option α) (k : α → Option β) : Option β := match e with
  | none => none
  | some x => k x
def letO (e : α) (k : α → Option β) : Option β := k e
def iteO (c : Bool) (x y : Option β) : Option β := match c with
  | true => x
  | false => y
def stepO (R : Step ρ ς) (k : ς → Option ρ) : Option ρ := match R with
  | .ret b => some b
  | .nx s => k s
  | .brk _ => none
def stepL (R : Step ρ ς) (k : ς → Option (Step ρ τ)) : Option (Step ρ τ) := match R with
  | .ret b => some (.ret b)
  | .nx s => k s
  | .brk _ => none
theorem bindO_some {e : Option α} {k : α → Option β} {b : β} (h : bindO e k = some b) : ∃ x, e = some x ∧ k x = some b := by
  cases e with
  | none => cases h
  | some x => exact ⟨x, rfl, h⟩
theorem letO_some {e : α} {k : α → Option β} {b : β} (h : letO e k = some b) : ∃ x, x = e ∧ k x = some b := ⟨e, rfl, h⟩
theorem iteO_t {c : Bool} {x y : Option β} {b : Option β} (hc : c = true) (h : iteO c x y = b) : x = b := by subst hc; exact h
theorem iteO_f {c : Bool} {x y : Option β} {b : Option β} (hc : c = false) (h : iteO c x y = b) : y = b := by subst hc; exact h
theorem stepO_ret {b b' : ρ} {k : ς → Option ρ} (h : stepO (.ret b) k = some b') : b = b' := Option.some.inj h
theorem stepO_nx {s : ς} {k : ς → Option ρ} {b : Option ρ} (h : stepO (.nx s) k = b) : k s = b := h
theorem stepL_ret {b : ρ} {k : ς → Option (Step ρ τ)} {st : Step ρ τ} (h : stepL (.ret b) k = some st) : st = .ret b := (Option.some.inj h).symm
theorem stepL_nx {s : ς} {k : ς → Option (Step ρ τ)} {b : Option (Step ρ τ)} (h : stepL (.nx s) k = b) : k s = b := h
@[simp] theorem bindO_s (x : α) (k : α → Option β) : bindO (some x) k = k x := rfl
@[simp] theorem bindO_n (k : α → Option β) : bindO none k = none := rfl
@[simp] theorem letO_s (x : α) (k : α → Option β) : letO x k = k x := rfl
@[simp] theorem iteO_T (x y : Option β) : iteO true x y = x := rfl
@[simp] theorem iteO_F (x y : Option β) : iteO false x y = y := rfl
@[simp] theorem stepO_N (s : ς) (k : ς → Option ρ) : stepO (.nx s) k = k s := rfl
@[simp] theorem stepO_R (b : ρ) (k : ς → Option ρ) : stepO (.ret b) k = some b := rfl
@[simp] theorem stepL_N (s : ς) (k : ς → Option (Step ρ τ)) : stepL (.nx s) k = k s := rfl
@[simp] theorem stepL_R (b : ρ) (k : ς → Option (Step ρ τ)) : stepL (.ret b) k = some (.ret b) := rfl
end
section
variable {α β γ ρ ς : Type} {r : Rp α} {rb : Rp β} {c : Cl α} {te ta : TE} {tt : TT} {Γ Γ1 : List Sl} {a a' : α} {b b' : Bool} {A : Amb} {P : L2.St → Hp → Prop} {D : Ends} {i : Nat} {p : Addr} {K : PySem.W.Frag} {xs : List α}
theorem et_to (h : EvT tt Γ Γ1 b) (e : b = b') : EvT tt Γ Γ1 b' := e ▸ h
theorem ec_to (h : EvC c te Γ Γ1 a) (e : a = a') : EvC c te Γ Γ1 a' := e ▸ h
theorem nx_go {σ : L2.St} {H B : Hp} (F : Frm A σ H B Γ) (h : Nx A P Γ) : P σ H := h σ H B F
/-- the datum of the frame's own object by another name -/
theorem nx_cel (h : Γ[i]? = some (.cel p c a)) (e : a = a') (k : Nx A P (Γ.set i (.cel p c a'))) : Nx A P Γ := by
  subst e
  have : Γ.set i (.cel p c a) = Γ := by
    obtain ⟨hi, q⟩ := List.getElem?_eq_some_iff.mp h
    rw [← q, List.set_getElem_self]
  rw [this] at k; exact k
theorem Frm.recast {σ : L2.St} {H B : Hp} (F : Frm A σ H B Γ) (i : Nat) {s s' : Sl} (h : Γ[i]? = some s) (hc : celAt s = none) (hc' : celAt s' = none) (k : ∀ σ B, SlOk A σ H B i s → SlOk A σ H B i s') : Frm A σ H B (Γ.set i s') := by
  refine ⟨F.post, by rw [List.length_set]; exact F.len, fun j u e => ?_, fun j l q ej ek => ?_⟩
  · rcases getset e with ⟨rfl, rfl, hl⟩ | ⟨ne, e⟩
    · exact k _ _ (F.sl _ _ h)
    · exact F.sl j u e
  · have lo : ∀ {j : Nat}, ((Γ.set i s')[j]?.bind celAt) = some q → (Γ[j]?.bind celAt) = some q := fun {j} ej => by
      cases e : (Γ.set i s')[j]? with
      | none => rw [e] at ej; cases ej
      | some u =>
        rw [e] at ej
        have ej' : celAt u = some q := ej
        rcases getset e with ⟨_, z, _⟩ | ⟨ne, e⟩
        · rw [z, hc'] at ej'; cases ej'
        · rw [e]; exact ej'
    exact F.ds j l q (lo ej) (lo ek)
theorem nx_toOpt (i : Nat) (n : NN r) (h : Γ[i]? = some (.imm r a)) (k : Nx A P (Γ.set i (.imm (rOpt r) (some a)))) : Nx A P Γ := fun σ H B F => k σ H B (F.recast i h rfl rfl fun σ B ⟨v, e, q⟩ => ⟨v, e, q, n _ _ _ q⟩)
theorem nx_toNone {u : Unit} (i : Nat) (h : Γ[i]? = some (.imm rNon u)) (k : Nx A P (Γ.set i (.imm (rOpt r) none))) : Nx A P Γ := fun σ H B F => k σ H B (F.recast i h rfl rfl fun σ B ⟨v, e, q⟩ => ⟨v, e, q⟩)
/-- a script's walk -/
theorem it_scr {ns : List Int} (h : EvX (rScr K) te Γ Γ1 ns) (hz : ns.length ≤ 100000) : ItX rInt (iList K te) Γ Γ1 ns := fun A σ H B F R q => h A σ H B F _ fun v H' B' F' s k => by
  obtain ⟨p, rfl, hp⟩ := k
  refine ⟨p, rfl, ⟨_, F'.bh.seq hp⟩, q _ H' B' F' s ⟨Nat.le_trans hz (by decide), fun H2 B2 s1 s2 => ?_, fun i H2 B2 s1 s2 hi => ?_, fun i x H2 B2 v H3 s1 s2 hx hy A σ Γ F => ?_⟩⟩
  · exact ⟨_, s2.seq (s1.seq hp), by rw [List.length_map]; exact Nat.le_refl _⟩
  · exact ⟨_, .int ns[i], s2.seq (s1.seq hp), by rw [List.getElem?_map, List.getElem?_eq_getElem hi]; rfl⟩
  · obtain ⟨rfl, hv⟩ := hy
    have e := hv _ (s2.seq (s1.seq hp))
    rw [List.getElem?_map, hx] at e
    cases e
    exact ⟨B2, F, Same.refl _, rfl⟩
end
/-! ### a new object handed back -/
def SpC {α β : Type} (w : Rw α) (c : Cl β) (m : α → Option β) : Sp := fun vs H Q _ => ∃ B a b, Sz H ∧ Same B H ∧ w.rel B vs a ∧ m a = some b ∧ ∀ p o H' B', Post ((amb0 B H).add p o) H' B' → H p = none → c.ok B' o b → Q (.ref p) H'
section
variable {α β γ : Type} {w : Rw α} {c : Cl β} {A : Amb} {Γ Γ1 : List Sl} {te : TE} {D : Ends} {K : PySem.W.Frag}
/-- what the caller knows of a new object -/
def RtC (A : Amb) (c : Cl β) (b : β) (rt : VK) : Prop := ∀ p o H' B', Post (A.add p o) H' B' → A.H0 p = none → c.ok B' o b → rt (.ref p) H'
theorem nx_retC {a b : β} (h : EvC c te Γ Γ1 a) (e : some a = some b) (k : RtC A c b D.rt) : Nx A (tRet te D) Γ := fun σ H B F => h A σ H B F _ fun p o H' B' F' n _ q => k p o H' B' F'.post n (by cases e; exact q)
theorem Frm.afterC {σ : L2.St} {H H' B B' : Hp} {p : Addr} {o : HO} (F : Frm A σ H B Γ) (P : Post ((amb0 B H).add p o) H' B') (hp : H p = none) : Frm (A.add p o) σ H' B' Γ := by
  have kp : ∀ q u, H q = some u → H' q = some u := fun q u e => P.keep q u (fun z => z) (by show upd H p o q = some u; rw [upd_ne (ne_of_none e hp)]; exact e)
  have al : ∀ q, H q ≠ none → H' q ≠ none := fun q n => by
    cases e : H q with
    | none => exact absurd e n
    | some u => rw [kp q u e]; simp
  have ou : ∀ q, H q ≠ none → B q = none → B' q = none := fun q n z => P.out q (by
    have hq : q ≠ p := fun e => n (by rw [e]; exact hp)
    show upd H p o q ≠ none; rw [upd_ne hq]; exact n) z
  have bb : Same B B' := P.b0
  have h0 := F.H0none hp
  refine ⟨⟨P.bh, fun q u e => bb q u (F.b0 q u e), fun q u m e => ?_, fun q n z => ?_, fun q n => ?_, fun q u e => ?_, fun q m => ?_, A.up _ _ bb F.ph, P.sz⟩, F.len, fun i s e => ?_, F.ds⟩
  · by_cases hq : q = p
    · subst hq
      have e' : upd A.H0 q o q = some u := e
      rw [upd_same] at e'
      cases e'
      exact P.keep q o (fun z => z) upd_same
    · have e' : upd A.H0 p o q = some u := e
      rw [upd_ne hq] at e'
      exact kp q u (F.keep q u m e')
  · by_cases hq : q = p
    · subst hq
      refine P.out q (by show upd H q o q ≠ none; rw [upd_same]; simp) ?_
      show B q = none
      cases e : B q with
      | none => rfl
      | some u => have := F.bh q u e; rw [hp] at this; cases this
    · have n' : upd A.H0 p o q ≠ none := n
      rw [upd_ne hq] at n'
      exact ou q (F.alive q n') (F.out q n' z)
  · by_cases hq : q = p
    · subst hq
      rw [P.keep q o (fun z => z) upd_same]; simp
    · have n' : upd A.H0 p o q ≠ none := n
      rw [upd_ne hq] at n'
      exact al q (F.alive q n')
  · have hq : q ≠ p := fun z => by rw [z] at e; exact absurd (F.sub p u e) (by rw [h0]; simp)
    show upd A.H0 p o q = some u
    rw [upd_ne hq]; exact F.sub q u e
  · have := F.mh q m
    have hq : q ≠ p := fun z => this (by rw [z]; exact h0)
    show upd A.H0 p o q ≠ none
    rw [upd_ne hq]; exact this
  · have hh := fun z => F.hot e (p := z)
    have h := F.sl i s e
    cases s with
    | no => trivial
    | imm r a => obtain ⟨v, e, k⟩ := h; exact ⟨v, e, r.mono bb k⟩
    | cel q c a =>
      obtain ⟨e1, n, m, u, hu, k⟩ := h
      have hq : q ≠ p := fun z => by rw [z, hp] at hu; cases hu
      refine ⟨e1, ou q (by rw [hu]; simp) n, ?_, u, kp q u hu, c.mono bb k⟩
      rcases m with m | m
      · exact .inl (by show upd A.H0 p o q = none; rw [upd_ne hq]; exact m)
      · exact .inr m
theorem ec_call {m : α → Option β} {a : α} {b : β} {E : XK} {ta : TA} (h : EvW w ta Γ Γ1 a) (e : m a = some b) : EvC c (tCall (SpC w c m) [] E ta) Γ Γ1 b := fun A σ H B F Q q => h A σ H B F _ fun vs H1 B1 F1 s1 k1 => by
  rw [List.append_nil]
  exact ⟨B1, a, b, F1.sz, F1.bh, k1, e, fun p o H2 B2 P hp k => q p o H2 B2 (F1.afterC P hp) (F1.H0none hp) (s1.trans P.b0) k⟩
end
/-- the sizes of what is tracked are known to whoever runs -/
theorem sz_of_hok {P : Program} {w : World} {H : Hp} {h : Heap} (x : HOk P w H h) : Sz H := fun p o e => by
  have k := x p o e
  cases o with
  | lst xs => exact k.1
  | tup xs => exact k.1
  | dK kvs => exact k.1
  | dT kvs => exact k.1
  | _ => trivial
theorem pss_sz {X : Cx} {st : List Stmt} {t : TS} (h : PSs X st t) : PSs X st (fun D σ H => Sz H → t D σ H) := ⟨fun pins s σ H D I q => h.run pins s σ H D I (q (sz_of_hok I.hok))⟩
/-- as SpP, the sizes not asked for -/
def SpL {α β : Type} (w : Rw α) (r : Rp β) (m : α → Option β) : Sp := fun vs H Q _ => ∃ B a b, Same B H ∧ w.rel B vs a ∧ m a = some b ∧ Rt (amb0 B H) (psi r) b Q
end G

set_option maxHeartbeats 4000000
/-! # G: a statement with more behind it -/
namespace G
open PySem PySem.Spec PyProof.Rows L2
section
variable {α β γ ρ ς : Type} {r ra : Rp α} {rb : Rp β} {c : Cl α} {cc : Cl γ} {w : Rw α} {te : TE} {tt : TT} {t t' u : TS} {D : Ends} {A : Amb} {Γ Γ1 Γ2 M : List Sl} {a : α} {b : β} {i : Nat} {K : PySem.W.Frag} {P : L2.St → Hp → Prop} {ψ : ρ → Hp → Hp → V → Prop} {p : Addr}
theorem sq_next (h : Nx A (u D) Γ) : Nx A (tSeq tNext u D) Γ := h
theorem sq_brk (h : Nx A D.bk Γ) : Nx A (tSeq tBreak u D) Γ := h
theorem sq_cont (h : Nx A D.ct Γ) : Nx A (tSeq tCont u D) Γ := h
theorem sq_asg (h : EvX r te Γ Γ1 a) (k : Nx A (u D) (Γ1.set i (.imm r a))) : Nx A (tSeq (tAsg te (gName i)) u D) Γ := nx_asg (D := { D with nx := u D }) h k
theorem sq_asgC (h : EvC c te Γ Γ1 a) (k : ∀ p, ¬ A.m p → Nx A (u D) (Γ1.set i (.cel p c a))) : Nx A (tSeq (tAsg te (gName i)) u D) Γ := nx_asgC (D := { D with nx := u D }) h k
theorem sq_if {b : Bool} (h : EvT tt Γ Γ1 b) (h1 : b = true → Nx A (t { D with nx := u D }) Γ1) (h2 : b = false → Nx A (t' { D with nx := u D }) Γ1) : Nx A (tSeq (tIfS tt t t') u D) Γ := nx_if (D := { D with nx := u D }) h h1 h2
theorem sq_drop (h : EvX r te Γ Γ1 a) (k : Nx A (u D) Γ1) : Nx A (tSeq (tDrop te) u D) Γ := nx_drop (D := { D with nx := u D }) h k
theorem sq_ret {b : α} (h : EvX r te Γ Γ1 a) (e : some a = some b) (k : Rt A (psi r) b D.rt) : Nx A (tSeq (tRet te) u D) Γ := nx_ret (D := { D with nx := u D }) h e k
theorem sq_retS {st : γ} {b : α × γ} (h : EvX r te Γ Γ1 a) (hi : Γ1[i]? = some (.cel p cc st)) (e : some (a, st) = some b) (k : Rt A (psiS p cc r) b D.rt) : Nx A (tSeq (tRet te) u D) Γ := nx_retS (D := { D with nx := u D }) h hi e k
theorem sq_retC {a b : α} (h : EvC c te Γ Γ1 a) (e : some a = some b) (k : RtC A c b D.rt) : Nx A (tSeq (tRet te) u D) Γ := nx_retC (D := { D with nx := u D }) h e k
theorem sq_asgT {g : TG} {vs : List Nat} {Γf : α → List Sl} (h : EvX r te Γ Γ1 a) (hg : TgX g r vs Γ1 Γf) (k : Nx A (u D) (Γf a)) : Nx A (tSeq (tAsg te g) u D) Γ := nx_asgT (D := { D with nx := u D }) h hg k
theorem sq_setR {k : Nat} {f : α → β → α} (h : EvX rb te Γ Γ1 b) (hi : Γ1[i]? = some (.cel p (cHls w) a)) (g : Upd w k rb f) (n : Nx A (u D) (Γ1.set i (.cel p (cHls w) (f a b)))) : Nx A (tSeq (tAsg te (gSub (tVar i) (tC (.int (k : Int))) rSetL)) u D) Γ := nx_setR (D := { D with nx := u D }) h hi g n
theorem sq_for {wi : TI} {g : TG} {tb : TS} {vs : List Nat} {xs : List α} (f : α → ς → Option (Step ρ ς)) (mk : ς → List Sl) {Γf : α → ς → List Sl} {s0 : ς} {R0 : Step ρ ς}
    (hi : ItX r wi Γ Γ1 xs) (e : forL f xs s0 = some R0) (h0 : ∀ A' : Amb, A'.m = A.m → Nx A' (Fin A' (mk s0)) Γ1)
    (hg : ∀ s, TgX g r vs (mk s) (fun x => Γf x s))
    (hb : ∀ (A' : Amb) (D' : Ends) (x : α) (s : ς) (st : Step ρ ς), A'.m = A.m → f x s = some st → Conts A' ψ D' mk st → Nx A' (tb D') (Γf x s))
    (hr : ∀ b, R0 = .ret b → Rt A ψ b D.rt) (hd : ∀ s, R0 = .nx s → Nx A (u D) (mk s)) : Nx A (tSeq (tFor wi g tb) u D) Γ := nx_for (D := { D with nx := u D }) f mk hi e h0 hg hb hr hd
end
end G

set_option maxHeartbeats 4000000
/-! # G: objects of own classes, errors -/
namespace G
open PySem PySem.Spec PyProof.Rows L2
section
variable {α β γ ρ ς ε : Type} {r ra : Rp α} {rb : Rp β} {rc : Rp γ} {te ta tb : TE} {Γ Γ1 Γ2 : List Sl} {K : PySem.W.Frag} {a : α} {b : β} {w : Rw α} {C : Addr} {names : List Str}
/-- an instance of the class at C, its attributes in the order of their storing -/
def cIns {α : Type} (C : Addr) (names : List Str) (w : Rw α) : Cl α := ⟨fun H o a => ∃ dx vs, o = .ins C dx (names.zip vs) ∧ vs.length = names.length ∧ w.rel H vs a, fun s ⟨dx, vs, e, l, h⟩ => ⟨dx, vs, e, l, w.mono s h⟩⟩
def rIns {α : Type} (C : Addr) (names : List Str) (w : Rw α) : Rp α := rOb (cIns C names w)
theorem zip_lookup : ∀ {names : List Str} {vs : List V} {k : Nat} {nm : Str} {v : V}, names.Nodup → names[k]? = some nm → vs[k]? = some v → (names.zip vs).lookup nm = some v
  | [], _, _, _, _, _, h, _ => by simp at h
  | _ :: _, [], _, _, _, _, _, h => by simp at h
  | n :: ns, u :: us, 0, nm, v, _, h1, h2 => by
    simp at h1 h2; subst h1; subst h2
    simp [List.lookup]
  | n :: ns, u :: us, k + 1, nm, v, nd, h1, h2 => by
    have h1' : ns[k]? = some nm := by simpa using h1
    have h2' : us[k]? = some v := by simpa using h2
    have hne : nm ≠ n := fun e => (List.nodup_cons.mp nd).1 (by rw [← e]; exact List.mem_of_getElem? h1')
    show List.lookup nm ((n, u) :: ns.zip us) = some v
    have e : (nm == n) = false := beq_eq_false_iff_ne.mpr hne
    simp only [List.lookup, e]
    exact zip_lookup (List.nodup_cons.mp nd).2 h1' h2'
theorem zip_none : ∀ {names : List Str} {vs : List V} {nm : Str}, nm ∉ names → (names.zip vs).lookup nm = none
  | [], _, _, _ => by simp
  | _ :: _, [], _, _ => by simp
  | n :: ns, u :: us, nm, h => by
    show List.lookup nm ((n, u) :: ns.zip us) = none
    have e : (nm == n) = false := beq_eq_false_iff_ne.mpr fun e => h (by rw [e]; exact List.mem_cons_self)
    simp only [List.lookup, e]
    exact zip_none fun z => h (List.mem_cons_of_mem _ z)
theorem putF_zip : ∀ {names : List Str} {vs : List V} {nm : Str} {v : V}, nm ∉ names → vs.length = names.length → putF nm v (names.zip vs) = (names ++ [nm]).zip (vs ++ [v])
  | [], [], _, _, _, _ => rfl
  | [], _ :: _, _, _, _, h => by cases h
  | _ :: _, [], _, _, _, h => by cases h
  | n :: ns, u :: us, nm, v, h, l => by
    show (if n = nm then (n, v) :: ns.zip us else (n, u) :: putF nm v (ns.zip us)) = (n, u) :: (ns ++ [nm]).zip (us ++ [v])
    rw [if_neg fun e => h (by rw [e]; exact List.mem_cons_self), putF_zip (fun z => h (List.mem_cons_of_mem _ z)) (by simpa using l)]
theorem ob_ins {B H : Hp} {u : V} (s : Same B H) (h : (rIns C names w).rel B u a) : ∃ p dx vs, u = .ref p ∧ H p = some (.ins C dx (names.zip vs)) ∧ vs.length = names.length ∧ w.rel B vs a := by
  obtain ⟨p, o, e, hp, dx, vs, rfl, l, k⟩ := h
  exact ⟨p, dx, vs, e, s _ _ hp, l, k⟩
theorem ev_fld {k : Nat} {nm : Str} {f : α → β} (h : EvX (rIns C names w) te Γ Γ1 a) (g : Acc w k rb f) (hk : names[k]? = some nm) (nd : names.Nodup) (c : Cls K C) (na : NoAttr K C nm) : EvX rb (tFld K te nm) Γ Γ1 (f a) := fun A σ H B F Q q =>
  h A σ H B F _ fun v H1 B1 F1 s1 k1 => by
    obtain ⟨p, dx, vs, rfl, hp, l, kw⟩ := ob_ins F1.bh k1
    obtain ⟨u, hu, ku⟩ := g B1 vs a kw
    exact ⟨p, C, dx, _, u, rfl, hp, c, na, zip_lookup nd hk hu, q u H1 B1 F1 s1 ku⟩
theorem ev_celFld {i : Nat} {p : Addr} {k : Nat} {nm : Str} {f : α → β} (h : Γ[i]? = some (.cel p (cIns C names w) a)) (g : Acc w k rb f) (hk : names[k]? = some nm) (nd : names.Nodup) (c : Cls K C) (na : NoAttr K C nm) : EvX rb (tFld K (tVar i) nm) Γ Γ (f a) := fun A σ H B F Q q => by
  obtain ⟨e, o, ho, dx, vs, rfl, l, kw⟩ := cel_at F h
  obtain ⟨u, hu, ku⟩ := g B vs a kw
  exact ⟨_, e, p, C, dx, _, u, rfl, ho, c, na, zip_lookup nd hk hu, q u H B F (Same.refl _) ku⟩
/-- one attribute more -/
def Snoc {α β γ : Type} (w : Rw α) (r : Rp β) (w' : Rw γ) (f : α → β → γ) : Prop := ∀ B vs a v b, w.rel B vs a → r.rel B v b → w'.rel B (vs ++ [v]) (f a b)
theorem snoc0 : Snoc w0 ra (w1 ra) (fun _ b => b) := fun B vs a v b h k => ⟨v, by rw [show vs = [] from h]; rfl, k⟩
theorem snoc1 : Snoc (w1 ra) rb (wC ra (w1 rb)) (fun a b => (a, b)) := fun B vs a v b ⟨u, e, h⟩ k => ⟨u, [v], by rw [e]; rfl, h, v, rfl, k⟩
theorem snocC {w : Rw β} {w' : Rw ς} {f : β → γ → ς} (s : Snoc w rc w' f) : Snoc (wC ra w) rc (wC ra w') (fun a b => (a.1, f a.2 b)) := fun B vs a v b ⟨u, t, e, h, g⟩ k => ⟨u, t ++ [v], by rw [e]; rfl, h, s B t a.2 v b g k⟩
theorem sq_fld {A : Amb} {D : Ends} {u : TS} {i : Nat} {p : Addr} {nm : Str} {w' : Rw γ} {f : α → β → γ} (h : EvX rb te Γ Γ1 b) (hi : Γ1[i]? = some (.cel p (cIns C names w) a)) (sn : Snoc w rb w' f) (nn : nm ∉ names) (hl : names.length < 900) (c : Cls K C) (na : NoAttr K C nm)
    (k : Nx A (u D) (Γ1.set i (.cel p (cIns C (names ++ [nm]) w') (f a b)))) : Nx A (tSeq (sFld K (tVar i) te nm) u D) Γ := fun σ H B F => h A σ H B F _ fun v H1 B1 F1 s1 k1 => by
  obtain ⟨e, o, ho, dx, vs, rfl, l, kw⟩ := cel_at F1 hi
  refine ⟨_, e, p, C, dx, _, rfl, ho, c, na, by rw [List.length_zip]; omega, ?_⟩
  exact k σ _ B1 (F1.write hi (c' := cIns C (names ++ [nm]) w') (o' := .ins C dx (putF nm v (names.zip vs))) ⟨dx, vs ++ [v], by rw [putF_zip nn l], by rw [List.length_append, List.length_append, l]; rfl, sn B1 vs a v b kw k1⟩ trivial)
end

/-! ### errors -/
inductive Res (ε β : Type) where
  | ok (b : β)
  | er (e : ε)
def resO {ε β γ : Type} (x : Res ε β) (k : β → Option (Res ε γ)) : Option (Res ε γ) := match x with
  | .ok b => k b
  | .er e => some (.er e)
@[simp] theorem resO_ok {ε β γ : Type} (b : β) (k : β → Option (Res ε γ)) : resO (.ok b) k = k b := rfl
@[simp] theorem resO_er {ε β γ : Type} (e : ε) (k : β → Option (Res ε γ)) : resO (.er e) k = some (.er e) := rfl
/-- how an error of ε lies: its class, its dict's address -/
abbrev ER (ε : Type) := Hp → Value → Option Addr → ε → Prop
def ErAt {α : Type} (H : Hp) (cls : Value) (d : Option Addr) (C : Addr) (names : List Str) (w : Rw α) (a : α) : Prop :=
  cls = .ref C ∧ ∃ dd fs vs, d = some dd ∧ H dd = some (.xd fs) ∧ w.rel H vs a ∧ ∀ (k : Nat) (nm : Str), names[k]? = some nm → fs.lookup nm = vs[k]?
def RtE {ε : Type} (A : Amb) (R : ER ε) (e : ε) (E : XK) : Prop := ∀ cls d H' B', Post A H' B' → R B' cls d e → E cls d H'
def SpX {ε α β : Type} (R : ER ε) (w : Rw α) (r : Rp β) (m : α → Option (Res ε β)) : Sp := fun vs H Q E => ∃ B a x, Sz H ∧ Same B H ∧ w.rel B vs a ∧ m a = some x ∧ (∀ b, x = .ok b → Rt (amb0 B H) (psi r) b Q) ∧ ∀ e, x = .er e → RtE (amb0 B H) R e E
/-- what an __init__ leaves -/
def RtI {β : Type} (A : Amb) (p : Addr) (c : Cl β) (b : β) (Q : VK) : Prop := ∀ H' B', Post A H' B' → (∃ o, H' p = some o ∧ c.ok B' o b) → Q .non H'
def SpI {ε α β : Type} (R : ER ε) (C : Addr) (w : Rw α) (c : Cl β) (m : α → Option (Res ε β)) : Sp := fun vs H Q E => ∃ p dx vs' B a x, vs = .ref p :: vs' ∧ H p = some (.ins C dx []) ∧ B p = none ∧ Sz H ∧ Same B H ∧ w.rel B vs' a ∧ m a = some x ∧
  (∀ b, x = .ok b → RtI (ambS B H p) p c b Q) ∧ ∀ e, x = .er e → RtE (ambS B H p) R e E
/-- an error's __init__: its arguments are stored, one or two -/
def SpE1 (C : Addr) (nm : Str) : Sp := fun vs H Q _ => ∃ a v, vs = [.ref a, v] ∧ H a = some (exo a C none) ∧ ∀ dx, H dx = none → dx ≠ a → Q .non (upd (upd H dx (exd dx [(nm, v)])) a (exo a C (some dx)))
def SpE2 (C : Addr) (n1 n2 : Str) : Sp := fun vs H Q _ => ∃ a v u, vs = [.ref a, v, u] ∧ H a = some (exo a C none) ∧ ∀ dx, H dx = none → dx ≠ a → Q .non (upd (upd H dx (exd dx [(n2, u), (n1, v)])) a (exo a C (some dx)))
section
variable {P : Program} {w : World} {K : PySem.W.Frag} {mg : Str → Option Value} {base : Heap}
/-- the body «self.nm = nm» -/
theorem okE1 {f C : Addr} {fd : FuncData} {st : Stmt} {N : List Str} {qual nm p1 : Str} {pos1 pos2 pos3 pos4 : Pos} (F : Fun K "__init__" qual st f fd) (S : FnScope N ["self", p1] (defScope st)) (T : OexC K C) (na : PySem.W.findIn K (.ref C) nm = some none)
    (hb : defBody st = [.Assign [.Attribute (.Name "self" pos1) nm pos2] (.Name p1 pos3) pos4]) (h0 : N[0]? = some ("self" : Str)) (h1 : N[1]? = some p1) (v0 : Vis (defScope st) ("self" : Str)) (v1 : Vis (defScope st) p1)
    (d0 : (p1 == ("__debug__" : Str)) = false) (d1 : (p1 == ("__classdict__" : Str)) = false) (hl : N.length = 2) : FnOk P w K mg base CX0 1 f fd ["self", p1] (SpE1 C nm) := by
  refine F.ok S (fun vs H Q E h => ?_) (fun cdv A outer s H vs Q E hr h => ?_)
  · obtain ⟨a, v, rfl, _⟩ := h; rfl
  · obtain ⟨a, v, rfl, ha, k⟩ := h
    rw [hb]
    refine ⟨_, pss_one (ps_ost (pe_var (i := 0) h0 v0) (pe_var (i := 1) h1 v1 d0 d1)), ?_⟩
    have hN : L2.start N [.ref a, v] = [some (.ref a), some v] := by
      unfold L2.start; simp [hl]
    rw [hN]
    exact ⟨v, rfl, _, rfl, a, C, rfl, T, na, .inl ⟨ha, fun dx n ne => k dx n ne⟩⟩
end
theorem upd_comm {H : Hp} {a b : Addr} {o u : HO} (h : a ≠ b) : upd (upd H a o) b u = upd (upd H b u) a o := by
  funext c; unfold upd
  by_cases h1 : c = b
  · by_cases h2 : c = a
    · exact absurd (h2.symm.trans h1) h
    · rw [if_pos h1, if_neg h2, if_pos h1]
  · rw [if_neg h1]
    by_cases h2 : c = a
    · rw [if_pos h2, if_pos h2]
    · rw [if_neg h2, if_neg h2, if_neg h1]
theorem del_made {H : Hp} {a dx : Addr} {o1 o2 o3 o4 : HO} (ha : H a = none) (ne : dx ≠ a) : upd (del (upd (upd (upd H a o1) dx o2) a o3) a) dx o4 = upd H dx o4 := by
  funext c
  by_cases h1 : c = dx
  · rw [h1, upd_same, upd_same]
  · rw [upd_ne h1, upd_ne h1]
    by_cases h2 : c = a
    · rw [h2, del_same, ha]
    · rw [del_ne h2, upd_ne h2, upd_ne h1, upd_ne h2]
section
variable {α β γ ρ ς ε : Type} {r ra : Rp α} {rb : Rp β} {te : TE} {ta : TA} {Γ Γ1 Γ2 : List Sl} {K : PySem.W.Frag} {a : α} {b : β} {w : Rw α} {C : Addr} {A : Amb} {D : Ends} {u : TS} {R : ER ε} {E : XK}
theorem Frm.plus {σ : L2.St} {H B : Hp} {p : Addr} {o : HO} (F : Frm A σ H B Γ) (hp : H p = none) (ho : szO o) : Frm A σ (upd H p o) (upd B p o) Γ := (F.fresh hp ho).adopt (F.H0none hp) F.sub F.mh
/-- raise C(x): one argument -/
theorem sq_raise1 {nm : Str} {W : WX} {e : ε} (h : EvX r te Γ Γ1 a) (k : RtE A R e E) (hR : ∀ B cls d, ErAt B cls d C [nm] (w1 r) a → R B cls d e) (hW : ∀ cls d σ H, E cls d H → W cls d σ H) :
    Nx A (tSeq (fun _ σ H => tMkO C (SpE1 C nm) [] (tCons te tNil) σ H fun cls d H' => W cls d σ H') u D) Γ := fun σ H B F => h A σ H B F _ fun v H1 B1 F1 s1 k1 => by
  refine ⟨by show 1 ≤ 1000; decide, fun x hx => ⟨x, v, rfl, upd_same, fun dx n ne => ⟨rfl, dx, [(nm, v)], upd_same, ?_, ?_, ?_⟩⟩⟩
  · rw [upd_ne ne, upd_same]
  · rw [upd_ne ne] at n; exact n
  · have n1 : H1 dx = none := by rw [upd_ne ne] at n; exact n
    rw [del_made hx ne]
    refine hW _ _ _ _ (k _ _ _ _ (F1.plus (o := .xd [(nm, v)]) n1 trivial).post (hR _ _ _ ⟨rfl, dx, [(nm, v)], [v], rfl, upd_same, ⟨v, rfl, ?_⟩, fun j m hj => ?_⟩))
    · exact r.mono (fun b o q => by rw [upd_ne (ne_of_none (F1.bh b o q) n1)]; exact q) k1
    · cases j with
      | zero => simp at hj; subst hj; simp [List.lookup]
      | succ j => simp at hj
end
/-! ### a call that may raise -/
/-- an expression with two ends; W is what is wished of an error -/
def EvR {ε α : Type} (R : ER ε) (r : Rp α) (te : (L2.St → XK) → TE) (Γ Γ' : List Sl) (x : Res ε α) : Prop := ∀ (A : Amb) (σ : L2.St) (H B : Hp), Frm A σ H B Γ → ∀ (E : L2.St → XK) (Q : VK),
  (∀ b, x = .ok b → ∀ v H' B', Frm A σ H' B' Γ' → Same B B' → r.rel B' v b → Q v H') → (∀ e, x = .er e → ∀ cls d H' B', Frm A σ H' B' Γ' → Same B B' → R B' cls d e → E σ cls d H') → te E σ H Q
/-- C(e, ..) whose __init__ may raise, within a try -/
def tMakeS (C : Addr) (sp : Sp) (E : L2.St → XK) (t : TA) : TE := fun σ H Q => t σ H fun vs H1 => ∀ x dx, H1 x = none → H1 dx = none → dx ≠ x →
  sp (.ref x :: vs) (upd (upd H1 dx (.own x)) x (.ins C dx [])) (fun v H2 => v = .non ∧ Q (.ref x) H2) (E σ)
section
variable {X : Cx} {CX : CXT} {k : Nat} {f C : Addr} {fd : FuncData} {ps : List Str} {sp : Sp} {E : L2.St → XK} {x : Str} {p pos : Pos} {e : Expr} {es : List Expr} {t : TA}
theorem run_makeS {pins : List (Addr × Obj)} {σ : L2.St} {H : Hp} {s : Shared} {Q : VK} {us : List Value} {vs : List V} (M : Mk X.K C f) (F : FnOk X.prog X.w X.K X.mg X.base CX k f fd ps sp) (hr : Room (k + 1) X.A) (hb : Binds X.K fd ps [])
    (hx : ∀ (pins : List (Addr × Obj)) (H' : Hp) (s : Shared) (e : Value) (s' : Shared), Inv X pins σ H' s → CX X.stack H' s (E σ) e s' → X.xe e s') (I : Inv X pins σ H s) (r : Vals vs us)
    (h : ∀ x dx, H x = none → H dx = none → dx ≠ x → sp (.ref x :: vs) (upd (upd H dx (.own x)) x (.ins C dx [])) (fun v H2 => v = .non ∧ Q (.ref x) H2) (E σ)) :
    wpAny (model X.prog X.w) X.A (call (.ref C) us) (EP X pins σ Q) X.xe s := by
  have hq := h (s.heap.objs.size + 1) s.heap.objs.size (I.hok.fresh (Nat.le_succ _)) (I.hok.fresh (Nat.le_refl _)) (Nat.ne_of_lt (Nat.lt_succ_self _))
  have I2 := Inv.made (C := C) I
  have r2 : Vals (V.ref (s.heap.objs.size + 1) :: vs) (Value.ref (s.heap.objs.size + 1) :: us) := .cons rfl r
  have hl : (Value.ref (s.heap.objs.size + 1) :: us).length = ps.length := by
    have e := r2.length
    rw [F.len _ _ _ _ hq] at e
    exact e.symm
  have bb := hb _ (Value.ref (s.heap.objs.size + 1) :: us) I2.kIn (by rw [List.append_nil]; exact hl)
  rw [List.append_nil] at bb
  refine wpAny_call (make_map (f := f) I.kIn M.makes M.init (beq_iff_eq.mp M.fn) (codeAny_mono (F.run _ X.stack _ _ ⟨Value.ref (s.heap.objs.size + 1) :: us, []⟩ (Value.ref (s.heap.objs.size + 1) :: us) _ _ (E σ) (hr.make C us [])
    (I2.env0.make C us []) bb r2 hq) fun r s' hq' => ?_))
  cases r with
  | error e => exact hx pins _ _ e s' I2 hq'
  | ok fl =>
    cases fl with
    | ret u =>
      obtain ⟨v, H2, os2, bare2, un2, hok2, rv, ev, q2⟩ := hq'
      subst ev
      exact ⟨rv, .ref (s.heap.objs.size + 1), H2, I2.call' (ch := []) os2 un2 hok2 bare2 (fun b z => absurd z (by simp)), rfl, q2⟩
    | next => exact False.elim hq'
    | brk => exact False.elim hq'
    | cont => exact False.elim hq'
theorem pe_makeS (M : Mk X.K C f) (F : FnOk X.prog X.w X.K X.mg X.base CX k f fd ps sp) (hr : Room (k + 1) X.A) (hg : Gl X x) (hm : X.mg x = some (.ref C)) (hb : Binds X.K fd ps [])
    (hx : ∀ σ, PassesAt CX X σ (E σ)) (ha : PA X (e :: es) t) (hdb : (x == ("__debug__" : Str)) = false := by decide) (he : starEach (e :: es) X.env = (false, eval e X.env) :: starEach es X.env := by rfl) (hpl : (backTo pos (starEach es X.env)).any (·.1) = false := by rfl) :
    PE X (.Call (.Name x p) (e :: es) [] pos) (tMakeS C sp E t) := by
  refine ⟨fun pins s σ H Q I h => ?_⟩
  refine wpAny_Call_Name_kw (ld_glob I hg hm ?_ hdb)
  refine PySem.W.callWith_K (h₀ := X.base) I.ok.mod.kin M.kp (thn (ha.run pos pins s σ H _ I h) fun us s1 ⟨vs, H1, I1, r, q⟩ => ⟨I1.kIn, ?_⟩) he hpl
  exact run_makeS M F hr hb (fun pins H' s e s' I' c => hx σ pins H' s e s' I' c) I1 r q
end
section
variable {α β γ ρ ς ε : Type} {r ra : Rp α} {rb : Rp β} {ta : TA} {Γ Γ1 Γ2 : List Sl} {K : PySem.W.Frag} {a : α} {b : β} {w : Rw α} {C : Addr} {names : List Str} {A : Amb} {D : Ends} {u : TS} {R : ER ε}
/-- what an object is, behind its making -/
theorem made_frame {σ : L2.St} {H B : Hp} {x dx : Addr} (F : Frm A σ H B Γ) (hx : H x = none) (hd : H dx = none) (ne : dx ≠ x) {H' B' : Hp}
    (P : Post (ambS (upd B dx (.own x)) (upd (upd H dx (.own x)) x (.ins C dx [])) x) H' B') {o : HO} (ho : H' x = some o) : Frm (A.add x o) σ H' B' Γ := by
  have kp : ∀ q u, H q = some u → H' q = some u := fun q u e => P.keep q u (fun (z : q = x) => by rw [z, hx] at e; cases e) (by
    show upd (upd H dx (.own x)) x (.ins C dx []) q = some u
    rw [upd_ne (ne_of_none e hx), upd_ne (ne_of_none e hd)]; exact e)
  have bdx : B dx = none := by
    cases e : B dx with
    | none => rfl
    | some u => have := F.bh dx u e; rw [hd] at this; cases this
  have bb : Same B B' := fun q u e => P.b0 q u (by show upd B dx (.own x) q = some u; rw [upd_ne (ne_of_none e bdx)]; exact e)
  have nout : ∀ q, H q ≠ none → B q = none → B' q = none := fun q n z => by
    have q1 : q ≠ x := fun e => n (by rw [e]; exact hx)
    have q2 : q ≠ dx := fun e => n (by rw [e]; exact hd)
    exact P.out q (by show upd (upd H dx (.own x)) x (.ins C dx []) q ≠ none; rw [upd_ne q1, upd_ne q2]; exact n) (by show upd B dx (.own x) q = none; rw [upd_ne q2]; exact z)
  have al : ∀ q, H q ≠ none → H' q ≠ none := fun q n => by
    cases e : H q with
    | none => exact absurd e n
    | some u => rw [kp q u e]; simp
  have h0 := F.H0none hx
  have bx : B' x = none := P.out x (by show upd (upd H dx (.own x)) x (.ins C dx []) x ≠ none; rw [upd_same]; simp) (by
    show upd B dx (.own x) x = none
    rw [upd_ne (Ne.symm ne)]
    cases e : B x with
    | none => rfl
    | some u => have := F.bh x u e; rw [hx] at this; cases this)
  refine ⟨⟨P.bh, fun q u e => bb q u (F.b0 q u e), fun q u m e => ?_, fun q n z => ?_, fun q n => ?_, fun q u e => ?_, fun q m => ?_, A.up _ _ bb F.ph, P.sz⟩, F.len, fun i s e => ?_, F.ds⟩
  · by_cases hq : q = x
    · subst hq
      have e' : upd A.H0 q o q = some u := e
      rw [upd_same] at e'
      cases e'; exact ho
    · have e' : upd A.H0 x o q = some u := e
      rw [upd_ne hq] at e'
      exact kp q u (F.keep q u m e')
  · by_cases hq : q = x
    · rw [hq]; exact bx
    · have n' : upd A.H0 x o q ≠ none := n
      rw [upd_ne hq] at n'
      exact nout q (F.alive q n') (F.out q n' z)
  · by_cases hq : q = x
    · rw [hq, ho]; simp
    · have n' : upd A.H0 x o q ≠ none := n
      rw [upd_ne hq] at n'
      exact al q (F.alive q n')
  · have hq : q ≠ x := fun z => by rw [z] at e; exact absurd (F.sub x u e) (by rw [h0]; simp)
    show upd A.H0 x o q = some u
    rw [upd_ne hq]; exact F.sub q u e
  · have := F.mh q m
    have hq : q ≠ x := fun z => this (by rw [z]; exact h0)
    show upd A.H0 x o q ≠ none
    rw [upd_ne hq]; exact this
  · have h := F.sl i s e
    have hh := fun z => F.hot e (p := z)
    cases s with
    | no => trivial
    | imm r a => obtain ⟨v, e, k⟩ := h; exact ⟨v, e, r.mono bb k⟩
    | cel q c a =>
      obtain ⟨e1, n, m, u, hu, k⟩ := h
      have hq : q ≠ x := fun z => by rw [z, hx] at hu; cases hu
      refine ⟨e1, nout q (by rw [hu]; simp) n, ?_, u, kp q u hu, c.mono bb k⟩
      rcases m with m | m
      · exact .inl (by show upd A.H0 x o q = none; rw [upd_ne hq]; exact m)
      · exact .inr m
theorem made_pre {σ : L2.St} {H B : Hp} {x dx : Addr} (F : Frm A σ H B Γ) (hx : H x = none) (hd : H dx = none) (ne : dx ≠ x) :
    Sz (upd (upd H dx (.own x)) x (.ins C dx [])) ∧ Same (upd B dx (.own x)) (upd (upd H dx (.own x)) x (.ins C dx [])) ∧ (upd B dx (.own x)) x = none ∧ Same B (upd B dx (.own x)) := by
  have bx : B x = none := by
    cases e : B x with
    | none => rfl
    | some u => have := F.bh x u e; rw [hx] at this; cases this
  have bdx : B dx = none := by
    cases e : B dx with
    | none => rfl
    | some u => have := F.bh dx u e; rw [hd] at this; cases this
  refine ⟨(F.sz.upd (o := .own x) trivial).upd (o := .ins C dx []) trivial, fun q u e => ?_, by rw [upd_ne (Ne.symm ne)]; exact bx, fun q u e => by rw [upd_ne (ne_of_none e bdx)]; exact e⟩
  by_cases hq : q = dx
  · subst hq
    rw [upd_same] at e; cases e
    rw [upd_ne ne, upd_same]
  · rw [upd_ne hq] at e
    rw [upd_ne (ne_of_none (F.bh q u e) hx), upd_ne hq]; exact F.bh q u e
/-- a class is called; its __init__ may raise -/
theorem er_make {wb : Rw β} {m : α → Option (Res ε β)} {x : Res ε β} (hmono : ∀ {H H' cls d e}, Same H H' → R H cls d e → R H' cls d e) (h : EvW w ta Γ Γ1 a) (e : m a = some x) :
    EvR R (rIns C names wb) (fun E => tMakeS C (SpI R C w (cIns C names wb) m) E ta) Γ Γ1 x := fun A σ H B F E Q qo qe => h A σ H B F _ fun vs H1 B1 F1 s1 k1 => by
  intro y dy hy hd ne
  obtain ⟨p1, p2, p3, p4⟩ := made_pre (C := C) F1 hy hd ne
  refine ⟨y, dy, vs, upd B1 dy (.own y), a, x, rfl, upd_same, p3, p1, p2, w.mono p4 k1, e, fun b hb H2 B2 P ⟨o, ho, k⟩ => ⟨rfl, ?_⟩, fun er he cls d H2 B2 P k => ?_⟩
  · have F2 := made_frame (A := A) F1 hy hd ne P ho
    have n0 := F1.H0none hy
    have F3 := F2.adopt n0 F1.sub F1.mh
    have hB2 : B2 y = none := P.out y (by show upd (upd H1 dy (.own y)) y (.ins C dy []) y ≠ none; rw [upd_same]; simp) p3
    have s3 : Same B2 (upd B2 y o) := fun q u e => by rw [upd_ne (ne_of_none e hB2)]; exact e
    exact qo b hb _ _ _ F3 (s1.trans (p4.trans (P.b0.trans s3))) ⟨y, o, rfl, upd_same, (cIns C names wb).mono s3 k⟩
  · -- the object is let go: it is forgotten among what is hidden
    have hox : ∃ o, H2 y = some o := by
      cases q : H2 y with
      | none => exact absurd q (P.alive y (by show upd (upd H1 dy (.own y)) y (.ins C dy []) y ≠ none; rw [upd_same]; simp))
      | some o => exact ⟨o, rfl⟩
    obtain ⟨o, ho⟩ := hox
    exact qe er he cls d _ _ ((made_frame (A := A) F1 hy hd ne P ho).drop (F1.H0none hy) F1.sub F1.mh) (s1.trans (p4.trans P.b0)) k
end
end G

set_option maxHeartbeats 4000000
/-! # G: more words: in, ==, +, append, enumerate -/
namespace G
open PySem PySem.Spec PyProof.Rows L2
section
variable {α β γ ρ ς ε : Type} {r ra : Rp α} {rb : Rp β} {c : Cl α} {te ta tb : TE} {Γ Γ1 Γ2 : List Sl} {K : PySem.W.Frag} {a x : α} {b : β} {w : Rw α} {xs ys zs : List α} {i : Nat} {p : Addr} {A : Amb} {D : Ends} {u : TS}
/-! ### in -/
structure Fl {α : Type} [DecidableEq α] (r : Rp α) extends Sc r where
  fl : ∀ a, flatV (val a) = true
  eq : ∀ a b, eqV (val a) (val b) = decide (a = b)
theorem bq_int (i j : Int) : (i == j) = decide (i = j) := by by_cases h : i = j <;> simp [h]
theorem bq_str (i j : Str) : (i == j) = decide (i = j) := by by_cases h : i = j <;> simp [h]
theorem bq_bool (i j : Bool) : (i == j) = decide (i = j) := by cases i <;> cases j <;> rfl
def fl_int : Fl rInt := { scInt with fl := fun _ => rfl, eq := bq_int }
def fl_str : Fl rStr := { scStr with fl := fun _ => rfl, eq := bq_str }
def fl_bool : Fl rBool := { scBool with fl := fun _ => rfl, eq := bq_bool }
theorem Fl.vals [DecidableEq α] (f : Fl r) {B : Hp} {vs : List V} (h : Paired (r.rel B) vs xs) : vs = xs.map f.val := Paired.mapEq (fun _ _ k => f.ok k) h
theorem Fl.inv [DecidableEq α] (f : Fl r) (a : α) : ∀ xs : List α, inV (f.val a) (xs.map f.val) = decide (a ∈ xs)
  | [] => rfl
  | x :: xs => by
    have ih := f.inv a xs
    unfold inV at ih ⊢
    rw [List.map_cons, List.any_cons, ih, f.eq]
    by_cases h : x = a
    · subst h; simp
    · have h' : ¬ a = x := fun e => h e.symm
      by_cases h2 : a ∈ xs <;> simp [h, h', h2]
theorem Fl.allf [DecidableEq α] (f : Fl r) : ∀ xs : List α, (xs.map f.val).all flatV = true
  | [] => rfl
  | x :: xs => by rw [List.map_cons, List.all_cons, f.fl, f.allf xs]; rfl
theorem rin_of [DecidableEq α] (f : Fl r) {H B : Hp} {v : V} {vs : List V} {q : Addr} (neg : Bool) (hs : SqL K H q vs ∨ SqT K H q vs) (hv : r.rel B v a) (hp : Paired (r.rel B) vs xs) {Q : VK} (k : Q (.bl (if neg then !decide (a ∈ xs) else decide (a ∈ xs))) H) : rIn K neg v (.ref q) H Q := by
  rw [f.ok hv]
  refine ⟨q, vs, rfl, hs, f.fl a, by rw [f.vals hp]; exact f.allf xs, ?_⟩
  rw [f.vals hp, f.inv]; exact k
theorem ev_inL [DecidableEq α] (f : Fl r) (ha : EvX r ta Γ Γ1 a) (hb : EvX (rLst r) tb Γ1 Γ2 xs) : EvX rBool (tOp (rIn K false) ta tb) Γ Γ2 (decide (a ∈ xs)) := ev_op ha hb fun H B u v s ku kv Q q => by
  obtain ⟨p, vs, rfl, hp, k⟩ := ob_lst s kv
  exact rin_of f false (.inl (SqL.of hp)) ku k (q _ rfl)
theorem ev_ninL [DecidableEq α] (f : Fl r) (ha : EvX r ta Γ Γ1 a) (hb : EvX (rLst r) tb Γ1 Γ2 xs) : EvX rBool (tOp (rIn K true) ta tb) Γ Γ2 (!decide (a ∈ xs)) := ev_op ha hb fun H B u v s ku kv Q q => by
  obtain ⟨p, vs, rfl, hp, k⟩ := ob_lst s kv
  exact rin_of f true (.inl (SqL.of hp)) ku k (q _ rfl)
theorem ev_inT [DecidableEq α] (f : Fl r) (ha : EvX r ta Γ Γ1 a) (hb : EvX (rTpl r) tb Γ1 Γ2 xs) : EvX rBool (tOp (rIn K false) ta tb) Γ Γ2 (decide (a ∈ xs)) := ev_op ha hb fun H B u v s ku kv Q q => by
  obtain ⟨p, vs, rfl, hp, k⟩ := ob_tpl s kv
  exact rin_of f false (.inr (SqT.of hp)) ku k (q _ rfl)
theorem ev_ninT [DecidableEq α] (f : Fl r) (ha : EvX r ta Γ Γ1 a) (hb : EvX (rTpl r) tb Γ1 Γ2 xs) : EvX rBool (tOp (rIn K true) ta tb) Γ Γ2 (!decide (a ∈ xs)) := ev_op ha hb fun H B u v s ku kv Q q => by
  obtain ⟨p, vs, rfl, hp, k⟩ := ob_tpl s kv
  exact rin_of f true (.inr (SqT.of hp)) ku k (q _ rfl)
theorem cel_lst {A : Amb} {σ : L2.St} {H B : Hp} (F : Frm A σ H B Γ) (h : Γ[i]? = some (.cel p (cLst r) xs)) : σ[i]? = some (some (V.ref p)) ∧ ∃ vs, H p = some (.lst vs) ∧ Paired (r.rel B) vs xs := by
  obtain ⟨e, o, ho, vs, rfl, k⟩ := cel_at F h
  exact ⟨e, vs, ho, k⟩
theorem ev_inCel [DecidableEq α] (ha : EvX r ta Γ Γ1 a) (hi : Γ1[i]? = some (.cel p (cLst r) xs)) (f : Fl r) : EvX rBool (tOp (rIn K false) ta (tVar i)) Γ Γ1 (decide (a ∈ xs)) := fun A σ H B F Q q => ha A σ H B F _ fun v H' B' F' s k => by
  obtain ⟨e, vs, hp, kp⟩ := cel_lst F' hi
  exact ⟨_, e, rin_of f false (.inl (SqL.of hp)) k kp (q _ H' B' F' s rfl)⟩
theorem ev_ninCel [DecidableEq α] (ha : EvX r ta Γ Γ1 a) (hi : Γ1[i]? = some (.cel p (cLst r) xs)) (f : Fl r) : EvX rBool (tOp (rIn K true) ta (tVar i)) Γ Γ1 (!decide (a ∈ xs)) := fun A σ H B F Q q => ha A σ H B F _ fun v H' B' F' s k => by
  obtain ⟨e, vs, hp, kp⟩ := cel_lst F' hi
  exact ⟨_, e, rin_of f true (.inl (SqL.of hp)) k kp (q _ H' B' F' s rfl)⟩
/-! ### a list of the frame's own -/
theorem ev_lenCel (hi : Γ[i]? = some (.cel p (cLst r) xs)) : EvX rInt (tCB (RLen K) (tCons (tVar i) tNil)) Γ Γ (xs.length : Int) := fun A σ H B F Q q => by
  obtain ⟨e, vs, hp, kp⟩ := cel_lst F hi
  exact ⟨_, e, p, vs, rfl, .inl (SqL.of hp), by rw [Paired.len kp]; exact q _ H B F (Same.refl _) rfl⟩
theorem ev_ixCel {j : Int} (hi : Γ[i]? = some (.cel p (cLst r) xs)) (hi1 : Γ1[i]? = some (.cel p (cLst r) xs)) (hb : EvX rInt tb Γ Γ1 j) (e : atI xs j = some a) : EvX r (tOp (rIxL K) (tVar i) tb) Γ Γ1 a := fun A σ H B F Q q => by
  obtain ⟨e1, vs, hp, kp⟩ := cel_lst F hi
  refine ⟨_, e1, hb A σ H B F _ fun v H' B' F' s k => ?_⟩
  obtain ⟨e2, vs2, hp2, kp2⟩ := cel_lst F' hi1
  obtain ⟨o, ho, ko⟩ := atI_rel kp2 e
  exact ⟨p, vs2, j, o, rfl, k, SqL.of hp2, ho, q o H' B' F' s ko⟩
def pyApp (xs : List α) (a : α) : Option (List α) := if xs.length < 1000000 then some (xs ++ [a]) else none
theorem sq_app {rx : Rp γ} {x0 : List γ} (h : EvX r te Γ Γ1 a) (hi0 : Γ[i]? = some (.cel p (cLst rx) x0)) (hi : Γ1[i]? = some (.cel p (cLst r) xs)) (e : pyApp xs a = some ys) (k : Nx A (u D) (Γ1.set i (.cel p (cLst r) ys))) :
    Nx A (tSeq (tDrop (tBM K "list" rAppend (tVar i) (tCons te tNil))) u D) Γ := fun σ H B F => by
  unfold pyApp at e
  split at e
  · rename_i hl
    cases e
    obtain ⟨e1, vs, hp, kp⟩ := cel_lst F hi0
    refine ⟨_, e1, .inl ⟨rfl, vs, SqL.of hp⟩, h A σ H B F _ fun v H1 B1 F1 s1 k1 => ?_⟩
    obtain ⟨e2, vs2, hp2, kp2⟩ := cel_lst F1 hi
    have hz : vs2.length < sizeLine := by rw [Paired.len kp2]; exact Nat.lt_of_lt_of_le hl (by decide)
    refine ⟨p, vs2, v, rfl, rfl, hp2, hz, k σ _ B1 (F1.write hi (c' := cLst r) (o' := .lst (vs2 ++ [v])) ⟨_, rfl, Paired.app kp2 (.cons k1 .nil)⟩ (by show (vs2 ++ [v]).length ≤ sizeLine; rw [List.length_append, List.length_singleton]; omega))⟩
  · cases e
/-! ### + -/
def pyCat (xs ys : List α) : Option (List α) := if xs.length + ys.length ≤ 1000000 then some (xs ++ ys) else none
theorem ec_cat (ha : EvX (rLst r) ta Γ Γ1 xs) (hb : EvX (rLst r) tb Γ1 Γ2 ys) (e : pyCat xs ys = some zs) : EvC (cLst r) (tOp rCat ta tb) Γ Γ2 zs := by
  unfold pyCat at e
  split at e
  · rename_i hl
    cases e
    refine ev_opC ha hb fun H B u v z s ku kv Q q => ?_
    obtain ⟨p, vs, rfl, hp, k⟩ := ob_lst s ku
    obtain ⟨p2, ws, rfl, hp2, k2⟩ := ob_lst s kv
    have hz : vs.length + ws.length ≤ sizeLine := by rw [Paired.len k, Paired.len k2]; exact Nat.le_trans hl (by decide)
    exact ⟨p, p2, vs, ws, rfl, rfl, hp, hp2, hz, fun l hl => q l _ hl (by show (vs ++ ws).length ≤ sizeLine; rw [List.length_append]; exact hz) ⟨_, rfl, Paired.app k k2⟩⟩
  · cases e
/-! ### enumerate -/
def enumF {α : Type} (n : Nat) : List α → List (Int × α)
  | [] => []
  | a :: xs => (((n : Nat) : Int), a) :: enumF (n + 1) xs
def enumL {α : Type} (xs : List α) : List (Int × α) := enumF 0 xs
theorem enumF_len : ∀ (xs : List α) (n : Nat), (enumF n xs).length = xs.length
  | [], _ => rfl
  | _ :: xs, n => by show (enumF (n + 1) xs).length + 1 = _; rw [enumF_len xs]; rfl
theorem enumF_get : ∀ {xs : List α} {n i : Nat} {y : Int × α}, (enumF n xs)[i]? = some y → ∃ a, xs[i]? = some a ∧ y = (((n + i : Nat) : Int), a)
  | [], _, _, _, h => by cases h
  | a :: xs, n, 0, y, h => by
    have h' : (((n : Nat) : Int), a) = y := by simpa [enumF] using h
    exact ⟨a, rfl, h'.symm⟩
  | a :: xs, n, i + 1, y, h => by
    have h' : (enumF (n + 1) xs)[i]? = some y := by simpa [enumF] using h
    obtain ⟨b, h1, h2⟩ := enumF_get h'
    refine ⟨b, by simpa using h1, ?_⟩
    rw [h2, show n + 1 + i = n + (i + 1) by omega]
theorem enumL_len (xs : List α) : (enumL xs).length = xs.length := enumF_len xs 0
theorem it_enum (h : EvX (rLst r) te Γ Γ1 xs) : ItX (rTup (wC rInt (w1 r))) (iEnum K (tCons te tNil)) Γ Γ1 (enumL xs) := fun A σ H B F R q => h A σ H B F _ fun v H' B' F' s k => by
  obtain ⟨p, o, rfl, hp, vs, rfl, kp⟩ := k
  refine ⟨p, vs, rfl, SqL.of (F'.bh _ _ hp), q _ H' B' F' s ⟨by rw [enumL_len, ← Paired.len kp]; exact F'.sz _ _ (F'.bh _ _ hp), fun H2 B2 s1 s2 => ?_, fun i H2 B2 s1 s2 hi => ?_, fun i x H2 B2 v H3 s1 s2 hx hy A σ Γ F => ?_⟩⟩
  · exact ⟨vs, SqL.of (s2 _ _ (s1 _ _ hp)), by rw [enumL_len, Paired.len kp]; exact Nat.le_refl _⟩
  · rw [enumL_len] at hi
    obtain ⟨y, hy⟩ : ∃ y, vs[i]? = some y := ⟨_, List.getElem?_eq_getElem (by rw [Paired.len kp]; exact hi)⟩
    exact ⟨vs, y, SqL.of (s2 _ _ (s1 _ _ hp)), hy⟩
  · obtain ⟨T, y', rfl, hT, rfl, hv⟩ := hy
    obtain ⟨a, ha, rfl⟩ := enumF_get hx
    obtain ⟨y2, hy', ky⟩ := Paired.getR kp ha
    have e := (hv vs (SqL.of (s2 _ _ (s1 _ _ hp)))).symm
    rw [hy'] at e; obtain rfl := Option.some.inj e
    have hB : B2 T = none := by
      cases q : B2 T with
      | none => rfl
      | some u => have := F.bh T u q; rw [hT] at this; cases this
    have s' : Same B2 (upd B2 T (.tup [.int (i : Nat), y'])) := fun b u e => by rw [upd_ne (ne_of_none e hB)]; exact e
    refine ⟨_, F.plus (o := .tup [.int (i : Nat), y']) hT (by show 2 ≤ sizeLine; decide), s', T, _, rfl, upd_same, _, rfl, .int (i : Nat), [y'], rfl, ?_, y', rfl, r.mono s' (r.mono s1 ky)⟩
    show V.int (i : Nat) = V.int ((0 + i : Nat) : Int)
    rw [Nat.zero_add]
end
end G

set_option maxHeartbeats 4000000
/-! # G: try; classes that are made; methods; data that are compared -/
namespace G
open PySem PySem.Spec PyProof.Rows L2
/-! ### try -/
/-- the suite is told where its reading is told -/
def tSui (X : Cx) (st : List Stmt) : Addr → Value → Option Addr → TS := fun a cls d D σ H => ∃ t : TS, (∀ (oe : Obj) (pn : List (Addr × Obj)), Zc cls d oe → (∃ vs, oe.data = .fields vs) → PSs (X.suite a ((a, oe) :: pn)) st t) ∧ t D σ H
def tBod (X : Cx) (st : List Stmt) (W : WX) : TS := fun D σ H => ∃ t : TS, (∀ (pn : List (Addr × Obj)) (xe : Value → Shared → Prop), Takes (X.tr pn xe) W → PassesOwn (model X.prog X.w) X.A X.env xe → PSs (X.tr pn xe) st t) ∧ t D σ H
section
variable {X : Cx} {x n : Str} {c : Value} {i : Nat} {body suite : List Stmt} {b₀ : Stmt} {np pos pos' : Pos} {Wout : WX}
theorem ps_tryG (hs : X.stack = X.env :: X.outer) (hf : X.env.frame = some X.env.locals) (hN : X.N.Nodup) (hi : X.N[i]? = some n) (hln : X.env.kindOf n = some .local) (hc : Names X x c) (tk : Takes X Wout) :
    PS X (.Try body [.ExceptHandler (some (.Name x np)) (some n) (b₀ :: suite) pos'] [] [] pos) (fun D σ H => tBod X body (wAs X.K c i (tSui X (b₀ :: suite)) Wout D) D σ H) :=
  ps_try_as (tb := fun W => tBod X body W) (ts := tSui X (b₀ :: suite)) hs hf hN hi hln hc tk
    (fun W pn xe tk' po => ⟨fun pins s σ H D I ⟨t, ht, q⟩ => (ht pn xe tk' po).run pins s σ H D I q⟩)
    (fun a oe cls d pn hz hf' => ⟨fun pins s σ H D I ⟨t, ht, q⟩ => (ht oe pn hz hf').run pins s σ H D I q⟩)
end
section
variable {α β γ ρ ς ε ε' : Type} {r ra : Rp α} {rb : Rp β} {rc : Rp γ} {te tb : TE} {ta : TA} {Γ Γ1 Γ2 : List Sl} {K : PySem.W.Frag} {a : α} {b : β} {w : Rw α} {C : Addr} {names : List Str} {A : Amb} {D : Ends} {u : TS} {R : ER ε} {i : Nat}
def resX {ε β γ : Type} (x : Res ε β) (k : β → Option γ) (l : ε → Option γ) : Option γ := match x with
  | .ok b => k b
  | .er e => l e
@[simp] theorem resX_ok (b : β) (k : β → Option γ) (l : ε → Option γ) : resX (.ok b) k l = k b := rfl
@[simp] theorem resX_er (e : ε) (k : β → Option γ) (l : ε → Option γ) : resX (.er e) k l = l e := rfl
/-- what goes on with an error -/
def NxE (W : WX) (A : Amb) (Γ : List Sl) (R : ER ε) (e : ε) : Prop := ∀ cls d σ H B, Frm A σ H B Γ → R B cls d e → W cls d σ H
theorem sq_asgR {W : WX} {tf : (L2.St → XK) → TE} {x : Res ε α} {k : α → Option γ} {l : ε → Option γ} {z : γ} (h : EvR R r tf Γ Γ1 x) (e : resX x k l = some z)
    (ko : ∀ y, k y = some z → Nx A (u D) (Γ1.set i (.imm r y))) (ke : ∀ y, l y = some z → NxE W A Γ1 R y) : Nx A (tSeq (tAsg (tf (WE W)) (gName i)) u D) Γ := fun σ H B F =>
  h A σ H B F _ _ (fun b hb v H' B' F' _ q => ko b (by rw [hb] at e; exact e) _ _ _ (F'.set q)) (fun y hy cls d H' B' F' _ q => ke y (by rw [hy] at e; exact e) _ _ _ _ _ F' q)
theorem sq_dropR {W : WX} {tf : (L2.St → XK) → TE} {x : Res ε α} {k : α → Option γ} {l : ε → Option γ} {z : γ} (h : EvR R r tf Γ Γ1 x) (e : resX x k l = some z)
    (ko : ∀ y, k y = some z → Nx A (u D) Γ1) (ke : ∀ y, l y = some z → NxE W A Γ1 R y) : Nx A (tSeq (tDrop (tf (WE W))) u D) Γ := fun σ H B F =>
  h A σ H B F _ _ (fun b hb v H' B' F' _ q => ko b (by rw [hb] at e; exact e) _ _ _ F') (fun y hy cls d H' B' F' _ q => ke y (by rw [hy] at e; exact e) _ _ _ _ _ F' q)
theorem sq_try {X : Cx} {st : List Stmt} {W : Ends → WX} {t : TS} (hb : ∀ (pn : List (Addr × Obj)) (xe : Value → Shared → Prop), Takes (X.tr pn xe) (W { D with nx := u D }) → PassesOwn (model X.prog X.w) X.A X.env xe → PSs (X.tr pn xe) st t)
    (h : Nx A (t { D with nx := u D }) Γ) : Nx A (tSeq (fun D σ H => tBod X st (W D) D σ H) u D) Γ := fun σ H B F => ⟨t, hb, h σ H B F⟩
/-- the error in a suite -/
def rExc (p : Addr) (d : Option Addr) (C : Addr) (names : List Str) (w : Rw α) : Rp α := ⟨fun H v x => v = .ref p ∧ ErAt H (.ref C) d C names w x, fun s ⟨e, h1, dd, fs, vs, h2, h3, h4, h5⟩ => ⟨e, h1, dd, fs, vs, h2, s _ _ h3, w.mono s h4, h5⟩⟩
theorem ev_xf {p : Addr} {d : Option Addr} {k : Nat} {nm : Str} {f : α → β} (h : EvX (rExc p d C names w) te Γ Γ1 a) (g : Acc w k rb f) (hk : names[k]? = some nm) : EvX rb (tXf p (.ref C) d C nm te) Γ Γ1 (f a) := fun A σ H B F Q q =>
  h A σ H B F _ fun v H1 B1 F1 s1 ⟨e, _, dd, fs, vs, h2, h3, h4, h5⟩ => by
    obtain ⟨y, hy, ky⟩ := g B1 vs a h4
    exact ⟨e, rfl, dd, fs, y, h2, F1.bh _ _ h3, by rw [h5 k nm hk, hy], q y H1 B1 F1 s1 ky⟩
theorem Frm.unset {σ : L2.St} {H B : Hp} (F : Frm A σ H B Γ) (i : Nat) : Frm A (σ.set i none) H B (Γ.set i .no) := by
  have G := F.forget i
  refine ⟨G.post, by rw [List.length_set]; exact G.len, fun j s e => ?_, G.ds⟩
  have h := G.sl j s e
  by_cases hj : i = j
  · subst hj
    rcases getset e with ⟨_, rfl, _⟩ | ⟨ne, _⟩
    · trivial
    · exact absurd rfl ne
  · cases s with
    | no => trivial
    | imm r a => obtain ⟨v, e', q⟩ := h; exact ⟨v, by rw [List.getElem?_set_ne hj]; exact e', q⟩
    | cel q c a => obtain ⟨e', q⟩ := h; exact ⟨by rw [List.getElem?_set_ne hj]; exact e', q⟩
theorem nx_unset {P : L2.St → Hp → Prop} (h : Nx A P (Γ.set i .no)) : Nx A (fun σ H => P (σ.set i none) H) Γ := fun σ H B F => h _ _ _ (F.unset i)
theorem nx_unsetE {D : Ends} (h : Nx A D.nx (Γ.set i .no)) : Nx A ({ nx := fun σ' H' => D.nx (σ'.set i none) H', rt := D.rt, bk := fun σ' H' => D.bk (σ'.set i none) H', ct := fun σ' H' => D.ct (σ'.set i none) H' } : Ends).nx Γ := nx_unset h
/-- an error of the class at C reaches «except C as n» -/
theorem nxe_as {X : Cx} {st : List Stmt} {c : Value} {Wout : WX} {e : α} (hx : PySem.W.exmOne K (.ref C) c = some true)
    (k : ∀ (p : Addr) (d : Option Addr), ∃ t : TS, (∀ (oe : Obj) (pn : List (Addr × Obj)), Zc (.ref C) d oe → (∃ vs, oe.data = .fields vs) → PSs (X.suite p ((p, oe) :: pn)) st t) ∧
      Nx A (t { nx := fun σ' H' => D.nx (σ'.set i none) H', rt := D.rt, bk := fun σ' H' => D.bk (σ'.set i none) H', ct := fun σ' H' => D.ct (σ'.set i none) H' }) (Γ.set i (.imm (rExc p d C names w) e))) :
    NxE (wAs K c i (tSui X st) Wout D) A Γ (fun B cls d x => ErAt B cls d C names w x) e := fun cls d σ H B F he => by
  obtain ⟨rfl, h⟩ := id he
  refine ⟨true, hx, fun _ p hp => ?_, fun q => Bool.noConfusion q⟩
  obtain ⟨t, h1, h2⟩ := k p d
  exact ⟨t, h1, h2 _ _ _ (F.set ⟨rfl, he⟩)⟩
abbrev erC (C : Addr) (names : List Str) (w : Rw α) : ER α := fun B cls d x => ErAt B cls d C names w x
/-- one of two kinds of errors -/
abbrev erS (R1 : ER ε) (R2 : ER ε') : ER (ε ⊕ ε') := fun B cls d x => match x with
  | .inl a => R1 B cls d a
  | .inr b => R2 B cls d b
theorem erC_mono {H H' : Hp} {cls : Value} {d : Option Addr} {e : α} (s : Same H H') (h : erC C names w H cls d e) : erC C names w H' cls d e := by
  obtain ⟨h1, dd, fs, vs, h2, h3, h4, h5⟩ := h
  exact ⟨h1, dd, fs, vs, h2, s _ _ h3, w.mono s h4, h5⟩
theorem erS_mono {R1 : ER ε} {R2 : ER ε'} (h1 : ∀ {H H' : Hp} {cls d e}, Same H H' → R1 H cls d e → R1 H' cls d e) (h2 : ∀ {H H' : Hp} {cls d e}, Same H H' → R2 H cls d e → R2 H' cls d e) {H H' : Hp} {cls : Value} {d : Option Addr} {e : ε ⊕ ε'} (s : Same H H') (h : erS R1 R2 H cls d e) : erS R1 R2 H' cls d e := by
  cases e with
  | inl a => exact h1 s h
  | inr b => exact h2 s h
theorem sq_asgMk {W : WX} {wb : Rw β} {m : α → Option (Res ε β)} {x : Res ε β} {k : β → Option γ} {l : ε → Option γ} {z : γ} (hmono : ∀ {H H' : Hp} {cls d e}, Same H H' → R H cls d e → R H' cls d e) (h : EvW w ta Γ Γ1 a) (e : m a = some x) (q : resX x k l = some z)
    (ko : ∀ y, k y = some z → Nx A (u D) (Γ1.set i (.imm (rIns C names wb) y))) (ke : ∀ y, l y = some z → NxE W A Γ1 R y) : Nx A (tSeq (tAsg (tMakeS C (SpI R C w (cIns C names wb) m) (WE W) ta) (gName i)) u D) Γ :=
  sq_asgR (tf := fun E => tMakeS C (SpI R C w (cIns C names wb) m) E ta) (er_make hmono h e) q ko ke
/-! ### a class whose __init__ does not raise -/
def SpJ {α β : Type} (C : Addr) (w : Rw α) (c : Cl β) (m : α → Option β) : Sp := fun vs H Q E => ∃ p dx vs' B a b, vs = .ref p :: vs' ∧ H p = some (.ins C dx []) ∧ B p = none ∧ Sz H ∧ Same B H ∧ w.rel B vs' a ∧ m a = some b ∧ RtI (ambS B H p) p c b Q
theorem ev_make {wb : Rw β} {m : α → Option β} {E : XK} (h : EvW w ta Γ Γ1 a) (e : m a = some b) : EvX (rIns C names wb) (tMake C (SpJ C w (cIns C names wb) m) [] E ta) Γ Γ1 b := fun A σ H B F Q q => h A σ H B F _ fun vs H1 B1 F1 s1 k1 => by
  intro y dy hy hd ne
  obtain ⟨p1, p2, p3, p4⟩ := made_pre (C := C) F1 hy hd ne
  refine ⟨y, dy, vs, upd B1 dy (.own y), a, b, by rw [List.append_nil], upd_same, p3, p1, p2, w.mono p4 k1, e, fun H2 B2 P ⟨o, ho, k⟩ => ⟨rfl, ?_⟩⟩
  have F2 := made_frame (A := A) F1 hy hd ne P ho
  have F3 := F2.adopt (F1.H0none hy) F1.sub F1.mh
  have hB2 : B2 y = none := P.out y (by show upd (upd H1 dy (.own y)) y (.ins C dy []) y ≠ none; rw [upd_same]; simp) p3
  have s3 : Same B2 (upd B2 y o) := fun q u e => by rw [upd_ne (ne_of_none e hB2)]; exact e
  exact q _ _ _ F3 (s1.trans (p4.trans (P.b0.trans s3))) ⟨y, o, rfl, upd_same, (cIns C names wb).mono s3 k⟩
/-! ### methods -/
theorem ins_no {vs : List V} {nm : Str} (hn : nm ∉ names) : (names.zip vs).lookup nm = none := zip_none hn
theorem ev_meth {w' : Rw β} {m : α × β → Option γ} {E : XK} {nm : Str} {z : γ} (h : EvX (rIns C names w) te Γ Γ1 a) (hb : EvW w' ta Γ1 Γ2 b) (e : m (a, b) = some z) (hn : nm ∉ names) :
    EvX rc (tMeth C nm (SpP (wC (rIns C names w) w') rc m) [] E te ta) Γ Γ2 z := fun A σ H B F Q q => h A σ H B F _ fun v H1 B1 F1 s1 k1 => by
  obtain ⟨p, dx, vs, rfl, hp, l, kw⟩ := ob_ins F1.bh k1
  refine ⟨p, dx, _, rfl, hp, ins_no hn, hb A σ H1 B1 F1 _ fun us H2 B2 F2 s2 k2 => ?_⟩
  rw [List.append_nil]
  exact ⟨B2, (a, b), z, F2.sz, F2.bh, ⟨_, us, rfl, (rIns C names w).mono s2 k1, k2⟩, e, fun H3 B3 v3 P k3 => q v3 H3 B3 (F2.after P) ((s1.trans s2).trans P.b0) k3⟩
theorem ec_meth {w' : Rw β} {c : Cl γ} {m : α × β → Option γ} {E : XK} {nm : Str} {z : γ} (h : EvX (rIns C names w) te Γ Γ1 a) (hb : EvW w' ta Γ1 Γ2 b) (e : m (a, b) = some z) (hn : nm ∉ names) :
    EvC c (tMeth C nm (SpC (wC (rIns C names w) w') c m) [] E te ta) Γ Γ2 z := fun A σ H B F Q q => h A σ H B F _ fun v H1 B1 F1 s1 k1 => by
  obtain ⟨p, dx, vs, rfl, hp, l, kw⟩ := ob_ins F1.bh k1
  refine ⟨p, dx, _, rfl, hp, ins_no hn, hb A σ H1 B1 F1 _ fun us H2 B2 F2 s2 k2 => ?_⟩
  rw [List.append_nil]
  exact ⟨B2, (a, b), z, F2.sz, F2.bh, ⟨_, us, rfl, (rIns C names w).mono s2 k1, k2⟩, e, fun q2 o H3 B3 P hq k3 => q q2 o H3 B3 (F2.afterC P hq) (F2.H0none hq) ((s1.trans s2).trans P.b0) k3⟩
theorem ev_meth0 {m : α → Option γ} {E : XK} {nm : Str} {z : γ} (h : EvX (rIns C names w) te Γ Γ1 a) (e : m a = some z) (hn : nm ∉ names) :
    EvX rc (tMeth C nm (SpP (w1 (rIns C names w)) rc m) [] E te tNil) Γ Γ1 z := fun A σ H B F Q q => h A σ H B F _ fun v H1 B1 F1 s1 k1 => by
  obtain ⟨p, dx, vs, rfl, hp, l, kw⟩ := ob_ins F1.bh k1
  exact ⟨p, dx, _, rfl, hp, ins_no hn, B1, a, z, F1.sz, F1.bh, ⟨_, rfl, k1⟩, e, fun H3 B3 v3 P k3 => q v3 H3 B3 (F1.after P) (s1.trans P.b0) k3⟩
theorem ec_meth0 {c : Cl γ} {m : α → Option γ} {E : XK} {nm : Str} {z : γ} (h : EvX (rIns C names w) te Γ Γ1 a) (e : m a = some z) (hn : nm ∉ names) :
    EvC c (tMeth C nm (SpC (w1 (rIns C names w)) c m) [] E te tNil) Γ Γ1 z := fun A σ H B F Q q => h A σ H B F _ fun v H1 B1 F1 s1 k1 => by
  obtain ⟨p, dx, vs, rfl, hp, l, kw⟩ := ob_ins F1.bh k1
  exact ⟨p, dx, _, rfl, hp, ins_no hn, B1, a, z, F1.sz, F1.bh, ⟨_, rfl, k1⟩, e, fun q2 o H3 B3 P hq k3 => q q2 o H3 B3 (F1.afterC P hq) (F1.H0none hq) (s1.trans P.b0) k3⟩
/-! ### isinstance, the answer known -/
def TyR (K : PySem.W.Frag) (r : Rp α) (t : Value) : Prop := ∀ H v a, r.rel H v a → TyX K H v t
theorem ev_isi {t v : Value} {c : V} {k : Bool} (h : EvX r te Γ Γ1 a) (ty : TyR K r t) (hc : ClsV c v) (kit : PySem.W.kitOne K t v = some k) : EvX rBool (tCB (rIsi K) (tCons te (tCons (tC c) tNil))) Γ Γ1 k := fun A σ H B F Q q =>
  h A σ H B F _ fun x H1 B1 F1 s1 k1 => ⟨x, c, t, v, k, rfl, hc, ty _ _ _ (r.mono F1.bh k1), kit, q _ _ _ F1 s1 rfl⟩
theorem ty_bool : TyR K rBool (.type "bool") := fun H v a h => by rw [show v = _ from h]; exact .base (.bl _)
theorem ty_int : TyR K rInt (.type "int") := fun H v a h => by rw [show v = _ from h]; exact .base (.int _)
theorem ty_str : TyR K rStr (.type "str") := fun H v a h => by rw [show v = _ from h]; exact .base (.str _)
theorem ty_non : TyR K rNon (.type "NoneType") := fun H v a h => by rw [show v = _ from h]; exact .base .non
theorem ty_lst : TyR K (rOb (cLst r)) (.type "list") := fun H v a ⟨p, o, e, hp, vs, eo, k⟩ => by subst e; subst eo; exact .base (.lst hp)
theorem ty_hls : TyR K (rOb (cHls w)) (.type "list") := fun H v a ⟨p, o, e, hp, vs, eo, k⟩ => by subst e; subst eo; exact .base (.lst hp)
theorem ty_tpl : TyR K (rOb (cTpl r)) (.type "tuple") := fun H v a ⟨p, o, e, hp, vs, eo, k⟩ => by subst e; subst eo; exact .base (.tup hp)
theorem ty_tup : TyR K (rOb (cTup w)) (.type "tuple") := fun H v a ⟨p, o, e, hp, vs, eo, k⟩ => by subst e; subst eo; exact .base (.tup hp)
theorem nn_ins : NN (rIns C names w) := nn_ob
end
/-! ### data of any shape -/
theorem Same.seqT {K : PySem.W.Frag} {H H' : Hp} {a : Addr} {xs : List V} (e : Same H H') (h : SqT K H a xs) : SqT K H' a xs := by
  rcases h with (h | ⟨o, h⟩) | h
  · exact .inl (.inl (e _ _ h))
  · exact .inl (.inr ⟨o, e _ _ h⟩)
  · exact .inr h
mutual
theorem dp_mono {K : PySem.W.Frag} {H H' : Hp} (s : Same H H') : ∀ (d : PyData) (v : V), Dp K H v d → Dp K H' v d
  | .none, _, h => by cases h; exact .non
  | .bool b, _, h => by cases h; exact .bl b
  | .int i, _, h => by cases h; exact .int i
  | .str x, _, h => by cases h; exact .str x
  | .list ds, _, h => by
    cases h with
    | lst hs ha => exact .lst (s.seq hs) (dpAll_mono s ds _ ha)
  | .tuple ds, _, h => by
    cases h with
    | tup hs ha => exact .tup (Same.seqT s hs) (dpAll_mono s ds _ ha)
  | .dict _, _, h => by cases h
theorem dpAll_mono {K : PySem.W.Frag} {H H' : Hp} (s : Same H H') : ∀ (ds : List PyData) (vs : List V), DpAll K H vs ds → DpAll K H' vs ds
  | [], _, h => by cases h; exact .nil
  | d :: ds, _, h => by
    cases h with
    | cons h1 h2 => exact .cons (dp_mono s d _ h1) (dpAll_mono s ds _ h2)
end
def rDyn (K : PySem.W.Frag) : Rp PyData := ⟨fun H v d => Dp K H v d, fun s h => dp_mono s _ _ h⟩
def Da {α : Type} (K : PySem.W.Frag) (r : Rp α) (f : α → PyData) : Prop := ∀ H v a, r.rel H v a → Dp K H v (f a)
def DaW {α : Type} (K : PySem.W.Frag) (w : Rw α) (f : α → List PyData) : Prop := ∀ H vs a, w.rel H vs a → DpAll K H vs (f a)
def dOpt {α : Type} (f : α → PyData) : Option α → PyData
  | none => .none
  | some a => f a
def dLst {α : Type} (f : α → PyData) (xs : List α) : PyData := .list (xs.map f)
def dTpl {α : Type} (f : α → PyData) (xs : List α) : PyData := .tuple (xs.map f)
def dTup {α : Type} (f : α → List PyData) (a : α) : PyData := .tuple (f a)
def dHls {α : Type} (f : α → List PyData) (a : α) : PyData := .list (f a)
def dw0 : Unit → List PyData := fun _ => []
def dw1 {α : Type} (f : α → PyData) (a : α) : List PyData := [f a]
def dwC {α β : Type} (f : α → PyData) (g : β → List PyData) (a : α × β) : List PyData := f a.1 :: g a.2
def dNon : Unit → PyData := fun _ => .none
def dId : PyData → PyData := fun d => d
section
variable {α β γ : Type} {K : PySem.W.Frag} {r ra : Rp α} {rb : Rp β} {w : Rw α} {wb : Rw β} {f : α → PyData} {g : β → PyData} {fw : α → List PyData} {gw : β → List PyData} {Γ Γ1 Γ2 : List Sl} {te ta tb : TE} {x : α} {y : β}
theorem da_int : Da K rInt PyData.int := fun H v a h => by rw [show v = _ from h]; exact .int a
theorem da_str : Da K rStr PyData.str := fun H v a h => by rw [show v = _ from h]; exact .str a
theorem da_bool : Da K rBool PyData.bool := fun H v a h => by rw [show v = _ from h]; exact .bl a
theorem da_non : Da K rNon dNon := fun H v a h => by rw [show v = _ from h]; exact .non
theorem da_dyn : Da K (rDyn K) dId := fun H v a h => h
theorem da_opt (h : Da K r f) : Da K (rOpt r) (dOpt f) := fun H v a k => by
  cases a with
  | none => rw [show v = _ from k]; exact .non
  | some a => exact h H v a k.1
theorem dp_all (h : Da K r f) {H : Hp} : ∀ {vs : List V} {xs : List α}, Paired (r.rel H) vs xs → DpAll K H vs (xs.map f)
  | _, _, .nil => .nil
  | _, _, .cons q t => .cons (h _ _ _ q) (dp_all h t)
theorem da_lst (h : Da K r f) : Da K (rOb (cLst r)) (dLst f) := fun H v a ⟨p, o, e, hp, vs, eo, k⟩ => by
  subst e; subst eo
  exact .lst (SqL.of hp) (dp_all h k)
theorem da_tpl (h : Da K r f) : Da K (rOb (cTpl r)) (dTpl f) := fun H v a ⟨p, o, e, hp, vs, eo, k⟩ => by
  subst e; subst eo
  exact .tup (SqT.of hp) (dp_all h k)
theorem da_tup (h : DaW K w fw) : Da K (rOb (cTup w)) (dTup fw) := fun H v a ⟨p, o, e, hp, vs, eo, k⟩ => by
  subst e; subst eo
  exact .tup (SqT.of hp) (h _ _ _ k)
theorem da_hls (h : DaW K w fw) : Da K (rOb (cHls w)) (dHls fw) := fun H v a ⟨p, o, e, hp, vs, eo, k⟩ => by
  subst e; subst eo
  exact .lst (SqL.of hp) (h _ _ _ k)
theorem daw_0 : DaW K w0 dw0 := fun H vs a h => by rw [show vs = [] from h]; exact .nil
theorem daw_1 (h : Da K r f) : DaW K (w1 r) (dw1 f) := fun H vs a ⟨v, e, k⟩ => by rw [e]; exact .cons (h _ _ _ k) .nil
theorem daw_C (h : Da K r f) (hw : DaW K wb gw) : DaW K (wC r wb) (dwC f gw) := fun H vs a ⟨v, t, e, k, k2⟩ => by rw [e]; exact .cons (h _ _ _ k) (hw _ _ _ k2)
theorem ev_dyn (d : Da K r f) (h : EvX r te Γ Γ1 x) : EvX (rDyn K) te Γ Γ1 (f x) := fun A σ H B F Q q => h A σ H B F Q fun v H' B' F' s k => q v H' B' F' s (d _ _ _ k)
theorem nn_dyn_tup {K : PySem.W.Frag} : True := trivial
def pyEq (d e : PyData) : Option Bool := if SeqAt.shaped d = true ∧ SeqAt.shaped e = true then some (PyData.eqv d e) else none
theorem ev_eqD {b : Bool} (da : Da K ra f) (db : Da K rb g) (ha : EvX ra ta Γ Γ1 x) (hb : EvX rb tb Γ1 Γ2 y) (e : pyEq (f x) (g y) = some b) : EvX rBool (tOp (rEqD K) ta tb) Γ Γ2 b := by
  unfold pyEq at e
  split at e
  · rename_i hs
    cases e
    exact ev_op ha hb fun H B u v s ku kv Q q => ⟨_, _, dp_mono s _ _ (da _ _ _ ku), dp_mono s _ _ (db _ _ _ kv), hs.1, hs.2, q _ rfl⟩
  · cases e
theorem ev_neD {b : Bool} (da : Da K ra f) (db : Da K rb g) (ha : EvX ra ta Γ Γ1 x) (hb : EvX rb tb Γ1 Γ2 y) (e : pyEq (f x) (g y) = some b) : EvX rBool (tOp (rNeD K) ta tb) Γ Γ2 (!b) := by
  unfold pyEq at e
  split at e
  · rename_i hs
    cases e
    exact ev_op ha hb fun H B u v s ku kv Q q => ⟨_, _, dp_mono s _ _ (da _ _ _ ku), dp_mono s _ _ (db _ _ _ kv), hs.1, hs.2, q _ rfl⟩
  · cases e
end
end G

set_option maxHeartbeats 4000000
/-! # G: len(set(..)) -/
namespace G
open PySem PySem.Spec PyProof.Rows L2
/-- the different ones, in the order of coming -/
def dst {α : Type} [DecidableEq α] (xs : List α) : List α := xs.foldl (fun l x => if x ∈ l then l else l ++ [x]) []
section
variable {κ : Type} [DecidableEq κ]
theorem dst_app (xs : List κ) (x : κ) : dst (xs ++ [x]) = if x ∈ dst xs then dst xs else dst xs ++ [x] := by
  unfold dst
  rw [List.foldl_append]
  rfl
theorem mem_dstF {x : κ} : ∀ (xs l : List κ), x ∈ xs.foldl (fun l x => if x ∈ l then l else l ++ [x]) l ↔ x ∈ l ∨ x ∈ xs
  | [], l => by simp
  | y :: ys, l => by
    rw [List.foldl_cons, mem_dstF ys]
    by_cases h : y ∈ l
    · rw [if_pos h, List.mem_cons]
      exact ⟨fun q => q.elim .inl fun q => .inr (.inr q), fun q => q.elim .inl fun q => q.elim (fun e => .inl (e ▸ h)) .inr⟩
    · rw [if_neg h, List.mem_append, List.mem_singleton, List.mem_cons, or_assoc]
theorem mem_dst {x : κ} {xs : List κ} : x ∈ dst xs ↔ x ∈ xs := by
  unfold dst
  rw [mem_dstF]
  simp
theorem dst_le : ∀ xs : List κ, (dst xs).length ≤ xs.length := fun xs => by
  suffices h : ∀ (ys l : List κ), (ys.foldl (fun l x => if x ∈ l then l else l ++ [x]) l).length ≤ l.length + ys.length by simpa [dst] using h xs []
  intro ys
  induction ys with
  | nil => intro l; simp
  | cons y ys ih =>
    intro l
    rw [List.foldl_cons]
    refine Nat.le_trans (ih _) ?_
    rw [List.length_cons]
    split
    · omega
    · rw [List.length_append, List.length_singleton]; omega
variable {prog : Program} {w : World} {knd : KeyKind prog w κ} {A : Around} {R : Result → Shared → Prop} {E : Value → Shared → Prop} {it : Addr} {fp wr : List Addr} {Gg : Array GenState → Array GenState → Prop} {n : Nat} {P : Nat → Value → Prop} {St : Nat → Shared → Prop} {z : Shared}
/-- what is walked goes into the set at D -/
theorem fill_loop (W : WalksS prog w A.in1 it fp wr Gg n P St) (D : Addr) (hD : D ∉ fp) (ks : List κ) (hn : ks.length = n) (hb : n < 2000)
    (hv : ∀ (i : Nat) (v : Value), P i v → ∃ k, ks[i]? = some k ∧ knd.is k v = true ∧ v.scannable = true) : ∀ (m i : Nat) (z : Shared), n - i = m → i ≤ n → St i z →
      z.heap.SetOf knd D (fun x => decide (x ∈ ks.take i)) (dst (ks.take i)).length →
      (∀ z2, Moved (D :: wr) Gg z z2 → z2.heap.SetOf knd D (fun x => decide (x ∈ ks)) (dst ks).length → R (.ok (.ret .none)) z2) →
      codeAny (model prog w) A (.builtin "set.update.loop" ⟨[.ref D, .ref it], []⟩) R z := by
  have hw : D ∉ wr := fun q => hD (W.sub _ q)
  have up : ∀ b ∈ wr, b ∈ D :: wr := fun b q => List.mem_cons_of_mem D q
  have mv : ∀ {g g2 : Heap} {S : κ → Bool} {c : Nat}, (∀ o, g.get? D = some o → g2.get? D = some o) → g.SetOf knd D S c → g2.SetOf knd D S c := fun k ⟨o, es, ep, t, ho, r⟩ => ⟨o, es, ep, t, k o ho, r⟩
  intro m
  induction m with
  | zero =>
    intro i z e le st so fin
    have e2 : i = n := by omega
    subst e2
    refine codeAny_builtin PyProof.Rows.F.entry_set_update_loop ?_
    rw [Around.under_plainId (A := A) PyProof.Rows.F.plain_set_update_loop _]
    show wpAny _ A.in1 (pyNext (.ref it) >>= _) _ _ z
    refine wpAny_bind (W.done z _ _ st fun z2 m2 => ?_)
    show wpAny _ A.in1 (ret Value.none) _ _ z2
    have so2 := mv (m2.heap D · hw) so
    rw [List.take_of_length_le (by omega)] at so2
    exact wpAny_pure (fin z2 (m2.mono up) so2)
  | succ m ih =>
    intro i z e le st so fin
    have lt : i < n := by omega
    refine codeAny_builtin PyProof.Rows.F.entry_set_update_loop ?_
    rw [Around.under_plainId (A := A) PyProof.Rows.F.plain_set_update_loop _]
    show wpAny _ A.in1 (pyNext (.ref it) >>= _) _ _ z
    refine wpAny_bind (W.item i z _ _ lt st fun v z2 hP st2 m2 => ?_)
    obtain ⟨k, hk, hkv, hsc⟩ := hv i v hP
    have so2 := mv (m2.heap D · hw) so
    have tk : ks.take (i + 1) = ks.take i ++ [k] := by rw [List.take_add_one, hk]; rfl
    show wpAny _ A.in1 (holding [v] (setAdd D v) >>= _) _ _ z2
    refine wpAny_bind (wpAny_holding ?_)
    unfold setAdd
    refine wpAny_holding (wpAny_bind (knd.pyHash hkv ?_))
    have dl := dst_le (ks.take i)
    have tl : (ks.take i).length ≤ i := by rw [List.length_take]; omega
    refine wpAny_setAddHashed_of (s := { z2 with toks := z2.toks + 1 }) hkv hsc so2 (by unfold scanBound; omega) fun g sb so3 => ?_
    have so4 : g.SetOf knd D (fun x => decide (x ∈ ks.take (i + 1))) (dst (ks.take (i + 1))).length := by
      refine PyProof.Rows.SetOf_congr so3 (fun x => ?_) ?_
      · rw [tk]
        by_cases h1 : x ∈ ks.take i <;> by_cases h2 : x = k <;> simp [h1, h2, List.mem_append]
      · rw [tk, dst_app]
        by_cases h1 : k ∈ ks.take i
        · rw [if_pos (decide_eq_true h1), if_pos (mem_dst.mpr h1)]
        · rw [if_neg (by simpa using h1), if_neg (fun q => h1 (mem_dst.mp q)), List.length_append, List.length_singleton]
    refine wpAny_pure (And.intro (plainId_quiet PyProof.Rows.F.plain_set_update_loop _) (ih (i + 1) _ (by omega) lt (W.frame _ z2 _ _ st2 (Nat.le_succ _) fun b q o ho => (sb.2 b (fun h => hD (h ▸ q))).trans ho) so4 fun z3 m3 so5 => fin z3 ?_ so5))
    exact Moved.trans W.gtrans ((m2.mono up).then_heap (Nat.le_succ _) fun b o q ho => (sb.2 b (fun h => q (h ▸ List.mem_cons_self))).trans ho) m3

set_option maxHeartbeats 8000000 in
theorem set_of_list {p : Addr} {its : Array Value} {ks : List κ} {G : Value → Shared → Prop} (hd : A.handled = none) (hp : z.heap.IsList p its) (hn : ks.length = its.size) (hb : its.size < 2000)
    (hv : ∀ (i : Nat) (v : Value), its[i]? = some v → ∃ k, ks[i]? = some k ∧ knd.is k v = true ∧ v.scannable = true)
    (fin : ∀ (g : Heap) (tk : Nat), g.SetOf knd z.heap.objs.size (fun x => decide (x ∈ ks)) (dst ks).length → (∀ b o, z.heap.get? b = some o → g.get? b = some o) → G (.ref z.heap.objs.size) { z with heap := g, toks := tk }) :
    wpAny (model prog w) A (call (.type "set") [.ref p]) G E z := by
  obtain ⟨mc, mt, m0⟩ := PySem.F.called_set.mro
  have m1 := PySem.F.called_set.made
  have m2 := PySem.F.called_set.sub
  refine wpAny_call (codeAny_of_tree ?_)
  show wpAny _ _ (callAny (.type "set") (_ : Args)) _ _ z
  refine wpAny_pure (And.intro (Code.quiet_builtin _ (by decide +kernel)) (codeAny_builtin PySem.F.entry_type_call ?_))
  rw [Around.under_plain (weight_type_call_type "set" [Value.ref p] ([] : List (Str × Value))) (by rfl)]
  have m3 := PySem.F.called_set.notType
  have m4 := PySem.F.called_set.canCreate
  have m5 := PySem.F.typeCall_set_1 (Value.ref p)
  repeat (any_goals (first | assumption | wp_step))
  let ob : Bool → Obj := fun led => { cls := .type "set", dict := none, data := .set #[] 0 (.fresh 0 0 led) }
  refine codeAny_mono (code_set_new_1 (Value.ref p) (E := E) (Q₁ := fun v z1 => ∃ led : Bool, v = Value.ref z.heap.objs.size ∧ z1 = { z with heap := z.heap.push (ob led) }) fun led => ⟨led, rfl, rfl⟩) fun r0 z1 q0 => ?_
  cases r0 with
  | error e => exact q0
  | ok fl0 =>
    cases fl0 with
    | next => exact q0.elim
    | brk => exact q0.elim
    | cont => exact q0.elim
    | ret v0 =>
      obtain ⟨led, rfl, rfl⟩ := q0
      have at0 : (z.heap.push (ob led)).get? z.heap.objs.size = some (ob led) := Heap.get?_push_size _ rfl
      have ty0 : Shared.TypeIs { z with heap := z.heap.push (ob led) } (.ref z.heap.objs.size) "set" := ⟨_, at0, rfl⟩
      have i1 := PySem.F.called_set.init.lookup
      have i2 := PySem.F.called_set.init.bind (Value.ref z.heap.objs.size)
      repeat (any_goals (first | assumption | wp_step))
      refine codeAny_mono (codeAny_call_builtin (R := wants (fun v z2 => v = .none ∧ ∃ g tk, z2 = { z with heap := g, toks := tk } ∧ g.SetOf knd z.heap.objs.size (fun x => decide (x ∈ ks)) (dst ks).length ∧
          (∀ b o, z.heap.get? b = some o → g.get? b = some o)) E) PySem.F.called_set.init.plain PySem.F.entry_set_init (check_set_init_1 ty0 ?_)) fun r2 z2 q2 => ?_
      · obtain ⟨u0, a0, c0, n0, d0⟩ := hp
        obtain ⟨uc, ud, ux, us⟩ := u0
        simp only at c0 d0
        subst c0; subst d0
        have a1 : (z.heap.push (ob led)).get? p = some { cls := .type "list", dict := ud, data := .seq its n0, slots := us } := Heap.get?_push_of_some _ a0
        have s1 := PySem.F.sub_list_set
        have s2 := PySem.F.sub_list_frozenset
        have s3 : (Value.type "list" == Value.type "dict") = false := by decide
        have l1 : (z.heap.push (ob led)).IsList p its := ⟨_, a1, rfl, n0, rfl⟩
        unfold Builtin.«set.__init__» noKeywords Builtin.Frozenset.updateFrom
        generalize hit : pyIter = itf
        wp_walk
        subst hit
        refine wpAny_pyIter_list l1 (wpAny_bind (wpAny_runValue ?_))
        have pl : p < z.heap.objs.size := Heap.lt_size a0
        have h3 : A.in1.in1.in1.handled = none := by simp [hd]
        have sz1 : (z.heap.push (ob led)).objs.size = z.heap.objs.size + 1 := Heap.size_push ..
        have ne1 : p ≠ (z.heap.push (ob led)).objs.size := by rw [sz1]; exact Nat.ne_of_lt (Nat.lt_succ_of_lt pl)
        have sf : z.heap.objs.size ∉ [(z.heap.push (ob led)).objs.size, p] := fun hm => by
          rw [sz1] at hm
          rcases List.mem_cons.mp hm with e | hm
          · exact Nat.ne_of_lt (Nat.lt_succ_self _) e
          · exact Nat.ne_of_gt pl (List.mem_singleton.mp hm)
        refine fill_loop ((Walks.list h3 _ p ne1 its).toS) z.heap.objs.size sf ks hn hb hv (its.size - 0) 0 _ (by omega) (Nat.zero_le _) ⟨⟨_, Heap.get?_push_size _ rfl, rfl, rfl⟩, l1.push _⟩ ?w0 ?w1
        case w0 =>
          exact PyProof.Rows.SetOf_congr ((PyProof.Rows.setObjOf_fresh (knd := knd) led).setOf (Heap.get?_push_of_some _ at0) (by unfold scanBound; omega)) (fun x => by simp) (by simp [dst])
        case w1 =>
          intro z3 mv st3
          obtain ⟨g3, e3, d3, t3, o3⟩ := z3
          obtain rfl : e3 = z.gens := mv.gens
          obtain rfl : d3 = z.drawn := mv.drawn
          obtain rfl : o3 = z.os := mv.os
          show wpAny _ _ _ _ _ (_ : Shared)
          refine wpAny_pure ?_
          show wpAny _ _ (ret Value.none) _ _ (_ : Shared)
          refine wpAny_pure ⟨rfl, g3, t3, rfl, st3, fun b o hbo => mv.heap b o (fun hm => ?_) (Heap.get?_push_of_some _ (Heap.get?_push_of_some _ hbo))⟩
          have bl := Heap.lt_size hbo
          rcases List.mem_cons.mp hm with e | hm
          · exact Nat.ne_of_lt bl e
          · rw [List.mem_singleton, sz1] at hm; exact Nat.ne_of_lt (Nat.lt_succ_of_lt bl) hm
      · cases r2 with
        | error e => exact q2
        | ok fl2 =>
          cases fl2 with
          | next => exact q2.elim
          | brk => exact q2.elim
          | cont => exact q2.elim
          | ret v2 =>
            obtain ⟨rfl, g2, t2, rfl, st2, kp2⟩ := q2
            repeat (any_goals (first | assumption | wp_step))
            exact fin _ _ st2 kp2

set_option maxHeartbeats 8000000 in
theorem set_of_tuple {p : Addr} {its : Array Value} {ks : List κ} {G : Value → Shared → Prop} (hd : A.handled = none) (hp : z.heap.IsTuple p its) (hn : ks.length = its.size) (hb : its.size < 2000)
    (hv : ∀ (i : Nat) (v : Value), its[i]? = some v → ∃ k, ks[i]? = some k ∧ knd.is k v = true ∧ v.scannable = true)
    (fin : ∀ (g : Heap) (tk : Nat), g.SetOf knd z.heap.objs.size (fun x => decide (x ∈ ks)) (dst ks).length → (∀ b o, z.heap.get? b = some o → g.get? b = some o) → G (.ref z.heap.objs.size) { z with heap := g, toks := tk }) :
    wpAny (model prog w) A (call (.type "set") [.ref p]) G E z := by
  obtain ⟨mc, mt, m0⟩ := PySem.F.called_set.mro
  have m1 := PySem.F.called_set.made
  have m2 := PySem.F.called_set.sub
  refine wpAny_call (codeAny_of_tree ?_)
  show wpAny _ _ (callAny (.type "set") (_ : Args)) _ _ z
  refine wpAny_pure (And.intro (Code.quiet_builtin _ (by decide +kernel)) (codeAny_builtin PySem.F.entry_type_call ?_))
  rw [Around.under_plain (weight_type_call_type "set" [Value.ref p] ([] : List (Str × Value))) (by rfl)]
  have m3 := PySem.F.called_set.notType
  have m4 := PySem.F.called_set.canCreate
  have m5 := PySem.F.typeCall_set_1 (Value.ref p)
  repeat (any_goals (first | assumption | wp_step))
  let ob : Bool → Obj := fun led => { cls := .type "set", dict := none, data := .set #[] 0 (.fresh 0 0 led) }
  refine codeAny_mono (code_set_new_1 (Value.ref p) (E := E) (Q₁ := fun v z1 => ∃ led : Bool, v = Value.ref z.heap.objs.size ∧ z1 = { z with heap := z.heap.push (ob led) }) fun led => ⟨led, rfl, rfl⟩) fun r0 z1 q0 => ?_
  cases r0 with
  | error e => exact q0
  | ok fl0 =>
    cases fl0 with
    | next => exact q0.elim
    | brk => exact q0.elim
    | cont => exact q0.elim
    | ret v0 =>
      obtain ⟨led, rfl, rfl⟩ := q0
      have at0 : (z.heap.push (ob led)).get? z.heap.objs.size = some (ob led) := Heap.get?_push_size _ rfl
      have ty0 : Shared.TypeIs { z with heap := z.heap.push (ob led) } (.ref z.heap.objs.size) "set" := ⟨_, at0, rfl⟩
      have i1 := PySem.F.called_set.init.lookup
      have i2 := PySem.F.called_set.init.bind (Value.ref z.heap.objs.size)
      repeat (any_goals (first | assumption | wp_step))
      refine codeAny_mono (codeAny_call_builtin (R := wants (fun v z2 => v = .none ∧ ∃ g tk, z2 = { z with heap := g, toks := tk } ∧ g.SetOf knd z.heap.objs.size (fun x => decide (x ∈ ks)) (dst ks).length ∧
          (∀ b o, z.heap.get? b = some o → g.get? b = some o)) E) PySem.F.called_set.init.plain PySem.F.entry_set_init (check_set_init_1 ty0 ?_)) fun r2 z2 q2 => ?_
      · obtain ⟨u0, a0, c0, n0, d0⟩ := hp
        obtain ⟨uc, ud, ux, us⟩ := u0
        simp only at c0 d0
        subst c0; subst d0
        have a1 : (z.heap.push (ob led)).get? p = some { cls := .type "tuple", dict := ud, data := .seq its n0, slots := us } := Heap.get?_push_of_some _ a0
        have s1 := PySem.F.sub_tuple_set
        have s2 := PySem.F.sub_tuple_frozenset
        have s3 : (Value.type "tuple" == Value.type "dict") = false := by decide
        have l1 : (z.heap.push (ob led)).IsTuple p its := ⟨_, a1, rfl, n0, rfl⟩
        unfold Builtin.«set.__init__» noKeywords Builtin.Frozenset.updateFrom
        generalize hit : pyIter = itf
        wp_walk
        subst hit
        refine wpAny_pyIter_tuple l1 (wpAny_bind (wpAny_runValue ?_))
        have pl : p < z.heap.objs.size := Heap.lt_size a0
        have h3 : A.in1.in1.in1.handled = none := by simp [hd]
        have sz1 : (z.heap.push (ob led)).objs.size = z.heap.objs.size + 1 := Heap.size_push ..
        have ne1 : p ≠ (z.heap.push (ob led)).objs.size := by rw [sz1]; exact Nat.ne_of_lt (Nat.lt_succ_of_lt pl)
        have sf : z.heap.objs.size ∉ [(z.heap.push (ob led)).objs.size, p] := fun hm => by
          rw [sz1] at hm
          rcases List.mem_cons.mp hm with e | hm
          · exact Nat.ne_of_lt (Nat.lt_succ_self _) e
          · exact Nat.ne_of_gt pl (List.mem_singleton.mp hm)
        refine fill_loop ((Walks.tuple h3 _ p ne1 its).toS) z.heap.objs.size sf ks hn hb hv (its.size - 0) 0 _ (by omega) (Nat.zero_le _) ⟨⟨_, Heap.get?_push_size _ rfl, rfl, rfl⟩, l1.push _⟩ ?w0 ?w1
        case w0 =>
          exact PyProof.Rows.SetOf_congr ((PyProof.Rows.setObjOf_fresh (knd := knd) led).setOf (Heap.get?_push_of_some _ at0) (by unfold scanBound; omega)) (fun x => by simp) (by simp [dst])
        case w1 =>
          intro z3 mv st3
          obtain ⟨g3, e3, d3, t3, o3⟩ := z3
          obtain rfl : e3 = z.gens := mv.gens
          obtain rfl : d3 = z.drawn := mv.drawn
          obtain rfl : o3 = z.os := mv.os
          show wpAny _ _ _ _ _ (_ : Shared)
          refine wpAny_pure ?_
          show wpAny _ _ (ret Value.none) _ _ (_ : Shared)
          refine wpAny_pure ⟨rfl, g3, t3, rfl, st3, fun b o hbo => mv.heap b o (fun hm => ?_) (Heap.get?_push_of_some _ (Heap.get?_push_of_some _ hbo))⟩
          have bl := Heap.lt_size hbo
          rcases List.mem_cons.mp hm with e | hm
          · exact Nat.ne_of_lt bl e
          · rw [List.mem_singleton, sz1] at hm; exact Nat.ne_of_lt (Nat.lt_succ_of_lt bl) hm
      · cases r2 with
        | error e => exact q2
        | ok fl2 =>
          cases fl2 with
          | next => exact q2.elim
          | brk => exact q2.elim
          | cont => exact q2.elim
          | ret v2 =>
            obtain ⟨rfl, g2, t2, rfl, st2, kp2⟩ := q2
            repeat (any_goals (first | assumption | wp_step))
            exact fin _ _ st2 kp2

end
theorem val_str : ∀ {xs : List Str} {us : List Value}, Vals (xs.map V.str) us → ∀ (i : Nat) (v : Value), us[i]? = some v → ∃ x t, xs[i]? = some x ∧ v = .str x t
  | [], _, .nil, i, v, h => by simp at h
  | x :: xs, _, .cons ⟨t, e⟩ r, 0, v, h => ⟨x, t, rfl, by simp at h; rw [← h, e]⟩
  | x :: xs, _, .cons _ r, i + 1, v, h => by
    obtain ⟨y, t, h1, h2⟩ := val_str r i v (by simpa using h)
    exact ⟨y, t, by simpa using h1, h2⟩
/-- len(set(texts)), texts a list or a tuple -/
def tLenSt (K : PySem.W.Frag) (ta : TE) : TE := fun σ H Q => ta σ H fun x H1 => ∃ (l : Addr) (xs : List Str), x = .ref l ∧ (SqL K H1 l (xs.map V.str) ∨ SqT K H1 l (xs.map V.str)) ∧ xs.length ≤ 1000 ∧ Q (.int ((dst xs).length : Nat)) H1
theorem pe_lenSt {X : Cx} {a : Expr} {ta : TE} {p p2 q pos : Pos} (hc : X.calm = true) (hg : Gl X "len") (hm : X.mg "len" = none) (hg2 : Gl X "set") (hm2 : X.mg "set" = none) (ha : PE X a ta)
    (na : starEach [a] X.env = (false, eval a X.env) :: starEach [] X.env := by rfl) : PE X (.Call (.Name "len" p) [.Call (.Name "set" p2) [a] [] q] [] pos) (tLenSt X.K ta) := by
  refine ⟨fun pins s σ H Q I h => Call_ (ld_blt I hg hm boot_len ?_)⟩
  refine PyProof.Rows.callWith_builtin1 (PyProof.Rows.args_cons (Call_ (ld_blt I hg2 hm2 boot_set ?_)) rfl) rfl rfl
  refine PyProof.Rows.callWith_type1 (PyProof.Rows.args_cons (thn (ha.run pins s σ H _ I h) fun v s1 ⟨x, H1, I1, r1, q1⟩ => PyProof.Rows.args_nil ?_) na) na rfl
  obtain ⟨l, xs, rfl, hq, hl, q1⟩ := q1
  cases r1
  have fin : ∀ (g : Heap) (tk : Nat), g.SetOf (PySem.strKind X.prog X.w) s1.heap.objs.size (fun x => decide (x ∈ xs)) (dst xs).length → (∀ b o, s1.heap.get? b = some o → g.get? b = some o) →
      wpAny (model X.prog X.w) X.A (spliced (backTo pos (starEach [] X.env))) (fun vs s₂ => wpAny (model X.prog X.w) X.A (call (.builtin "len") (Value.ref s1.heap.objs.size :: vs)) (EP X pins σ Q) X.xe s₂) X.xe { s1 with heap := g, toks := tk } := fun g tk so kp => by
    refine PyProof.Rows.args_nil ?_
    have dl := dst_le xs
    obtain ⟨o, es, ep, t, ho, hex, hd, _, _, _, hf, hn⟩ := so
    have I2 : Inv X pins σ H1 { s1 with heap := g, toks := tk } := I1.kept fun b o e => kp b o e
    exact call_len_set ho hex hd hf (by rw [hn] <;> omega) ⟨.int ((dst xs).length : Nat), H1, I2.tok _, ⟨_, by rw [hn]⟩, q1⟩
  have hv : ∀ {its : List Value}, Vals (xs.map V.str) its → ∀ (i : Nat) (v : Value), its.toArray[i]? = some v → ∃ k, xs[i]? = some k ∧ (PySem.strKind X.prog X.w).is k v = true ∧ v.scannable = true := fun r i v e => by
    obtain ⟨x, t, h1, rfl⟩ := val_str r i v (by simpa using e)
    exact ⟨x, h1, strKind_is _ _ _ _, rfl⟩
  rcases hq with hq | hq
  · obtain ⟨its, r, pl, hz⟩ := I1.list hq
    have hs : its.toArray.size = xs.length := by rw [List.size_toArray, ← r.length, List.length_map]
    exact set_of_list (I1.ok.hd hc) pl.isList hs.symm (by rw [hs]; omega) (hv r) fin
  · obtain ⟨its, r, pl, hz⟩ := I1.tuple hq
    have hs : its.toArray.size = xs.length := by rw [List.size_toArray, ← r.length, List.length_map]
    exact set_of_tuple (I1.ok.hd hc) pl hs.symm (by rw [hs]; omega) (hv r) fin
section
variable {K : PySem.W.Frag} {te : TE} {Γ Γ1 : List Sl} {xs : List Str} {n : Int}
def pyLenSt (xs : List Str) : Option Int := if xs.length ≤ 1000 then some ((dst xs).length : Nat) else none
theorem ev_lenStL (h : EvX (rLst rStr) te Γ Γ1 xs) (e : pyLenSt xs = some n) : EvX rInt (tLenSt K te) Γ Γ1 n := by
  unfold pyLenSt at e
  split at e
  · rename_i hl
    cases e
    intro A σ H B F Q q
    refine h A σ H B F _ fun v H1 B1 F1 s1 k1 => ?_
    obtain ⟨p, vs, rfl, hp, k⟩ := ob_lst F1.bh k1
    exact ⟨p, xs, rfl, .inl (by rw [show xs.map V.str = vs from (fl_str.vals k).symm]; exact SqL.of hp), hl, q _ _ _ F1 s1 rfl⟩
  · cases e
theorem ev_lenStT (h : EvX (rTpl rStr) te Γ Γ1 xs) (e : pyLenSt xs = some n) : EvX rInt (tLenSt K te) Γ Γ1 n := by
  unfold pyLenSt at e
  split at e
  · rename_i hl
    cases e
    intro A σ H B F Q q
    refine h A σ H B F _ fun v H1 B1 F1 s1 k1 => ?_
    obtain ⟨p, vs, rfl, hp, k⟩ := ob_tpl F1.bh k1
    exact ⟨p, xs, rfl, .inr (by rw [show xs.map V.str = vs from (fl_str.vals k).symm]; exact SqT.of hp), hl, q _ _ _ F1 s1 rfl⟩
  · cases e
end
end G

set_option maxHeartbeats 4000000
/-! # G: rules whose reading names K, for use behind binders -/
namespace G
open PySem PySem.Spec PyProof.Rows L2
section
variable {X : Cx} {K : PySem.W.Frag}
theorem in_seqK (h : X.K = K) : OpR X (compareOp .In) (rIn K false) := by subst h; exact op_in_seq
theorem notIn_seqK (h : X.K = K) : OpR X (compareOp .NotIn) (rIn K true) := by subst h; exact op_notIn_seq
theorem eqDK (h : X.K = K) (hu : X.A.units + 64 < cLine) : OpR X (compareOp .Eq) (rEqD K) := by subst h; exact op_eqD hu
theorem neDK (h : X.K = K) (hu : X.A.units + 64 < cLine) : OpR X (compareOp .NotEq) (rNeD K) := by subst h; exact op_neD hu
theorem ix_listK (h : X.K = K) : IxR X (rIxL K) := by subst h; exact ix_list
theorem ix_tupK (h : X.K = K) : IxR X (rIxT K) := by subst h; exact ix_tup
theorem sl_listK (h : X.K = K) : SlR X (rSlL K) := by subst h; exact sl_list
theorem len_seqK (h : X.K = K) : CallR X (.builtin "len") (RLen K) := by subst h; exact call_len_seq
theorem list_ofK (h : X.K = K) : CallR X (.type "list") (RList K) := by subst h; exact call_list_of
theorem tuple_ofK (h : X.K = K) : CallR X (.type "tuple") (fun xs H Q => ∃ p ys, xs = [.ref p] ∧ ((SqL K H p ys ∧ ∀ l, H l = none → Q (.ref l) (upd H l (.tup ys))) ∨ (SqT K H p ys ∧ Q (.ref p) H))) := by subst h; exact call_tuple_of
theorem allK (h : X.K = K) (hc : X.calm = true) : CallR X (.builtin "all") (rAll K) := by subst h; exact cr_all hc
theorem isiK (h : X.K = K) : CallR X (.builtin "isinstance") (rIsi K) := by subst h; exact call_isi
theorem fldK {e : Expr} {ta : TE} {f : Str} {pos : Pos} (h : X.K = K) (he : PE X e ta) (hb : attributeBase e f X.env (eval e X.env) = eval e X.env) : PE X (.Attribute e f pos) (tFld K ta f) := by subst h; exact pe_fld he hb
theorem pg_tupK {es : List Expr} {k : Nat} {t : TGs} {pos : Pos} (h : X.K = K) (n : Nat) (hc : X.calm = true) (hp : PGs X es t) (hn : (assignEach es X.env).length = n := by rfl) (hst : (assignEach es X.env).findIdx? (·.1) = none := by rfl) : PG X (.Tuple es k pos) (gTup K n t) := by subst h; exact pg_tup hc hp hn hst
theorem lenStK {a : Expr} {ta : TE} {p p2 q pos : Pos} (h : X.K = K) (hc : X.calm = true) (hg : Gl X "len") (hm : X.mg "len" = none) (hg2 : Gl X "set") (hm2 : X.mg "set" = none) (ha : PE X a ta)
    (na : starEach [a] X.env = (false, eval a X.env) :: starEach [] X.env := by rfl) : PE X (.Call (.Name "len" p) [.Call (.Name "set" p2) [a] [] q] [] pos) (tLenSt K ta) := by subst h; exact pe_lenSt hc hg hm hg2 hm2 ha na
/-- an error of the class at S and «except B» -/
theorem exm_of {S B : Addr} {b : Bool} (h0 : PySem.W.subIn K (.ref B) (.type "BaseException") = some true) (h1 : PySem.W.isClsIn K B = true) (h2 : PySem.W.typeIn K (.ref B) = some (.type "type")) (h3 : PySem.W.subIn K (.ref S) (.ref B) = some b) : PySem.W.exmOne K (.ref S) (.ref B) = some b := by
  unfold PySem.W.exmOne PySem.W.kitCls
  have e1 : (PySem.W.subIn K (.ref B) (.type "BaseException") == some true) = true := by rw [h0]; rfl
  have e2 : ((PySem.W.clsIn K B).isSome && PySem.W.typeIn K (.ref B) == some (.type "type")) = true := by
    rw [h2, show (PySem.W.clsIn K B).isSome = true from h1]; rfl
  rw [if_pos e1]
  show (if ((PySem.W.clsIn K B).isSome && PySem.W.typeIn K (.ref B) == some (.type "type")) = true then PySem.W.subIn K (.ref S) (.ref B) else none) = some b
  rw [if_pos e2]
  exact h3
end
end G

namespace Law
open PySem L2 G
def m_l_start (script0 : (List Int)) : Option ((List Int) × Int × Int × Int) := letO ((0 : Int)) fun first1 => letO ((decide ((0 : Int) < (script0.length : Int)))) fun c2 => bindO (iteO c2 (bindO (atI script0 (0 : Int)) fun y4 => letO (y4) fun first5 => some first5) (some first1)) fun j3 => bindO (pyScr script0) fun l6 => some (l6, (1 : Int), j3, (0 : Int))
def m_l_draw (st0 : ((List Int) × Int × Int × Int)) (many0 : Int) : Option (Int × ((List Int) × Int × Int × Int)) := letO ((decide (((10 : Int) ^ ((18 : Int)).toNat) ≤ st0.2.2.1))) fun c1 => iteO c1 (bindO (pyMod st0.2.2.1 many0) fun r2 => letO (r2) fun drawn3 => bindO (pyDiv st0.2.2.1 many0) fun q4 => letO ((st0.1, st0.2.1, q4, st0.2.2.2)) fun z5 => some (drawn3, z5)) (letO ((st0.1, st0.2.1, st0.2.2.1, (st0.2.2.2 + (1 : Int)))) fun z6 => letO ((((z6.2.2.1 % (1000000007 : Int)) + ((69621 : Int) * z6.2.2.2)) + (48271 : Int))) fun seed7 => bindO (pyPow seed7 (17 : Int)) fun w8 => letO ((w8 % (170141183460469231731687303715884105727 : Int))) fun mixed9 => letO ((decide (z6.2.1 < (z6.1.length : Int)))) fun c10 => bindO (iteO c10 (bindO (atI z6.1 z6.2.1) fun y12 => letO ((z6.1, z6.2.1, y12, z6.2.2.2)) fun z13 => letO ((z13.1, (z13.2.1 + (1 : Int)), z13.2.2.1, z13.2.2.2)) fun z14 => some z14) (some z6)) fun j11 => bindO (pyMod (mixed9 / (64 : Int)) many0) fun r15 => some (r15, j11))
def m_l_text_b1 (some1 : Str) (k17 : Int) (s16 : (Str × ((List Int) × Int × Int × Int))) : Option (Step (Str × ((List Int) × Int × Int × Int)) (Str × ((List Int) × Int × Int × Int))) := letO ((decide (k17 = (0 : Int)))) fun c18 => iteO c18 (bindO (m_l_draw s16.2 (26 : Int)) fun p19 => bindO (pyIxS some1 p19.1) fun y20 => letO (y20) fun text_here21 => some (.nx (text_here21, p19.2))) (bindO (m_l_draw s16.2 (37 : Int)) fun p22 => bindO (pyIxS some1 p22.1) fun y23 => bindO (pyAddS s16.1 y23) fun s24 => letO (s24) fun text_here25 => some (.nx (text_here25, p22.2)))
def m_l_text (st0 : ((List Int) × Int × Int × Int)) : Option (Str × ((List Int) × Int × Int × Int)) := letO ((Str.ofString "abcdefghijklmnopqrstuvwxyz0123456789_")) fun some1 => bindO (m_l_draw st0 (2 : Int)) fun p2 => letO (p2.1) fun spoiled3 => bindO (m_l_draw p2.2 (24 : Int)) fun p4 => letO (p4.1) fun size5 => bindO (m_l_draw p4.2 (24 : Int)) fun p6 => letO (p6.1) fun spot7 => letO ((Str.ofString " !\"#$&'()*+,-./0123456789:;<=>?@ABCDEFGHIJKLMNOPQRSTUVWXYZ[\\]^_`")) fun chars8 => bindO (pyAddS chars8 (Str.ofString "abcdefghijklmnopqrstuvwxyz{|}~\n\t")) fun s9 => letO (s9) fun chars10 => bindO (m_l_draw p6.2 (96 : Int)) fun p11 => bindO (pyIxS chars10 p11.1) fun y12 => letO (y12) fun sign13 => letO ((Str.ofString "")) fun text_here14 => bindO (pyRng size5) fun l15 => bindO (forL (m_l_text_b1 some1) l15 (text_here14, p11.2)) fun R26 => stepO R26 fun e27 => letO (((decide (spoiled3 = (1 : Int))) && (decide ((0 : Int) < size5)))) fun c28 => bindO (iteO c28 (bindO (pyMod spot7 size5) fun r30 => letO (r30) fun spot31 => bindO (pySlS e27.1 none (some spot31)) fun s32 => bindO (pyAddS s32 sign13) fun s33 => bindO (pySlS e27.1 (some (spot31 + (1 : Int))) none) fun s34 => bindO (pyAddS s33 s34) fun s35 => letO (s35) fun text_here36 => some text_here36) (some e27.1)) fun j29 => some (j29, e27.2)
def m_l_due_b1 (sign11 : Str) (s10 : Unit) : Option (Step Bool Unit) := bindO (pyInSg sign11 (Str.ofString "abcdefghijklmnopqrstuvwxyz0123456789_")) fun n12 => letO ((!n12)) fun c13 => iteO c13 (some (.ret false)) (some (.nx ()))
def m_l_due (text_here0 : Str) : Option Bool := bindO (pyLenS text_here0) fun n1 => letO ((decide (n1 < (1 : Int)))) fun c4 => bindO (iteO c4 (some true) (bindO (pyLenS text_here0) fun n2 => some (decide ((20 : Int) < n2)))) fun b3 => letO (b3) fun c5 => iteO c5 (some false) (bindO (pyIxS text_here0 (0 : Int)) fun y6 => bindO (pyInSg y6 (Str.ofString "abcdefghijklmnopqrstuvwxyz")) fun n7 => letO ((!n7)) fun c8 => iteO c8 (some false) (bindO (pySgn text_here0) fun l9 => bindO (forL (m_l_due_b1) l9 ()) fun R14 => stepO R14 fun e15 => some true))
def m_is_name_c1 (letter9 : Str) : Option (Option Bool) := bindO (pyInSg letter9 (Str.ofString "abcdefghijklmnopqrstuvwxyz0123456789_")) fun n10 => some (some n10)
def m_is_name (text0 : Str) : Option Bool := bindO (pyLenS text0) fun n1 => letO ((decide (n1 = (0 : Int)))) fun c4 => bindO (iteO c4 (some true) (bindO (pyLenS text0) fun n2 => some (decide ((20 : Int) < n2)))) fun b3 => letO (b3) fun c5 => iteO c5 (some false) (bindO (pyIxS text0 (0 : Int)) fun y6 => bindO (pyInSg y6 (Str.ofString "abcdefghijklmnopqrstuvwxyz")) fun n7 => letO (n7) fun c13 => bindO (iteO c13 (bindO (pySgn text0) fun l8 => bindO (compL (m_is_name_c1) l8) fun l11 => some (l11.all id)) (some false)) fun b12 => some b12)
def m_are_columns_c1 (column5 : Str) : Option (Option Bool) := bindO (m_is_name column5) fun v6 => some (some v6)
def m_are_columns (columns0 : (List Str)) : Option Bool := letO ((decide ((0 : Int) < (columns0.length : Int)))) fun c3 => bindO (iteO c3 (bindO (pyLenSt columns0) fun n1 => some (decide (n1 = (columns0.length : Int)))) (some false)) fun b2 => letO (b2) fun distinct4 => letO (distinct4) fun c9 => bindO (iteO c9 (bindO (compL (m_are_columns_c1) columns0) fun l7 => some (l7.all id)) (some false)) fun b8 => some b8
def m_is_key_c1 (columns0 : (List Str)) (column5 : Str) : Option (Option Bool) := some (some (decide (column5 ∈ columns0)))
def m_is_key (key0 : (List Str)) (columns0 : (List Str)) : Option Bool := letO ((decide ((0 : Int) < (key0.length : Int)))) fun c3 => bindO (iteO c3 (bindO (pyLenSt key0) fun n1 => some (decide (n1 = (key0.length : Int)))) (some false)) fun b2 => letO (b2) fun distinct4 => letO (distinct4) fun c8 => bindO (iteO c8 (bindO (compL (m_is_key_c1 columns0) key0) fun l6 => some (l6.all id)) (some false)) fun b7 => some b7
def m_Table___init_c1 (key0 : (List Str)) (column11 : Str) : Option (Option Str) := letO ((decide (column11 ∈ key0))) fun c12 => iteO c12 (some (some column11)) (some (none))
def m_Table___init_c2 (key0 : (List Str)) (at15 : (Int × Str)) : Option (Option Int) := letO ((decide (at15.2 ∈ key0))) fun c16 => iteO c16 (some (some at15.1)) (some (none))
def m_Table___init (name0 : Str) (columns0 : (List Str)) (key0 : (List Str)) : Option (Res Str (Str × (List Str) × (List Str) × (List Int))) := bindO (m_is_name name0) fun v1 => letO (v1) fun c7 => bindO (iteO c7 (bindO (m_are_columns columns0) fun v2 => letO (v2) fun c5 => bindO (iteO c5 (bindO (m_is_key key0 columns0) fun v3 => some v3) (some false)) fun b4 => some b4) (some false)) fun b6 => letO ((!b6)) fun c8 => iteO c8 (some (.er name0)) (letO (name0) fun name9 => letO (columns0) fun columns10 => bindO (compL (m_Table___init_c1 key0) columns0) fun l13 => letO (l13) fun key14 => bindO (compL (m_Table___init_c2 key0) (enumL columns0)) fun l17 => letO (l17) fun key_places18 => some (.ok (name9, columns10, key14, key_places18)))
def m_l_made (name0 : Str) (columns0 : (List Str)) (key0 : (List Str)) : Option PyData := letO ((none : Option (Str × Str))) fun caught1 => bindO (m_Table___init name0 columns0 key0) fun r2 => resX r2 (fun table3 => letO (caught1.isSome) fun c5 => iteO c5 (some ((dOpt (dTup (dwC PyData.str (dw1 PyData.str)))) caught1)) (some ((dTup (dwC PyData.str (dwC PyData.str (dwC (dTpl PyData.str) (dw1 (dTpl PyData.str)))))) ((Str.ofString "made"), table3.1, table3.2.1, table3.2.2.1)))) (fun e4 => letO ((some ((Str.ofString "refused"), e4))) fun caught8 => letO (caught8.isSome) fun c9 => iteO c9 (some ((dOpt (dTup (dwC PyData.str (dw1 PyData.str)))) caught8)) (none))
def m_law_b1 (turn5 : Int) (s4 : ((List Int) × Int × Int × Int)) : Option (Step Bool ((List Int) × Int × Int × Int)) := bindO (m_l_text s4) fun p6 => letO (p6.1) fun text_here7 => bindO (m_l_due text_here7) fun v8 => letO (v8) fun due_here9 => bindO (m_is_name text_here7) fun v10 => letO (v10) fun actual11 => letO (((!true) || (!decide (actual11 = due_here9)))) fun c12 => iteO c12 (some (.ret false)) (bindO (m_l_made text_here7 [(Str.ofString "a"), (Str.ofString "b")] [(Str.ofString "b")]) fun v13 => letO (v13) fun as_name14 => bindO (m_l_made (Str.ofString "t") [(Str.ofString "aa"), text_here7, (Str.ofString "bb")] [(Str.ofString "bb")]) fun v15 => letO (v15) fun as_column16 => letO (due_here9) fun c19 => bindO (iteO c19 (bindO (pyEq (dId as_name14) ((dTup (dwC PyData.str (dwC PyData.str (dwC (dTup (dwC PyData.str (dw1 PyData.str))) (dw1 (dTup (dw1 PyData.str))))))) ((Str.ofString "made"), text_here7, ((Str.ofString "a"), (Str.ofString "b")), (Str.ofString "b")))) fun q17 => some (!q17)) (some false)) fun b18 => letO (b18) fun c20 => iteO c20 (some (.ret false)) (letO (due_here9) fun c25 => bindO (iteO c25 (letO ((!decide (text_here7 ∈ [(Str.ofString "aa"), (Str.ofString "bb")]))) fun c23 => bindO (iteO c23 (bindO (pyEq (dId as_column16) ((dTup (dwC PyData.str (dwC PyData.str (dwC (dTup (dwC PyData.str (dwC PyData.str (dw1 PyData.str)))) (dw1 (dTup (dw1 PyData.str))))))) ((Str.ofString "made"), (Str.ofString "t"), ((Str.ofString "aa"), text_here7, (Str.ofString "bb")), (Str.ofString "bb")))) fun q21 => some (!q21)) (some false)) fun b22 => some b22) (some false)) fun b24 => letO (b24) fun c26 => iteO c26 (some (.ret false)) (letO ((!due_here9)) fun c32 => bindO (iteO c32 (bindO (pyEq (dId as_name14) ((dTup (dwC PyData.str (dw1 PyData.str))) ((Str.ofString "refused"), text_here7))) fun q27 => letO ((!q27)) fun c30 => bindO (iteO c30 (some true) (bindO (pyEq (dId as_column16) ((dTup (dwC PyData.str (dw1 PyData.str))) ((Str.ofString "refused"), (Str.ofString "t")))) fun q28 => some (!q28))) fun b29 => some b29) (some false)) fun b31 => letO (b31) fun c33 => iteO c33 (some (.ret false)) (letO ((decide (text_here7 ∈ [(Str.ofString "aa"), (Str.ofString "bb")]))) fun c36 => bindO (iteO c36 (bindO (pyEq (dId as_column16) ((dTup (dwC PyData.str (dw1 PyData.str))) ((Str.ofString "refused"), (Str.ofString "t")))) fun q34 => some (!q34)) (some false)) fun b35 => letO (b35) fun c37 => iteO c37 (some (.ret false)) (some (.nx p6.2))))))
def m_law (script0 : (List Int)) : Option Bool := bindO (m_l_start script0) fun v1 => letO (v1) fun state2 => bindO (pyRng (3 : Int)) fun l3 => bindO (forL (m_law_b1) l3 state2) fun R38 => stepO R38 fun e39 => some true
end Law

set_option maxHeartbeats 4000000
/-! # the mathematics of k08 -/
namespace G
theorem forL_inv {α ρ ς : Type} {f : α → ς → Option (Step ρ ς)} (P : Nat → ς → Prop) : ∀ {xs : List α} {s : ς} {k : Nat}, P k s → (∀ (i : Nat) (x : α) (s : ς), xs[i]? = some x → P (k + i) s → ∃ s', f x s = some (.nx s') ∧ P (k + i + 1) s') → ∃ s', forL f xs s = some (.nx s') ∧ P (k + xs.length) s'
  | [], s, k, h, _ => ⟨s, rfl, h⟩
  | x :: xs, s, k, h, st => by
    obtain ⟨s1, e1, h1⟩ := st 0 x s rfl h
    obtain ⟨s2, e2, h2⟩ := forL_inv (xs := xs) (k := k + 1) P h1 fun i y s' hy hp => by
      have q := st (i + 1) y s' (by simpa using hy) (by rw [show k + (i + 1) = k + 1 + i by omega]; exact hp)
      rw [show k + (i + 1) + 1 = k + 1 + i + 1 by omega] at q
      exact q
    refine ⟨s2, ?_, by rw [List.length_cons, show k + (xs.length + 1) = k + 1 + xs.length by omega]; exact h2⟩
    unfold forL
    rw [e1]
    exact e2
end G
namespace Law
open PySem L2 G
open SX (S S_len S_cat slice_to slice_from)
abbrev Dr := List Int × Int × Int × Int
def I (n : Int) (st : Dr) : Prop := 0 ≤ st.2.1 ∧ 0 ≤ st.2.2.2 ∧ st.2.2.2 ≤ n
theorem mod_some {i j : Int} (h : 0 < j) : pyMod i j = some (i % j) := if_pos h
theorem div_some {i j : Int} (h : 0 < j) (h2 : j ≤ 100000) : pyDiv i j = some (i / j) := if_pos ⟨h, by
  have h3 : j.natAbs ≠ 0 := by omega
  rw [Nat.log2_lt h3]
  exact Nat.lt_of_lt_of_le (show j.natAbs < 2 ^ 17 by omega) (Nat.pow_le_pow_right (by decide) (by decide))⟩
theorem at_some {α : Type} {l : List α} {i : Int} (h0 : 0 ≤ i) (h : i < (l.length : Int)) : ∃ x, atI l i = some x := by
  unfold atI ixN
  rw [if_pos h0, if_pos h]
  exact ⟨l[i.toNat]'(by omega), by rw [Option.bind_some]; exact List.getElem?_eq_getElem (by omega)⟩
theorem draw_ok {n : Int} {st : Dr} {many : Int} (h : I n st) (hn : n ≤ 100000) (h1 : 0 < many) (h2 : many ≤ 100000) : ∃ d st', m_l_draw st many = some (d, st') ∧ 0 ≤ d ∧ d < many ∧ I (n + 1) st' := by
  obtain ⟨l, pos, v, cnt⟩ := st
  obtain ⟨a1, a2, a3⟩ := h
  dsimp only at a1 a2 a3
  unfold m_l_draw
  simp only [letO_s]
  cases hc : decide ((10 : Int) ^ ((18 : Int)).toNat ≤ v) with
  | true =>
    rw [iteO_T, mod_some h1, bindO_s, div_some h1 h2, bindO_s]
    exact ⟨_, _, rfl, Int.emod_nonneg _ (by omega), Int.emod_lt_of_pos _ h1, a1, a2, by dsimp only; omega⟩
  | false =>
    rw [iteO_F]
    have hp : pyPow (v % 1000000007 + 69621 * (cnt + 1) + 48271) 17 = some ((v % 1000000007 + 69621 * (cnt + 1) + 48271) ^ (17 : Int).toNat) := if_pos ⟨by decide, by decide, by
      have b1 := Int.emod_nonneg v (show (1000000007 : Int) ≠ 0 by decide)
      have b2 := Int.emod_lt_of_pos v (show (0 : Int) < 1000000007 by decide)
      omega⟩
    rw [hp, bindO_s]
    cases hq : decide (pos < (l.length : Int)) with
    | true =>
      obtain ⟨x, hx⟩ := at_some a1 (of_decide_eq_true hq)
      rw [iteO_T, hx, bindO_s, bindO_s, mod_some h1, bindO_s]
      exact ⟨_, _, rfl, Int.emod_nonneg _ (by omega), Int.emod_lt_of_pos _ h1, by dsimp only; omega, by dsimp only; omega, by dsimp only; omega⟩
    | false =>
      rw [iteO_F, bindO_s, mod_some h1, bindO_s]
      exact ⟨_, _, rfl, Int.emod_nonneg _ (by omega), Int.emod_lt_of_pos _ h1, by dsimp only; omega, by dsimp only; omega, by dsimp only; omega⟩

/-! ### texts -/
def Asc (cs : List Nat) : Prop := ∀ c ∈ cs, c < 128
theorem len_some {cs : List Nat} (h : cs.length ≤ 1000) : pyLenS (S cs) = some (cs.length : Int) := by
  unfold pyLenS
  rw [S_len, if_pos (Nat.le_trans h (by decide))]
theorem add_some {a b : List Nat} (h : a.length + b.length ≤ 2000) : pyAddS (S a) (S b) = some (S (a ++ b)) := by
  unfold pyAddS
  rw [S_len, S_len, if_pos (Nat.le_trans h (by decide)), S_cat]
theorem ix_some {z : Str} {i : Int} (h0 : 0 ≤ i) (h : i < (z.cps.toList.length : Int)) (hz : z.length ≤ 1000) : ∃ c, c ∈ z.cps.toList ∧ pyIxS z i = some (S [c]) := by
  obtain ⟨c, hc⟩ := at_some h0 h
  refine ⟨c, ?_, ?_⟩
  · unfold atI at hc
    cases q : ixN z.cps.toList.length i with
    | none => rw [q] at hc; cases hc
    | some j => rw [q] at hc; exact List.mem_of_getElem? hc
  · unfold pyIxS
    rw [if_pos (Nat.le_trans hz (by decide)), hc]
    rfl
theorem sl_to {cs : List Nat} {i : Int} (h : 0 ≤ i) (hl : cs.length ≤ 1000) : pySlS (S cs) none (some i) = some (S (cs.take i.toNat)) := by
  unfold pySlS
  rw [S_len, if_pos (Nat.le_trans hl (by decide)), slice_to h]
theorem sl_from {cs : List Nat} {i : Int} (h : 0 ≤ i) (hl : cs.length ≤ 1000) : pySlS (S cs) (some i) none = some (S (cs.drop i.toNat)) := by
  unfold pySlS
  rw [S_len, if_pos (Nat.le_trans hl (by decide)), slice_from h]
def A1 : Str := Str.ofString "abcdefghijklmnopqrstuvwxyz0123456789_"
def A0 : Str := Str.ofString "abcdefghijklmnopqrstuvwxyz"
def B1 : Str := Str.ofString " !\"#$&'()*+,-./0123456789:;<=>?@ABCDEFGHIJKLMNOPQRSTUVWXYZ[\\]^_`"
def B2 : Str := Str.ofString "abcdefghijklmnopqrstuvwxyz{|}~\n\t"
theorem A1_len : A1.cps.toList.length = 37 := by decide +kernel
theorem A1_len' : A1.length = 37 := by decide +kernel
theorem A1_asc : ∀ c ∈ A1.cps.toList, c < 128 := by decide +kernel
theorem B_add : pyAddS B1 B2 = some (B1 ++ B2) := by
  unfold pyAddS
  rw [if_pos]
  exact Nat.le_trans (show B1.length + B2.length ≤ 1000 by decide +kernel) (by decide)
theorem B_len : (B1 ++ B2).cps.toList.length = 96 := by decide +kernel
theorem B_len' : (B1 ++ B2).length = 96 := by decide +kernel
theorem B_asc : ∀ c ∈ (B1 ++ B2).cps.toList, c < 128 := by decide +kernel
theorem rng_some {j : Int} (h0 : 0 ≤ j) (h : j ≤ 1000) : pyRng j = some (rng 0 j.toNat) := if_pos ⟨by omega, by omega⟩
theorem text_ok {n : Int} {st : Dr} (h : I n st) (hn : n ≤ 50000) : ∃ cs st', m_l_text st = some (S cs, st') ∧ cs.length ≤ 24 ∧ Asc cs ∧ I (n + 30) st' := by
  unfold m_l_text
  simp only [letO_s]
  obtain ⟨d1, s1, e1, p1, q1, i1⟩ := draw_ok h (by omega) (show (0 : Int) < 2 by decide) (by decide)
  obtain ⟨d2, s2, e2, p2, q2, i2⟩ := draw_ok i1 (by omega) (show (0 : Int) < 24 by decide) (by decide)
  obtain ⟨d3, s3, e3, p3, q3, i3⟩ := draw_ok i2 (by omega) (show (0 : Int) < 24 by decide) (by decide)
  obtain ⟨d4, s4, e4, p4, q4, i4⟩ := draw_ok i3 (by omega) (show (0 : Int) < 96 by decide) (by decide)
  have eB := B_add
  unfold B1 B2 at eB
  simp only [e1, e2, e3, e4, bindO_s, eB]
  obtain ⟨c, hc, ec⟩ := ix_some (z := B1 ++ B2) p4 (by rw [B_len]; exact q4) (by rw [B_len']; decide)
  unfold B1 B2 at ec
  simp only [ec, bindO_s, rng_some p2 (by omega)]
  obtain ⟨R, eR, cs, hR, hl, ha, hi⟩ := forL_inv (ρ := Str × Dr) (f := m_l_text_b1 (Str.ofString "abcdefghijklmnopqrstuvwxyz0123456789_")) (xs := rng 0 d2.toNat) (s := (Str.ofString "", s4)) (k := 0)
    (fun i r => ∃ cs, r.1 = S cs ∧ cs.length = i ∧ Asc cs ∧ I (n + 1 + 1 + 1 + 1 + i) r.2)
    ⟨[], rfl, rfl, (fun _ z => nomatch z), by simpa using i4⟩ (fun i x r hx ⟨cs, hr, hl, ha, hi⟩ => by
      obtain ⟨hil, rfl⟩ := rng_get hx
      obtain ⟨t, sr⟩ := r
      dsimp only at hr hi
      subst hr
      unfold m_l_text_b1
      simp only [letO_s]
      by_cases h0 : (0 : Int) + (i : Int) = 0
      · rw [decide_eq_true h0]
        obtain ⟨d, s', e, p, q, j⟩ := draw_ok hi (by omega) (show (0 : Int) < 26 by decide) (by decide)
        obtain ⟨y, hy, ey⟩ := ix_some (z := A1) p (by rw [A1_len]; omega) (by rw [A1_len']; decide)
        unfold A1 at ey
        simp only [iteO_T, e, bindO_s, ey]
        refine ⟨_, rfl, [y], rfl, by simp; omega, fun c hc => ?_, ?_⟩
        · rw [List.mem_singleton.mp hc]; exact A1_asc _ hy
        · have : n + 1 + 1 + 1 + 1 + ((0 + i : Nat) : Int) + 1 = n + 1 + 1 + 1 + 1 + ((0 + i + 1 : Nat) : Int) := by omega
          rw [← this]; exact j
      · rw [decide_eq_false h0]
        obtain ⟨d, s', e, p, q, j⟩ := draw_ok hi (by omega) (show (0 : Int) < 37 by decide) (by decide)
        obtain ⟨y, hy, ey⟩ := ix_some (z := A1) p (by rw [A1_len]; omega) (by rw [A1_len']; decide)
        unfold A1 at ey
        simp only [iteO_F, e, bindO_s, ey, add_some (a := cs) (b := [y]) (by rw [hl, List.length_singleton]; omega)]
        refine ⟨_, rfl, cs ++ [y], rfl, by simp [hl], fun c hc => ?_, ?_⟩
        · rcases List.mem_append.mp hc with hc | hc
          · exact ha _ hc
          · rw [List.mem_singleton.mp hc]; exact A1_asc _ hy
        · have : n + 1 + 1 + 1 + 1 + ((0 + i : Nat) : Int) + 1 = n + 1 + 1 + 1 + 1 + ((0 + i + 1 : Nat) : Int) := by omega
          rw [← this]; exact j)
  rw [rng_len] at hl hi
  obtain ⟨t, sr⟩ := R
  dsimp only at hR hi
  subst hR
  have iz : I (n + 30) sr := ⟨hi.1, hi.2.1, by have := hi.2.2; omega⟩
  simp only [eR, bindO_s, stepO_N]
  cases hq : (decide (d1 = 1) && decide (0 < d2)) with
  | false =>
    simp only [iteO_F, bindO_s]
    exact ⟨cs, sr, rfl, by omega, ha, iz⟩
  | true =>
    have hd : 0 < d2 := by
      have := (Bool.and_eq_true_iff.mp hq).2
      exact of_decide_eq_true this
    have r1 := Int.emod_nonneg d3 (show d2 ≠ 0 by omega)
    have r2 := Int.emod_lt_of_pos d3 hd
    simp only [iteO_T, bindO_s, mod_some hd, sl_to r1 (show cs.length ≤ 1000 by omega), sl_from (show 0 ≤ d3 % d2 + 1 by omega) (show cs.length ≤ 1000 by omega)]
    have l1 : (cs.take (d3 % d2).toNat).length ≤ 24 := by rw [List.length_take]; omega
    have l2 : (cs.drop (d3 % d2 + 1).toNat).length ≤ 24 := by rw [List.length_drop]; omega
    rw [add_some (a := cs.take (d3 % d2).toNat) (b := [c]) (by rw [List.length_singleton]; omega), bindO_s, add_some (by rw [List.length_append, List.length_singleton]; omega), bindO_s, bindO_s]
    refine ⟨_, _, rfl, ?_, fun x hx => ?_, iz⟩
    · rw [List.length_append, List.length_append, List.length_singleton, List.length_take, List.length_drop]; omega
    · rcases List.mem_append.mp hx with hx | hx
      · rcases List.mem_append.mp hx with hx | hx
        · exact ha _ (List.mem_of_mem_take hx)
        · rw [List.mem_singleton.mp hx]; exact B_asc _ hc
      · exact ha _ (List.mem_of_mem_drop hx)
/-! ### is_name and the law's own -/
def nm (cs : List Nat) : Bool := decide (1 ≤ cs.length) && (decide (cs.length ≤ 20) && ((match cs with | [] => false | c :: _ => decide (c ∈ A0.cps.toList)) && cs.all fun c => decide (c ∈ A1.cps.toList)))
theorem sgn_S (cs : List Nat) : sgn (S cs) = cs.map fun c => S [c] := by
  unfold sgn
  rfl
theorem sg_some {cs : List Nat} (h : cs.length ≤ 1000) : pySgn (S cs) = some (cs.map fun c => S [c]) := by
  unfold pySgn
  rw [S_len, if_pos (by omega), sgn_S]
theorem in_some (c : Nat) (z : Str) : pyInSg (S [c]) z = some (decide (c ∈ z.cps.toList)) := rfl
theorem ix_first {c : Nat} {cs : List Nat} (h : (c :: cs).length ≤ 1000) : pyIxS (S (c :: cs)) 0 = some (S [c]) := by
  unfold pyIxS
  rw [S_len, if_pos (Nat.le_trans h (by decide))]
  have : atI (S (c :: cs)).cps.toList 0 = some c := by
    show atI (c :: cs) 0 = some c
    unfold atI ixN
    rw [if_pos (by decide), if_pos (by rw [List.length_cons]; omega)]
    rfl
  rw [this]; rfl
theorem nm_cons {c : Nat} {cs : List Nat} (h : (c :: cs).length ≤ 20) : nm (c :: cs) = (decide (c ∈ A0.cps.toList) && (c :: cs).all fun c => decide (c ∈ A1.cps.toList)) := by
  unfold nm
  rw [decide_eq_true h, show decide (1 ≤ (c :: cs).length) = true from decide_eq_true (by rw [List.length_cons]; omega), Bool.true_and, Bool.true_and]
theorem nm_long {cs : List Nat} (h : ¬ cs.length ≤ 20) : nm cs = false := by
  unfold nm
  rw [decide_eq_false h, Bool.false_and, Bool.and_false]
theorem forL_cons {α ρ ς : Type} (f : α → ς → Option (Step ρ ς)) (x : α) (xs : List α) (s : ς) : forL f (x :: xs) s = (match f x s with
    | none => none
    | some (.nx s') => forL f xs s'
    | some (.brk s') => some (.nx s')
    | some (.ret b) => some (.ret b)) := rfl
theorem compL_cons {α β : Type} (f : α → Option (Option β)) (x : α) (xs : List α) : compL f (x :: xs) = (match f x with
    | none => none
    | some none => compL f xs
    | some (some y) => match compL f xs with
      | none => none
      | some ys => some (y :: ys)) := rfl
theorem due_b1 (c : Nat) : m_l_due_b1 (S [c]) () = iteO (!decide (c ∈ A1.cps.toList)) (some (.ret false)) (some (.nx ())) := rfl
theorem due_loop : ∀ cs : List Nat, forL m_l_due_b1 (cs.map fun c => S [c]) () = some (if (cs.all fun c => decide (c ∈ A1.cps.toList)) = true then .nx () else .ret false)
  | [] => rfl
  | c :: cs => by
    rw [List.map_cons, forL_cons, due_b1, List.all_cons]
    cases h : decide (c ∈ A1.cps.toList) with
    | true => exact due_loop cs
    | false => rfl
theorem due_ok {cs : List Nat} (h : cs.length ≤ 1000) : m_l_due (S cs) = some (nm cs) := by
  unfold m_l_due
  simp only [len_some h, bindO_s, letO_s]
  cases cs with
  | nil => rfl
  | cons c cs =>
    have h1 : decide (((c :: cs).length : Int) < 1) = false := decide_eq_false (by rw [List.length_cons]; omega)
    rw [h1]
    simp only [iteO_F, bindO_s]
    by_cases h2 : (c :: cs).length ≤ 20
    · have h3 : decide ((20 : Int) < ((c :: cs).length : Int)) = false := decide_eq_false (by omega)
      rw [h3, iteO_F, ix_first h, bindO_s, in_some, bindO_s, nm_cons h2, sg_some h, bindO_s, due_loop (c :: cs), bindO_s]
      show iteO (!decide (c ∈ A0.cps.toList)) (some false) _ = _
      cases h4 : decide (c ∈ A0.cps.toList) with
      | false => rfl
      | true =>
        cases h5 : ((c :: cs).all fun c => decide (c ∈ A1.cps.toList)) with
        | true => rfl
        | false => rfl
    · have h3 : decide ((20 : Int) < ((c :: cs).length : Int)) = true := decide_eq_true (by omega)
      rw [h3, iteO_T, nm_long h2]
theorem name_c1 (c : Nat) : m_is_name_c1 (S [c]) = some (some (decide (c ∈ A1.cps.toList))) := rfl
theorem name_loop : ∀ cs : List Nat, compL m_is_name_c1 (cs.map fun c => S [c]) = some (cs.map fun c => decide (c ∈ A1.cps.toList))
  | [] => rfl
  | c :: cs => by
    rw [List.map_cons, List.map_cons, compL_cons, name_c1, name_loop cs]
theorem all_id (f : Nat → Bool) : ∀ cs : List Nat, (cs.map f).all id = cs.all f
  | [] => rfl
  | c :: cs => by rw [List.map_cons, List.all_cons, List.all_cons, all_id f cs]; rfl
theorem name_ok {cs : List Nat} (h : cs.length ≤ 1000) : m_is_name (S cs) = some (nm cs) := by
  unfold m_is_name
  simp only [len_some h, bindO_s, letO_s]
  cases cs with
  | nil => rfl
  | cons c cs =>
    have h1 : decide (((c :: cs).length : Int) = 0) = false := decide_eq_false (by rw [List.length_cons]; omega)
    rw [h1]
    simp only [iteO_F, bindO_s]
    by_cases h2 : (c :: cs).length ≤ 20
    · have h3 : decide ((20 : Int) < ((c :: cs).length : Int)) = false := decide_eq_false (by omega)
      rw [h3, iteO_F, ix_first h, bindO_s, in_some, bindO_s, nm_cons h2, sg_some h, bindO_s, name_loop (c :: cs), bindO_s, all_id]
      show bindO (iteO (decide (c ∈ A0.cps.toList)) _ _) _ = _
      cases h4 : decide (c ∈ A0.cps.toList) with
      | false => rfl
      | true => rw [Bool.true_and]; rfl
    · have h3 : decide ((20 : Int) < ((c :: cs).length : Int)) = true := decide_eq_true (by omega)
      rw [h3, iteO_T, nm_long h2]
/-! ### tables that are made or refused -/
theorem cols_ab : m_are_columns [Str.ofString "a", Str.ofString "b"] = some true := by decide +kernel
theorem key_ab : m_is_key [Str.ofString "b"] [Str.ofString "a", Str.ofString "b"] = some true := by decide +kernel
theorem made_name {cs : List Nat} (h : cs.length ≤ 1000) : m_l_made (S cs) [Str.ofString "a", Str.ofString "b"] [Str.ofString "b"] =
    some (if nm cs = true then .tuple [.str (Str.ofString "made"), .str (S cs), .tuple [.str (Str.ofString "a"), .str (Str.ofString "b")], .tuple [.str (Str.ofString "b")]] else .tuple [.str (Str.ofString "refused"), .str (S cs)]) := by
  unfold m_l_made m_Table___init
  simp only [letO_s, name_ok h, bindO_s]
  cases hn : nm cs with
  | false => rfl
  | true =>
    simp only [iteO_T, cols_ab, key_ab, bindO_s, Bool.not_true, iteO_F]
    rw [show compL (m_Table___init_c1 [Str.ofString "b"]) [Str.ofString "a", Str.ofString "b"] = some [Str.ofString "b"] by decide +kernel, show compL (m_Table___init_c2 [Str.ofString "b"]) (enumL [Str.ofString "a", Str.ofString "b"]) = some [1] by decide +kernel]
    rfl

def AA : Str := Str.ofString "aa"
def BB : Str := Str.ofString "bb"
theorem ab_ne : ¬ AA = BB := by decide +kernel
theorem dst_3 (x : Str) : (dst [AA, x, BB]).length = if x = AA ∨ x = BB then 2 else 3 := by
  unfold dst
  simp only [List.foldl_cons, List.foldl_nil, List.not_mem_nil, if_false, List.nil_append]
  by_cases h1 : x = AA
  · subst h1
    have : ¬ BB = AA := fun e => ab_ne e.symm
    simp [this]
  · by_cases h2 : x = BB
    · subst h2; simp [h1]
    · have h3 : ¬ BB = x := fun e => h2 e.symm
      have h4 : ¬ BB = AA := fun e => ab_ne e.symm
      simp [h1, h2, h3, h4]
def good (cs : List Nat) : Bool := nm cs && !(decide (S cs = AA) || decide (S cs = BB))
theorem name_AA : m_is_name AA = some true := by decide +kernel
theorem name_BB : m_is_name BB = some true := by decide +kernel
theorem cols_c1 {x : Str} {b : Bool} (h : m_is_name x = some b) : m_are_columns_c1 x = some (some b) := by unfold m_are_columns_c1; rw [h]; rfl
theorem cols_all {cs : List Nat} (h : cs.length ≤ 1000) : compL m_are_columns_c1 [AA, S cs, BB] = some [true, nm cs, true] := by
  rw [compL_cons, cols_c1 name_AA, compL_cons, cols_c1 (name_ok h), compL_cons, cols_c1 name_BB]
  rfl
theorem cols_3 {cs : List Nat} (h : cs.length ≤ 1000) : m_are_columns [AA, S cs, BB] = some (good cs) := by
  unfold m_are_columns
  have h1 : decide ((0 : Int) < (([AA, S cs, BB] : List Str).length : Int)) = true := rfl
  have h2 : pyLenSt [AA, S cs, BB] = some (((dst [AA, S cs, BB]).length : Nat) : Int) := if_pos (Nat.le_of_ble_eq_true rfl)
  simp only [letO_s, h1, iteO_T, h2, bindO_s, dst_3, cols_all h]
  unfold good
  by_cases e1 : S cs = AA
  · rw [if_pos (Or.inl e1), decide_eq_true e1, Bool.true_or, Bool.not_true, Bool.and_false]; rfl
  · by_cases e2 : S cs = BB
    · rw [if_pos (Or.inr e2), decide_eq_true e2, Bool.or_true, Bool.not_true, Bool.and_false]; rfl
    · rw [if_neg (fun z => z.elim e1 e2), decide_eq_false e1, decide_eq_false e2, Bool.or_false, Bool.not_false, Bool.and_true]
      show some (true && (nm cs && (true && true))) = some (nm cs)
      cases nm cs <;> rfl
theorem lenS_BB : pyLenSt [BB] = some 1 := by decide +kernel
theorem key_3 (x : Str) : m_is_key [BB] [AA, x, BB] = some true := by
  unfold m_is_key
  have h1 : decide ((0 : Int) < (([BB] : List Str).length : Int)) = true := rfl
  have h3 : compL (m_is_key_c1 [AA, x, BB]) [BB] = some [true] := by
    rw [compL_cons]
    unfold m_is_key_c1
    rw [show decide (BB ∈ [AA, x, BB]) = true from decide_eq_true (by simp)]
    rfl
  simp only [letO_s, h1, iteO_T, lenS_BB, bindO_s, h3]
  rfl
theorem init_c1 (x : Str) : m_Table___init_c1 [BB] x = some (if x = BB then some x else none) := by
  unfold m_Table___init_c1
  rw [letO_s]
  by_cases h : x = BB
  · rw [if_pos h, show decide (x ∈ [BB]) = true from decide_eq_true (by simp [h])]; rfl
  · rw [if_neg h, show decide (x ∈ [BB]) = false from decide_eq_false (by simp [h])]; rfl
theorem init_k {x : Str} (h : ¬ x = BB) : compL (m_Table___init_c1 [BB]) [AA, x, BB] = some [BB] := by
  rw [compL_cons, init_c1, if_neg ab_ne, compL_cons, init_c1, if_neg h, compL_cons, init_c1, if_pos rfl]
  rfl
theorem init_c2 (x : Int × Str) : ∃ o, m_Table___init_c2 [BB] x = some o := by
  unfold m_Table___init_c2
  rw [letO_s]
  cases decide (x.2 ∈ [BB]) with
  | true => exact ⟨_, rfl⟩
  | false => exact ⟨_, rfl⟩
theorem compL_ex {α β : Type} {f : α → Option (Option β)} (h : ∀ x, ∃ o, f x = some o) : ∀ xs, ∃ ys, compL f xs = some ys
  | [] => ⟨[], rfl⟩
  | x :: xs => by
    obtain ⟨o, e⟩ := h x
    obtain ⟨ys, e2⟩ := compL_ex h xs
    rw [compL_cons, e]
    cases o with
    | none => exact ⟨ys, e2⟩
    | some y => dsimp only; rw [e2]; exact ⟨_, rfl⟩
theorem name_t : m_is_name (Str.ofString "t") = some true := by decide +kernel
theorem made_col {cs : List Nat} (h : cs.length ≤ 1000) : m_l_made (Str.ofString "t") [AA, S cs, BB] [BB] =
    some (if good cs = true then .tuple [.str (Str.ofString "made"), .str (Str.ofString "t"), .tuple [.str AA, .str (S cs), .str BB], .tuple [.str BB]] else .tuple [.str (Str.ofString "refused"), .str (Str.ofString "t")]) := by
  unfold m_l_made m_Table___init
  simp only [letO_s, name_t, bindO_s, iteO_T, cols_3 h]
  cases hg : good cs with
  | false => rfl
  | true =>
    have hb : ¬ S cs = BB := fun e => by
      unfold good at hg
      rw [decide_eq_true e, Bool.or_true, Bool.not_true, Bool.and_false] at hg
      cases hg
    obtain ⟨ys, ey⟩ := compL_ex init_c2 (enumL [AA, S cs, BB])
    simp only [iteO_T, key_3, bindO_s, Bool.not_true, iteO_F, init_k hb, ey]
    rfl
/-! ### what is compared is alike -/
theorem str_ok {cs : List Nat} (h : Asc cs) : PyData.canLay0 (.str (S cs)) = true := by
  show (S cs).cps.all (· < 0x110000) = true
  rw [Array.all_eq_true_iff_forall_mem]
  intro c hc
  have := h c (by simpa using hc)
  exact decide_eq_true (Nat.lt_trans this (by decide))
theorem eqv_str (x : Str) : PyData.eqv (.str x) (.str x) = true := by
  unfold PyData.eqv
  exact beq_self_eq_true x
theorem asc_lit {x : Str} (h : (x.cps.toList.all fun c => decide (c < 128)) = true) : Asc x.cps.toList := fun c hc => of_decide_eq_true (List.all_eq_true.mp h c hc)

mutual
theorem eqv_refl : ∀ d : PyData, d.canLay0 = true → PyData.eqv d d = true
  | .none, _ => by simp [PyData.eqv]
  | .bool b, _ => by simp [PyData.eqv]
  | .int i, _ => by simp [PyData.eqv]
  | .str x, _ => eqv_str x
  | .list xs, h => by
    have h' : PyData.canLayAll0 xs = true := by simpa [PyData.canLay0] using h
    simpa [PyData.eqv] using eqvAll_refl xs h'
  | .tuple xs, h => by
    have h' : PyData.canLayAll0 xs = true := by simpa [PyData.canLay0] using h
    simpa [PyData.eqv] using eqvAll_refl xs h'
  | .dict _, h => by simp [PyData.canLay0] at h
theorem eqvAll_refl : ∀ xs : List PyData, PyData.canLayAll0 xs = true → PyData.eqvAll xs xs = true
  | [], _ => by simp [PyData.eqvAll]
  | x :: xs, h => by
    have h' : x.canLay0 = true ∧ PyData.canLayAll0 xs = true := by simpa [PyData.canLayAll0] using h
    simp [PyData.eqvAll, eqv_refl x h'.1, eqvAll_refl xs h'.2]
end
theorem eq_self {d : PyData} (h : d.canLay0 = true) (hd : d.depth ≤ 64) : pyEq d d = some true := by
  unfold pyEq
  have hs : SeqAt.shaped d = true := by
    unfold SeqAt.shaped
    rw [h, decide_eq_true hd]; rfl
  rw [if_pos ⟨hs, hs⟩, eqv_refl d h]
def dA (cs : List Nat) : PyData := .tuple [.str (Str.ofString "made"), .str (S cs), .tuple [.str (Str.ofString "a"), .str (Str.ofString "b")], .tuple [.str (Str.ofString "b")]]
def dR (cs : List Nat) : PyData := .tuple [.str (Str.ofString "refused"), .str (S cs)]
def dC (cs : List Nat) : PyData := .tuple [.str (Str.ofString "made"), .str (Str.ofString "t"), .tuple [.str AA, .str (S cs), .str BB], .tuple [.str BB]]
def dT : PyData := .tuple [.str (Str.ofString "refused"), .str (Str.ofString "t")]
theorem lit_ok (x : Str) (h : (x.cps.all fun c => decide (c < 0x110000)) = true) : PyData.canLay0 (.str x) = true := by
  simp only [PyData.canLay0]
  exact h
theorem ok_made : PyData.canLay0 (.str (Str.ofString "made")) = true := lit_ok _ (by decide +kernel)
theorem ok_ref : PyData.canLay0 (.str (Str.ofString "refused")) = true := lit_ok _ (by decide +kernel)
theorem ok_a : PyData.canLay0 (.str (Str.ofString "a")) = true := lit_ok _ (by decide +kernel)
theorem ok_b : PyData.canLay0 (.str (Str.ofString "b")) = true := lit_ok _ (by decide +kernel)
theorem ok_t : PyData.canLay0 (.str (Str.ofString "t")) = true := lit_ok _ (by decide +kernel)
theorem ok_AA : PyData.canLay0 (.str AA) = true := lit_ok _ (by decide +kernel)
theorem ok_BB : PyData.canLay0 (.str BB) = true := lit_ok _ (by decide +kernel)
theorem lay_tup {xs : List PyData} (h : PyData.canLayAll0 xs = true) : PyData.canLay0 (.tuple xs) = true := by simpa [PyData.canLay0] using h
theorem lay_nil : PyData.canLayAll0 [] = true := by simp [PyData.canLayAll0]
theorem lay_cons {x : PyData} {xs : List PyData} (h : x.canLay0 = true) (h2 : PyData.canLayAll0 xs = true) : PyData.canLayAll0 (x :: xs) = true := by simp [PyData.canLayAll0, h, h2]
theorem eq_A {cs : List Nat} (h : Asc cs) : pyEq (dA cs) (dA cs) = some true :=
  eq_self (lay_tup (lay_cons ok_made (lay_cons (str_ok h) (lay_cons (lay_tup (lay_cons ok_a (lay_cons ok_b lay_nil))) (lay_cons (lay_tup (lay_cons ok_b lay_nil)) lay_nil))))) (by simp [dA, PyData.depth, PyData.depthAll])
theorem eq_R {cs : List Nat} (h : Asc cs) : pyEq (dR cs) (dR cs) = some true := eq_self (lay_tup (lay_cons ok_ref (lay_cons (str_ok h) lay_nil))) (by simp [dR, PyData.depth, PyData.depthAll])
theorem eq_C {cs : List Nat} (h : Asc cs) : pyEq (dC cs) (dC cs) = some true :=
  eq_self (lay_tup (lay_cons ok_made (lay_cons ok_t (lay_cons (lay_tup (lay_cons ok_AA (lay_cons (str_ok h) (lay_cons ok_BB lay_nil)))) (lay_cons (lay_tup (lay_cons ok_BB lay_nil)) lay_nil))))) (by simp [dC, PyData.depth, PyData.depthAll])
theorem eq_T : pyEq dT dT = some true := eq_self (lay_tup (lay_cons ok_ref (lay_cons ok_t lay_nil))) (by simp [dT, PyData.depth, PyData.depthAll])
theorem turn_ok {n : Int} {st : Dr} (k : Int) (h : I n st) (hn : n ≤ 50000) : ∃ st', m_law_b1 k st = some (.nx st') ∧ I (n + 30) st' := by
  obtain ⟨cs, st', e, hl, ha, hi⟩ := text_ok h hn
  refine ⟨st', ?_, hi⟩
  have hl' : cs.length ≤ 1000 := by omega
  have m1 : m_l_made (S cs) [Str.ofString "a", Str.ofString "b"] [Str.ofString "b"] = some (if nm cs = true then dA cs else dR cs) := made_name hl'
  have m2 : m_l_made (Str.ofString "t") [Str.ofString "aa", S cs, Str.ofString "bb"] [Str.ofString "bb"] = some (if good cs = true then dC cs else dT) := made_col hl'
  have hin : decide (S cs ∈ [Str.ofString "aa", Str.ofString "bb"]) = (decide (S cs = AA) || decide (S cs = BB)) := by
    show decide (S cs ∈ [AA, BB]) = _
    by_cases e1 : S cs = AA <;> by_cases e2 : S cs = BB <;> simp [e1, e2]
  unfold m_law_b1
  simp only [e, bindO_s, letO_s, due_ok hl', name_ok hl', m1, m2, hin]
  rw [show decide True = true from rfl, show (!true || !true) = false from rfl, iteO_F]
  show bindO (iteO (nm cs) (bindO (pyEq (if nm cs = true then dA cs else dR cs) (dA cs)) fun q => some (!q)) (some false)) (fun b => iteO b (some (Step.ret false : Step Bool Dr))
    (bindO (iteO (nm cs) (bindO (iteO (!(decide (S cs = AA) || decide (S cs = BB))) (bindO (pyEq (if good cs = true then dC cs else dT) (dC cs)) fun q => some (!q)) (some false)) fun b => some b) (some false)) fun b => iteO b (some (Step.ret false : Step Bool Dr))
      (bindO (iteO (!nm cs) (bindO (pyEq (if nm cs = true then dA cs else dR cs) (dR cs)) fun q => bindO (iteO (!q) (some true) (bindO (pyEq (if good cs = true then dC cs else dT) dT) fun q => some (!q))) fun b => some b) (some false)) fun b => iteO b (some (Step.ret false : Step Bool Dr))
        (bindO (iteO (decide (S cs = AA) || decide (S cs = BB)) (bindO (pyEq (if good cs = true then dC cs else dT) dT) fun q => some (!q)) (some false)) fun b => iteO b (some (Step.ret false : Step Bool Dr)) (some (Step.nx st')))))) = some (Step.nx st')
  have hg : good cs = (nm cs && !(decide (S cs = AA) || decide (S cs = BB))) := rfl
  cases h1 : nm cs with
  | true =>
    cases h2 : (decide (S cs = AA) || decide (S cs = BB)) with
    | true =>
      rw [h1, h2] at hg
      have hg' : good cs = false := hg
      simp only [hg', iteO_T, iteO_F, eq_A ha, bindO_s, Bool.not_true, if_true, Bool.false_eq_true, if_false, eq_T]
    | false =>
      rw [h1, h2] at hg
      have hg' : good cs = true := hg
      simp only [hg', iteO_T, iteO_F, eq_A ha, eq_C ha, bindO_s, Bool.not_true, Bool.not_false, if_true]
  | false =>
    rw [h1] at hg
    have hg' : good cs = false := by rw [hg]; rfl
    cases h2 : (decide (S cs = AA) || decide (S cs = BB)) with
    | true => simp only [hg', iteO_T, iteO_F, eq_R ha, eq_T, bindO_s, Bool.not_true, Bool.not_false, Bool.false_eq_true, if_false]
    | false => simp only [hg', iteO_T, iteO_F, eq_R ha, eq_T, bindO_s, Bool.not_true, Bool.not_false, Bool.false_eq_true, if_false]
theorem start_ok (ns : List Int) (h : ns.length ≤ 63) : ∃ st, m_l_start ns = some st ∧ I 0 st := by
  unfold m_l_start
  have hs : pyScr ns = some ns := if_pos (by omega)
  simp only [letO_s, hs, bindO_s]
  cases hc : decide ((0 : Int) < (ns.length : Int)) with
  | false => exact ⟨_, rfl, by show (0 : Int) ≤ 1; decide, by show (0 : Int) ≤ 0; decide, by show (0 : Int) ≤ 0; decide⟩
  | true =>
    obtain ⟨x, hx⟩ := at_some (l := ns) (i := 0) (by decide) (of_decide_eq_true hc)
    rw [iteO_T, hx]
    exact ⟨_, rfl, by show (0 : Int) ≤ 1; decide, by show (0 : Int) ≤ 0; decide, by show (0 : Int) ≤ 0; decide⟩
theorem law_true (ns : List Int) (h : ns.length ≤ 63) : m_law ns = some true := by
  unfold m_law
  obtain ⟨st, e, hi⟩ := start_ok ns h
  have er : pyRng 3 = some (rng 0 3) := rng_some (by decide) (by decide)
  obtain ⟨s', es, _⟩ := forL_inv (ρ := Bool) (f := m_law_b1) (xs := rng 0 3) (s := st) (k := 0) (fun i s => I (30 * (i : Int)) s) (by simpa using hi) fun i x s hx hs => by
    have hil := (rng_get hx).1
    obtain ⟨s', e1, h1⟩ := turn_ok x hs (by omega)
    refine ⟨s', e1, ?_⟩
    have : 30 * ((0 + i : Nat) : Int) + 30 = 30 * ((0 + i + 1 : Nat) : Int) := by omega
    rw [← this]; exact h1
  simp only [e, er, letO_s, bindO_s, es, stepO_N]
end Law

set_option maxHeartbeats 4000000
namespace Law
open PySem PySem.Spec PyProof.Rows L2 G
abbrev topS (i : Nat) : Stmt := PySem.Challenge.pw_shownwrites_k08_names.main.body.getD i (.Pass ⟨0, 0, 0, 0⟩)
abbrev s_l_start : Stmt := topS 13
abbrev N_l_start : List Str := ["_law_script", "_law_first"]
theorem sc_l_start : FnScope N_l_start ["_law_script"] (defScope s_l_start) := ⟨rfl, rfl, rfl, by decide +kernel, rfl, by decide +kernel, by decide +kernel⟩
abbrev s_l_draw : Stmt := topS 14
abbrev N_l_draw : List Str := ["_law_state", "_law_many", "_law_drawn", "_law_seed", "_law_mixed"]
theorem sc_l_draw : FnScope N_l_draw ["_law_state", "_law_many"] (defScope s_l_draw) := ⟨rfl, rfl, rfl, by decide +kernel, rfl, by decide +kernel, by decide +kernel⟩
abbrev s_l_text : Stmt := topS 15
abbrev N_l_text : List Str := ["_law_state", "_law_some", "_law_spoiled", "_law_size", "_law_spot", "_law_chars", "_law_sign", "_law_text_here", "_law_k"]
theorem sc_l_text : FnScope N_l_text ["_law_state"] (defScope s_l_text) := ⟨rfl, rfl, rfl, by decide +kernel, rfl, by decide +kernel, by decide +kernel⟩
abbrev s_l_due : Stmt := topS 16
abbrev N_l_due : List Str := ["_law_text_here", "_law_sign"]
theorem sc_l_due : FnScope N_l_due ["_law_text_here"] (defScope s_l_due) := ⟨rfl, rfl, rfl, by decide +kernel, rfl, by decide +kernel, by decide +kernel⟩
abbrev s_is_name : Stmt := topS 8
abbrev N_is_name : List Str := ["text", "letter"]
theorem sc_is_name : FnScope N_is_name ["text"] (defScope s_is_name) := ⟨rfl, rfl, rfl, by decide +kernel, rfl, by decide +kernel, by decide +kernel⟩
abbrev s_are_columns : Stmt := topS 9
abbrev N_are_columns : List Str := ["columns", "distinct", "column"]
theorem sc_are_columns : FnScope N_are_columns ["columns"] (defScope s_are_columns) := ⟨rfl, rfl, rfl, by decide +kernel, rfl, by decide +kernel, by decide +kernel⟩
abbrev s_is_key : Stmt := topS 10
abbrev N_is_key : List Str := ["key", "columns", "distinct", "column"]
theorem sc_is_key : FnScope N_is_key ["key", "columns"] (defScope s_is_key) := ⟨rfl, rfl, rfl, by decide +kernel, rfl, by decide +kernel, by decide +kernel⟩
abbrev s_Table___init : Stmt := inClass (topS 11) 0
abbrev N_Table___init : List Str := ["self", "name", "columns", "key", "column", "at"]
theorem sc_Table___init : FnScope N_Table___init ["self", "name", "columns", "key"] (defScope s_Table___init) := ⟨rfl, rfl, rfl, by decide +kernel, rfl, by decide +kernel, by decide +kernel⟩
abbrev s_l_made : Stmt := topS 17
abbrev N_l_made : List Str := ["_law_name", "_law_columns", "_law_key", "_law_caught", "_law_table", "e"]
theorem sc_l_made : FnScope N_l_made ["_law_name", "_law_columns", "_law_key"] (defScope s_l_made) := ⟨rfl, rfl, rfl, by decide +kernel, rfl, by decide +kernel, by decide +kernel⟩
abbrev s_law : Stmt := topS 18
abbrev N_law : List Str := ["_law_script", "_law_state", "_law_turn", "_law_text_here", "_law_due_here", "_law_actual", "_law_as_name", "_law_as_column"]
theorem sc_law : FnScope N_law ["_law_script"] (defScope s_law) := ⟨rfl, rfl, rfl, by decide +kernel, rfl, by decide +kernel, by decide +kernel⟩
abbrev s_e_InvalidTable : Stmt := inClass (topS 3) 0
theorem sc_e_InvalidTable : FnScope ["self", "name"] ["self", "name"] (defScope s_e_InvalidTable) := ⟨rfl, rfl, rfl, by decide +kernel, rfl, by decide +kernel, by decide +kernel⟩
structure Ad where
  f_l_start : Addr
  d_l_start : FuncData
  f_l_draw : Addr
  d_l_draw : FuncData
  f_l_text : Addr
  d_l_text : FuncData
  f_l_due : Addr
  d_l_due : FuncData
  f_is_name : Addr
  d_is_name : FuncData
  f_are_columns : Addr
  d_are_columns : FuncData
  f_is_key : Addr
  d_is_key : FuncData
  f_Table___init : Addr
  d_Table___init : FuncData
  f_l_made : Addr
  d_l_made : FuncData
  f_law : Addr
  d_law : FuncData
  C_InvalidTable : Addr
  C_Table : Addr
  f_e_InvalidTable : Addr
  d_e_InvalidTable : FuncData
structure Txt (K : PySem.W.Frag) (mg : Str → Option Value) (a : Ad) : Prop where
  F_l_start : Fun K "_law_start" "_law_start" s_l_start a.f_l_start a.d_l_start
  g_l_start : mg "_law_start" = some (.ref a.f_l_start)
  n_l_start : Binds K a.d_l_start ["_law_script"] []
  F_l_draw : Fun K "_law_draw" "_law_draw" s_l_draw a.f_l_draw a.d_l_draw
  g_l_draw : mg "_law_draw" = some (.ref a.f_l_draw)
  n_l_draw : Binds K a.d_l_draw ["_law_state", "_law_many"] []
  F_l_text : Fun K "_law_text" "_law_text" s_l_text a.f_l_text a.d_l_text
  g_l_text : mg "_law_text" = some (.ref a.f_l_text)
  n_l_text : Binds K a.d_l_text ["_law_state"] []
  F_l_due : Fun K "_law_due" "_law_due" s_l_due a.f_l_due a.d_l_due
  g_l_due : mg "_law_due" = some (.ref a.f_l_due)
  n_l_due : Binds K a.d_l_due ["_law_text_here"] []
  F_is_name : Fun K "is_name" "is_name" s_is_name a.f_is_name a.d_is_name
  g_is_name : mg "is_name" = some (.ref a.f_is_name)
  n_is_name : Binds K a.d_is_name ["text"] []
  F_are_columns : Fun K "are_columns" "are_columns" s_are_columns a.f_are_columns a.d_are_columns
  g_are_columns : mg "are_columns" = some (.ref a.f_are_columns)
  n_are_columns : Binds K a.d_are_columns ["columns"] []
  F_is_key : Fun K "is_key" "is_key" s_is_key a.f_is_key a.d_is_key
  g_is_key : mg "is_key" = some (.ref a.f_is_key)
  n_is_key : Binds K a.d_is_key ["key", "columns"] []
  F_Table___init : Fun K "__init__" "Table.__init__" s_Table___init a.f_Table___init a.d_Table___init
  n_Table___init : Binds K a.d_Table___init ["self", "name", "columns", "key"] []
  F_l_made : Fun K "_law_made" "_law_made" s_l_made a.f_l_made a.d_l_made
  g_l_made : mg "_law_made" = some (.ref a.f_l_made)
  n_l_made : Binds K a.d_l_made ["_law_name", "_law_columns", "_law_key"] []
  F_law : Fun K "law" "law" s_law a.f_law a.d_law
  g_law : mg "law" = some (.ref a.f_law)
  n_law : Binds K a.d_law ["_law_script"] []
  b_all : mg "all" = none
  b_bool : mg "bool" = none
  b_enumerate : mg "enumerate" = none
  b_int : mg "int" = none
  b_isinstance : mg "isinstance" = none
  b_len : mg "len" = none
  b_list : mg "list" = none
  b_range : mg "range" = none
  b_set : mg "set" = none
  b_tuple : mg "tuple" = none
  c_FIRST : ∃ u, mg "FIRST" = some u ∧ RelV (.str (Str.ofString "abcdefghijklmnopqrstuvwxyz")) u
  c_FURTHER : ∃ u, mg "FURTHER" = some u ∧ RelV (.str (Str.ofString "abcdefghijklmnopqrstuvwxyz0123456789_")) u
  c_LONGEST : ∃ u, mg "LONGEST" = some u ∧ RelV (.int 20) u
  g_InvalidTable : mg "InvalidTable" = some (.ref a.C_InvalidTable)
  g_Table : mg "Table" = some (.ref a.C_Table)
  cl_Table : Cls K a.C_Table
  na_Table_name : NoAttr K a.C_Table "name"
  na_Table_columns : NoAttr K a.C_Table "columns"
  na_Table_key : NoAttr K a.C_Table "key"
  na_Table__key_places : NoAttr K a.C_Table "_key_places"
  M_Table : Mk K a.C_Table a.f_Table___init
  e_InvalidTable_InvalidTable : PySem.W.exmOne K (.ref a.C_InvalidTable) (.ref a.C_InvalidTable) = some true
  xf_InvalidTable : XfC K a.C_InvalidTable
  na_InvalidTable_name : PySem.W.findIn K (.ref a.C_InvalidTable) "name" = some none
  x_InvalidTable : OexC K a.C_InvalidTable
  i_InvalidTable : PySem.W.findIn K (.ref a.C_InvalidTable) "__init__" = some (some (.ref a.f_e_InvalidTable))
  t_InvalidTable : PySem.W.typeIn K (.ref a.f_e_InvalidTable) = some (.type "function")
  F_e_InvalidTable : Fun K "__init__" "InvalidTable.__init__" s_e_InvalidTable a.f_e_InvalidTable a.d_e_InvalidTable
  n_e_InvalidTable : Binds K a.d_e_InvalidTable ["self", "name"] []
section
variable {P : Program} {w : World} {K : PySem.W.Frag} {mg : Str → Option Value} {base : Heap} {a : Ad}
theorem ok_e_InvalidTable (T : Txt K mg a) : FnOk P w K mg base CX0 1 a.f_e_InvalidTable a.d_e_InvalidTable ["self", "name"] (SpE1 a.C_InvalidTable "name") := okE1 T.F_e_InvalidTable sc_e_InvalidTable T.x_InvalidTable T.na_InvalidTable_name rfl rfl rfl (Or.inl rfl) (Or.inl rfl) (by decide) (by decide) rfl
theorem ok_l_start (T : Txt K mg a) : FnOk P w K mg base CX0 1 a.f_l_start a.d_l_start ["_law_script"] (SpC (w1 (rScr K)) (cHls (wC (rOb (cLst rInt)) (wC rInt (wC rInt (w1 rInt))))) (fun x => m_l_start x)) := by
  refine T.F_l_start.ok sc_l_start (fun vs H Q E h => ?_) (fun cdv A outer s H vs Q E hr h => ?_)
  · obtain ⟨B, x, b, z, sm, hw, h, kr⟩ := h
    rw [WLen.len hw]; rfl
  · obtain ⟨B, script0, b, z, sm, hw, h, kr⟩ := h
    have h : m_l_start script0 = some b := h
    have kr : RtC (amb0 B H) (cHls (wC (rOb (cLst rInt)) (wC rInt (wC rInt (w1 rInt))))) b Q := kr
    refine ⟨_, (pss_cons (ps_set (i := 1) sc_l_start.nd rfl (by first | exact Or.inl rfl | exact Or.inr rfl) pe_int) (Evl.pss_cut (ps_if (pt_cmpR op_gt (pe_callB (len_seqK (K := K) rfl) (by rfl) T.b_len (by decide +kernel) (pa_cons (pv 0) pa_nil)) pe_int (nomark _)) (pss_cons (ps_set (i := 1) sc_l_start.nd rfl (by first | exact Or.inl rfl | exact Or.inr rfl) (pe_ix (ix_listK (K := K) rfl) (pv 0) pe_int (fun _ _ => rfl))) pss_nil) pss_nil) (pss_cons (ps_ret (pe_lst (pa_cons (pe_callTy (list_ofK (K := K) rfl) (by rfl) T.b_list (by decide +kernel) (pa_cons (pv 0) pa_nil)) (pa_cons pe_int (pa_cons (pv 1) (pa_cons pe_int pa_nil)))))) pss_nil))), ?_⟩
    refine nx_go (frm_start (N := N_l_start) (n := 1) z sm hw (by rw [WLen.len hw]; rfl)) ?_
    show Nx _ _ [.imm (rScr K) script0, .no]
    unfold m_l_start at h
    obtain ⟨first1, hfirst1, h⟩ := letO_some h
    refine (sq_asg (ev_to ev_int hfirst1.symm) ?_)
    show Nx _ _ [.imm (rScr K) script0, .imm rInt first1]
    obtain ⟨c2, hc2, h⟩ := letO_some h
    obtain ⟨j3, hj3, h2⟩ := bindO_some h
    have h := hj3
    refine nx_cut [.imm (rScr K) script0, .imm rInt j3] (nx_if (et_to (et_T (ev_gt (ev_lenC (ev_var rfl)) ev_int)) hc2.symm) (fun hc => ?_) (fun hc => ?_)) ?_
    · clear h2 hj3
      have h := iteO_t hc h
      obtain ⟨y4, hy4, h⟩ := bindO_some h
      obtain ⟨first5, hfirst5, h⟩ := letO_some h
      refine (sq_asg (ev_to (ev_ixC (ev_var rfl) ev_int hy4) hfirst5.symm) ?_)
      show Nx _ _ [.imm (rScr K) script0, .imm rInt first5]
      obtain rfl := Option.some.inj h
      exact nx_fin
    · clear h2 hj3
      have h := iteO_f hc h
      obtain rfl := Option.some.inj h
      exact nx_fin
    · clear h
      have h := h2
      obtain ⟨l6, hl6, h⟩ := bindO_some h
      exact (sq_retC (ec_hls (ew_C (ev_new (ec_listC (ev_var rfl) hl6)) (ew_C ev_int (ew_C (ev_var rfl) (ew_1 ev_int))))) h kr)
theorem ok_l_draw (T : Txt K mg a) : FnOk P w K mg base CX0 1 a.f_l_draw a.d_l_draw ["_law_state", "_law_many"] (SpS (cHls (wC (rOb (cLst rInt)) (wC rInt (wC rInt (w1 rInt))))) (w1 rInt) rInt (fun st x => m_l_draw st x)) := by
  refine T.F_l_draw.ok sc_l_draw (fun vs H Q E h => ?_) (fun cdv A outer s H vs Q E hr h => ?_)
  · obtain ⟨p, vs', B, o, st, x, b, rfl, z, sm, hB, hp, ko, hw, h, kr⟩ := h
    show vs'.length + 1 = _; rw [WLen.len hw]; rfl
  · obtain ⟨p, vs', B, o, st0, many0, b, rfl, z, sm, hB, hp, ko, hw, h, kr⟩ := h
    have h : m_l_draw st0 many0 = some b := h
    refine ⟨_, (pss_cons (ps_if (pt_cmpR op_ge (pe_ix (ix_listK (K := K) rfl) (pv 0) pe_int (fun _ _ => rfl)) (pe_op op_pow pe_int pe_int) (nomark _)) (pss_cons (ps_set (i := 2) sc_l_draw.nd rfl (by first | exact Or.inl rfl | exact Or.inr rfl) (pe_op op_mod (pe_callTy call_int1 (by rfl) T.b_int (by decide +kernel) (pa_cons (pe_ix (ix_listK (K := K) rfl) (pv 0) pe_int (fun _ _ => rfl)) pa_nil)) (pv 1))) (pss_cons (ps_asg (pe_op op_fdivW (pe_ix (ix_listK (K := K) rfl) (pv 0) pe_int (fun _ _ => rfl)) (pv 1)) (pg_sub (pv 0) pe_int set_list)) (pss_cons (ps_ret (pv 2)) pss_nil))) pss_nil) (pss_cons (ps_asg (pe_op op_add (pe_ix (ix_listK (K := K) rfl) (pv 0) pe_int (fun _ _ => rfl)) pe_int) (pg_sub (pv 0) pe_int set_list)) (pss_cons (ps_set (i := 3) sc_l_draw.nd rfl (by first | exact Or.inl rfl | exact Or.inr rfl) (pe_op op_add (pe_op op_add (pe_op op_mod (pe_callTy call_int1 (by rfl) T.b_int (by decide +kernel) (pa_cons (pe_ix (ix_listK (K := K) rfl) (pv 0) pe_int (fun _ _ => rfl)) pa_nil)) pe_int) (pe_op op_mul pe_int (pe_ix (ix_listK (K := K) rfl) (pv 0) pe_int (fun _ _ => rfl)))) pe_int)) (pss_cons (ps_set (i := 4) sc_l_draw.nd rfl (by first | exact Or.inl rfl | exact Or.inr rfl) (pe_op op_mod (pe_op op_pow (pv 3) pe_int) pe_int)) (Evl.pss_cut (ps_if (pt_cmpR op_lt (pe_ix (ix_listK (K := K) rfl) (pv 0) pe_int (fun _ _ => rfl)) (pe_callB (len_seqK (K := K) rfl) (by rfl) T.b_len (by decide +kernel) (pa_cons (pe_ix (ix_listK (K := K) rfl) (pv 0) pe_int (fun _ _ => rfl)) pa_nil)) (nomark _)) (pss_cons (ps_asg (pe_ix (ix_listK (K := K) rfl) (pe_ix (ix_listK (K := K) rfl) (pv 0) pe_int (fun _ _ => rfl)) (pe_ix (ix_listK (K := K) rfl) (pv 0) pe_int (fun _ _ => rfl)) (fun _ _ => rfl)) (pg_sub (pv 0) pe_int set_list)) (pss_cons (ps_asg (pe_op op_add (pe_ix (ix_listK (K := K) rfl) (pv 0) pe_int (fun _ _ => rfl)) pe_int) (pg_sub (pv 0) pe_int set_list)) pss_nil)) pss_nil) (pss_cons (ps_ret (pe_op op_mod (pe_op op_fdivW (pe_callTy call_int1 (by rfl) T.b_int (by decide +kernel) (pa_cons (pv 4) pa_nil)) pe_int) (pv 1))) pss_nil)))))), ?_⟩
    refine nx_go (frm_startS (N := N_l_draw) (n := 3) z sm hB hp ko hw (by rw [WLen.len hw]; rfl)) ?_
    show Nx _ _ [.cel p (cHls (wC (rOb (cLst rInt)) (wC rInt (wC rInt (w1 rInt))))) st0, .imm rInt many0, .no, .no, .no]
    unfold m_l_draw at h
    obtain ⟨c1, hc1, h⟩ := letO_some h
    refine (sq_if (et_to (et_T (ev_ge (ev_celR (k := 2) rfl (accS (accS (acc0)))) (ev_pow ev_int ev_int (by unfold CPow; decide)))) hc1.symm) (fun hc => ?_) (fun hc => ?_))
    · have h := iteO_t hc h
      obtain ⟨r2, hr2, h⟩ := bindO_some h
      obtain ⟨drawn3, hdrawn3, h⟩ := letO_some h
      refine (sq_asg (ev_to (ev_modP (ev_int1 (ev_celR (k := 2) rfl (accS (accS (acc0))))) (ev_var rfl) hr2) hdrawn3.symm) ?_)
      show Nx _ _ [.cel p (cHls (wC (rOb (cLst rInt)) (wC rInt (wC rInt (w1 rInt))))) st0, .imm rInt many0, .imm rInt drawn3, .no, .no]
      obtain ⟨q4, hq4, h⟩ := bindO_some h
      obtain ⟨z5, hz5, h⟩ := letO_some h
      refine (sq_setR (k := 2) (ev_divP (ev_celR (k := 2) rfl (accS (accS (acc0)))) (ev_var rfl) hq4) rfl (updS (updS (upd0))) (nx_cel (i := 0) rfl hz5.symm ?_))
      show Nx _ _ [.cel p (cHls (wC (rOb (cLst rInt)) (wC rInt (wC rInt (w1 rInt))))) z5, .imm rInt many0, .imm rInt drawn3, .no, .no]
      exact (sq_retS (i := 0) (ev_var rfl) rfl h kr)
    · have h := iteO_f hc h
      refine nx_next ?_
      try dsimp only
      obtain ⟨z6, hz6, h⟩ := letO_some h
      refine (sq_setR (k := 3) (ev_add (ev_celR (k := 3) rfl (accS (accS (accS (acc1))))) ev_int) rfl (updS (updS (updS (upd1)))) (nx_cel (i := 0) rfl hz6.symm ?_))
      show Nx _ _ [.cel p (cHls (wC (rOb (cLst rInt)) (wC rInt (wC rInt (w1 rInt))))) z6, .imm rInt many0, .no, .no, .no]
      obtain ⟨seed7, hseed7, h⟩ := letO_some h
      refine (sq_asg (ev_to (ev_add (ev_add (ev_mod (ev_int1 (ev_celR (k := 2) rfl (accS (accS (acc0))))) ev_int (by decide)) (ev_mul ev_int (ev_celR (k := 3) rfl (accS (accS (accS (acc1))))) (.inl (by decide)))) ev_int) hseed7.symm) ?_)
      show Nx _ _ [.cel p (cHls (wC (rOb (cLst rInt)) (wC rInt (wC rInt (w1 rInt))))) z6, .imm rInt many0, .no, .imm rInt seed7, .no]
      obtain ⟨w8, hw8, h⟩ := bindO_some h
      obtain ⟨mixed9, hmixed9, h⟩ := letO_some h
      refine (sq_asg (ev_to (ev_mod (ev_powP (ev_var rfl) ev_int hw8) ev_int (by decide)) hmixed9.symm) ?_)
      show Nx _ _ [.cel p (cHls (wC (rOb (cLst rInt)) (wC rInt (wC rInt (w1 rInt))))) z6, .imm rInt many0, .no, .imm rInt seed7, .imm rInt mixed9]
      obtain ⟨c10, hc10, h⟩ := letO_some h
      obtain ⟨j11, hj11, h2⟩ := bindO_some h
      have h := hj11
      refine nx_cut [.cel p (cHls (wC (rOb (cLst rInt)) (wC rInt (wC rInt (w1 rInt))))) j11, .imm rInt many0, .no, .imm rInt seed7, .imm rInt mixed9] (nx_if (et_to (et_T (ev_lt (ev_celR (k := 1) rfl (accS (acc0))) (ev_lenL (ev_celR (k := 0) rfl (acc0))))) hc10.symm) (fun hc => ?_) (fun hc => ?_)) ?_
      · clear h2 hj11
        have h := iteO_t hc h
        obtain ⟨y12, hy12, h⟩ := bindO_some h
        obtain ⟨z13, hz13, h⟩ := letO_some h
        refine (sq_setR (k := 2) (ev_ixL (ev_celR (k := 0) rfl (acc0)) (ev_celR (k := 1) rfl (accS (acc0))) hy12) rfl (updS (updS (upd0))) (nx_cel (i := 0) rfl hz13.symm ?_))
        show Nx _ _ [.cel p (cHls (wC (rOb (cLst rInt)) (wC rInt (wC rInt (w1 rInt))))) z13, .imm rInt many0, .no, .imm rInt seed7, .imm rInt mixed9]
        obtain ⟨z14, hz14, h⟩ := letO_some h
        refine (sq_setR (k := 1) (ev_add (ev_celR (k := 1) rfl (accS (acc0))) ev_int) rfl (updS (upd0)) (nx_cel (i := 0) rfl hz14.symm ?_))
        show Nx _ _ [.cel p (cHls (wC (rOb (cLst rInt)) (wC rInt (wC rInt (w1 rInt))))) z14, .imm rInt many0, .no, .imm rInt seed7, .imm rInt mixed9]
        obtain rfl := Option.some.inj h
        exact nx_fin
      · clear h2 hj11
        have h := iteO_f hc h
        obtain rfl := Option.some.inj h
        exact nx_fin
      · clear h
        have h := h2
        obtain ⟨r15, hr15, h⟩ := bindO_some h
        exact (sq_retS (i := 0) (ev_modP (ev_divW (ev_int1 (ev_var rfl)) ev_int (by unfold CDivW; decide)) (ev_var rfl) hr15) rfl h kr)
theorem ok_l_text (T : Txt K mg a) : FnOk P w K mg base CX0 2 a.f_l_text a.d_l_text ["_law_state"] (SpS (cHls (wC (rOb (cLst rInt)) (wC rInt (wC rInt (w1 rInt))))) w0 rStr (fun st x => m_l_text st)) := by
  refine T.F_l_text.ok sc_l_text (fun vs H Q E h => ?_) (fun cdv A outer s H vs Q E hr h => ?_)
  · obtain ⟨p, vs', B, o, st, x, b, rfl, z, sm, hB, hp, ko, hw, h, kr⟩ := h
    show vs'.length + 1 = _; rw [WLen.len hw]; rfl
  · obtain ⟨p, vs', B, o, st0, _x, b, rfl, z, sm, hB, hp, ko, hw, h, kr⟩ := h
    have h : m_l_text st0  = some b := h
    refine ⟨_, (pss_cons (ps_set (i := 1) sc_l_text.nd rfl (by first | exact Or.inl rfl | exact Or.inr rfl) pe_str) (pss_cons (ps_set (i := 2) sc_l_text.nd rfl (by first | exact Or.inl rfl | exact Or.inr rfl) (pe_call (ok_l_draw T) (hr.mono (by decide)) rfl T.g_l_draw T.F_l_draw.kp T.n_l_draw .nil pass0 (pa_cons (pv 0) (pa_cons pe_int pa_nil)))) (pss_cons (ps_set (i := 3) sc_l_text.nd rfl (by first | exact Or.inl rfl | exact Or.inr rfl) (pe_call (ok_l_draw T) (hr.mono (by decide)) rfl T.g_l_draw T.F_l_draw.kp T.n_l_draw .nil pass0 (pa_cons (pv 0) (pa_cons pe_int pa_nil)))) (pss_cons (ps_set (i := 4) sc_l_text.nd rfl (by first | exact Or.inl rfl | exact Or.inr rfl) (pe_call (ok_l_draw T) (hr.mono (by decide)) rfl T.g_l_draw T.F_l_draw.kp T.n_l_draw .nil pass0 (pa_cons (pv 0) (pa_cons pe_int pa_nil)))) (pss_cons (ps_set (i := 5) sc_l_text.nd rfl (by first | exact Or.inl rfl | exact Or.inr rfl) pe_str) (pss_cons (ps_set (i := 5) sc_l_text.nd rfl (by first | exact Or.inl rfl | exact Or.inr rfl) (pe_op op_add_str (pv 5) pe_str)) (pss_cons (ps_set (i := 6) sc_l_text.nd rfl (by first | exact Or.inl rfl | exact Or.inr rfl) (pe_ix ix_str (pv 5) (pe_call (ok_l_draw T) (hr.mono (by decide)) rfl T.g_l_draw T.F_l_draw.kp T.n_l_draw .nil pass0 (pa_cons (pv 0) (pa_cons pe_int pa_nil))) (fun _ _ => rfl))) (pss_cons (ps_set (i := 7) sc_l_text.nd rfl (by first | exact Or.inl rfl | exact Or.inr rfl) pe_str) (pss_cons (ps_for PassesOwn.never rfl (pi_range1 rfl T.b_range (pa_cons (pv 3) pa_nil)) (pg_name (i := 8) sc_l_text.nd rfl (by first | exact Or.inl rfl | exact Or.inr rfl)) (pss_cons (ps_if (pt_cmpR op_eq (pv 8) pe_int (nomark _)) (pss_cons (ps_set (i := 7) sc_l_text.nd rfl (by first | exact Or.inl rfl | exact Or.inr rfl) (pe_ix ix_str (pv 1) (pe_call (ok_l_draw T) (hr.mono (by decide)) rfl T.g_l_draw T.F_l_draw.kp T.n_l_draw .nil pass0 (pa_cons (pv 0) (pa_cons pe_int pa_nil))) (fun _ _ => rfl))) pss_nil) (pss_cons (ps_set (i := 7) sc_l_text.nd rfl (by first | exact Or.inl rfl | exact Or.inr rfl) (pe_op op_add_str (pv 7) (pe_ix ix_str (pv 1) (pe_call (ok_l_draw T) (hr.mono (by decide)) rfl T.g_l_draw T.F_l_draw.kp T.n_l_draw .nil pass0 (pa_cons (pv 0) (pa_cons pe_int pa_nil))) (fun _ _ => rfl)))) pss_nil)) pss_nil)) (Evl.pss_cut (ps_if (PW.pt (pw_and (pt_cmpR op_eq (pv 2) pe_int (nomark _)) (pw_and1 (pt_cmpR op_gt (pv 3) pe_int (nomark _))))) (pss_cons (ps_set (i := 4) sc_l_text.nd rfl (by first | exact Or.inl rfl | exact Or.inr rfl) (pe_op op_mod (pv 4) (pv 3))) (pss_cons (ps_set (i := 7) sc_l_text.nd rfl (by first | exact Or.inl rfl | exact Or.inr rfl) (pe_op op_add_str (pe_op op_add_str (pe_slice C8.sl_txt (pv 7) po_none (po_some (pv 4))) (pv 6)) (pe_slice C8.sl_txt (pv 7) (po_some (pe_op op_add (pv 4) pe_int)) po_none))) pss_nil)) pss_nil) (pss_cons (ps_ret (pv 7)) pss_nil))))))))))), ?_⟩
    refine nx_go (frm_startS (N := N_l_text) (n := 8) z sm hB hp ko hw (by rw [WLen.len hw]; rfl)) ?_
    show Nx _ _ [.cel p (cHls (wC (rOb (cLst rInt)) (wC rInt (wC rInt (w1 rInt))))) st0, .no, .no, .no, .no, .no, .no, .no, .no]
    unfold m_l_text at h
    obtain ⟨some1, hsome1, h⟩ := letO_some h
    refine (sq_asg (ev_to ev_str hsome1.symm) ?_)
    show Nx _ _ [.cel p (cHls (wC (rOb (cLst rInt)) (wC rInt (wC rInt (w1 rInt))))) st0, .imm rStr some1, .no, .no, .no, .no, .no, .no, .no]
    obtain ⟨p2, hp2, h⟩ := bindO_some h
    obtain ⟨spoiled3, hspoiled3, h⟩ := letO_some h
    refine (sq_asg (ev_to (ev_callS (ew_1 ev_int) rfl rfl hp2) hspoiled3.symm) ?_)
    show Nx _ _ [.cel p (cHls (wC (rOb (cLst rInt)) (wC rInt (wC rInt (w1 rInt))))) p2.2, .imm rStr some1, .imm rInt spoiled3, .no, .no, .no, .no, .no, .no]
    obtain ⟨p4, hp4, h⟩ := bindO_some h
    obtain ⟨size5, hsize5, h⟩ := letO_some h
    refine (sq_asg (ev_to (ev_callS (ew_1 ev_int) rfl rfl hp4) hsize5.symm) ?_)
    show Nx _ _ [.cel p (cHls (wC (rOb (cLst rInt)) (wC rInt (wC rInt (w1 rInt))))) p4.2, .imm rStr some1, .imm rInt spoiled3, .imm rInt size5, .no, .no, .no, .no, .no]
    obtain ⟨p6, hp6, h⟩ := bindO_some h
    obtain ⟨spot7, hspot7, h⟩ := letO_some h
    refine (sq_asg (ev_to (ev_callS (ew_1 ev_int) rfl rfl hp6) hspot7.symm) ?_)
    show Nx _ _ [.cel p (cHls (wC (rOb (cLst rInt)) (wC rInt (wC rInt (w1 rInt))))) p6.2, .imm rStr some1, .imm rInt spoiled3, .imm rInt size5, .imm rInt spot7, .no, .no, .no, .no]
    obtain ⟨chars8, hchars8, h⟩ := letO_some h
    refine (sq_asg (ev_to ev_str hchars8.symm) ?_)
    show Nx _ _ [.cel p (cHls (wC (rOb (cLst rInt)) (wC rInt (wC rInt (w1 rInt))))) p6.2, .imm rStr some1, .imm rInt spoiled3, .imm rInt size5, .imm rInt spot7, .imm rStr chars8, .no, .no, .no]
    obtain ⟨s9, hs9, h⟩ := bindO_some h
    obtain ⟨chars10, hchars10, h⟩ := letO_some h
    refine (sq_asg (ev_to (ev_addS (ev_var rfl) ev_str hs9) hchars10.symm) ?_)
    show Nx _ _ [.cel p (cHls (wC (rOb (cLst rInt)) (wC rInt (wC rInt (w1 rInt))))) p6.2, .imm rStr some1, .imm rInt spoiled3, .imm rInt size5, .imm rInt spot7, .imm rStr chars10, .no, .no, .no]
    obtain ⟨p11, hp11, h⟩ := bindO_some h
    obtain ⟨y12, hy12, h⟩ := bindO_some h
    obtain ⟨sign13, hsign13, h⟩ := letO_some h
    refine (sq_asg (ev_to (ev_ixS (ev_var rfl) (ev_callS (ew_1 ev_int) rfl rfl hp11) hy12) hsign13.symm) ?_)
    show Nx _ _ [.cel p (cHls (wC (rOb (cLst rInt)) (wC rInt (wC rInt (w1 rInt))))) p11.2, .imm rStr some1, .imm rInt spoiled3, .imm rInt size5, .imm rInt spot7, .imm rStr chars10, .imm rStr sign13, .no, .no]
    obtain ⟨text_here14, htext_here14, h⟩ := letO_some h
    refine (sq_asg (ev_to ev_str htext_here14.symm) ?_)
    show Nx _ _ [.cel p (cHls (wC (rOb (cLst rInt)) (wC rInt (wC rInt (w1 rInt))))) p11.2, .imm rStr some1, .imm rInt spoiled3, .imm rInt size5, .imm rInt spot7, .imm rStr chars10, .imm rStr sign13, .imm rStr text_here14, .no]
    obtain ⟨l15, hl15, h⟩ := bindO_some h
    obtain ⟨R26, hR26, h⟩ := bindO_some h
    refine (sq_for (ψ := psiS p (cHls (wC (rOb (cLst rInt)) (wC rInt (wC rInt (w1 rInt))))) rStr) (m_l_text_b1 some1) (fun z => [.cel p (cHls (wC (rOb (cLst rInt)) (wC rInt (wC rInt (w1 rInt))))) z.2, .imm rStr some1, .imm rInt spoiled3, .imm rInt size5, .imm rInt spot7, .imm rStr chars10, .imm rStr sign13, .imm rStr z.1, .no]) (it_rng1 (ew_1 (ev_var rfl)) hl15) hR26 (fun A1 _ => ?_) (fun _ => tg_name) (fun A1 D1 k17 s16 st hA1 h k1 => ?_) ?_ ?_)
    · exact nx_fin
    · show Nx _ _ [.cel p (cHls (wC (rOb (cLst rInt)) (wC rInt (wC rInt (w1 rInt))))) s16.2, .imm rStr some1, .imm rInt spoiled3, .imm rInt size5, .imm rInt spot7, .imm rStr chars10, .imm rStr sign13, .imm rStr s16.1, .imm rInt k17]
      unfold m_l_text_b1 at h
      obtain ⟨c18, hc18, h⟩ := letO_some h
      refine (sq_if (et_to (et_T (ev_eqS scInt (ev_var rfl) ev_int rfl)) hc18.symm) (fun hc => ?_) (fun hc => ?_))
      · have h := iteO_t hc h
        obtain ⟨p19, hp19, h⟩ := bindO_some h
        obtain ⟨y20, hy20, h⟩ := bindO_some h
        obtain ⟨text_here21, htext_here21, h⟩ := letO_some h
        refine (sq_asg (ev_to (ev_ixS (ev_var rfl) (ev_callS (ew_1 ev_int) rfl rfl hp19) hy20) htext_here21.symm) ?_)
        show Nx _ _ [.cel p (cHls (wC (rOb (cLst rInt)) (wC rInt (wC rInt (w1 rInt))))) p19.2, .imm rStr some1, .imm rInt spoiled3, .imm rInt size5, .imm rInt spot7, .imm rStr chars10, .imm rStr sign13, .imm rStr text_here21, .imm rInt k17]
        refine nx_next ?_
        refine nx_forget 8 ?_
        exact k1.nx _ (Option.some.inj h).symm
      · have h := iteO_f hc h
        obtain ⟨p22, hp22, h⟩ := bindO_some h
        obtain ⟨y23, hy23, h⟩ := bindO_some h
        obtain ⟨s24, hs24, h⟩ := bindO_some h
        obtain ⟨text_here25, htext_here25, h⟩ := letO_some h
        refine (sq_asg (ev_to (ev_addS (ev_var rfl) (ev_ixS (ev_var rfl) (ev_callS (ew_1 ev_int) rfl rfl hp22) hy23) hs24) htext_here25.symm) ?_)
        show Nx _ _ [.cel p (cHls (wC (rOb (cLst rInt)) (wC rInt (wC rInt (w1 rInt))))) p22.2, .imm rStr some1, .imm rInt spoiled3, .imm rInt size5, .imm rInt spot7, .imm rStr chars10, .imm rStr sign13, .imm rStr text_here25, .imm rInt k17]
        refine nx_next ?_
        refine nx_forget 8 ?_
        exact k1.nx _ (Option.some.inj h).symm
    · intro b e
      subst e
      obtain rfl := stepO_ret h; exact kr
    · intro e27 e
      subst e
      have h := stepO_nx h
      show Nx _ _ [.cel p (cHls (wC (rOb (cLst rInt)) (wC rInt (wC rInt (w1 rInt))))) e27.2, .imm rStr some1, .imm rInt spoiled3, .imm rInt size5, .imm rInt spot7, .imm rStr chars10, .imm rStr sign13, .imm rStr e27.1, .no]
      obtain ⟨c28, hc28, h⟩ := letO_some h
      obtain ⟨j29, hj29, h2⟩ := bindO_some h
      have h := hj29
      refine nx_cut [.cel p (cHls (wC (rOb (cLst rInt)) (wC rInt (wC rInt (w1 rInt))))) e27.2, .imm rStr some1, .imm rInt spoiled3, .imm rInt size5, .no, .imm rStr chars10, .imm rStr sign13, .imm rStr j29, .no] (nx_if (et_to (et_and0 (et_T (ev_eqS scInt (ev_var rfl) ev_int rfl)) (et_T (ev_gt (ev_var rfl) ev_int))) hc28.symm) (fun hc => ?_) (fun hc => ?_)) ?_
      · clear h2 hj29
        have h := iteO_t hc h
        obtain ⟨r30, hr30, h⟩ := bindO_some h
        obtain ⟨spot31, hspot31, h⟩ := letO_some h
        refine (sq_asg (ev_to (ev_modP (ev_var rfl) (ev_var rfl) hr30) hspot31.symm) ?_)
        show Nx _ _ [.cel p (cHls (wC (rOb (cLst rInt)) (wC rInt (wC rInt (w1 rInt))))) e27.2, .imm rStr some1, .imm rInt spoiled3, .imm rInt size5, .imm rInt spot31, .imm rStr chars10, .imm rStr sign13, .imm rStr e27.1, .no]
        obtain ⟨s32, hs32, h⟩ := bindO_some h
        obtain ⟨s33, hs33, h⟩ := bindO_some h
        obtain ⟨s34, hs34, h⟩ := bindO_some h
        obtain ⟨s35, hs35, h⟩ := bindO_some h
        obtain ⟨text_here36, htext_here36, h⟩ := letO_some h
        refine (sq_asg (ev_to (ev_addS (ev_addS (ev_slS (ev_var rfl) eo_none (eo_some (ev_var rfl)) hs32) (ev_var rfl) hs33) (ev_slS (ev_var rfl) (eo_some (ev_add (ev_var rfl) ev_int)) eo_none hs34) hs35) htext_here36.symm) ?_)
        show Nx _ _ [.cel p (cHls (wC (rOb (cLst rInt)) (wC rInt (wC rInt (w1 rInt))))) e27.2, .imm rStr some1, .imm rInt spoiled3, .imm rInt size5, .imm rInt spot31, .imm rStr chars10, .imm rStr sign13, .imm rStr text_here36, .no]
        refine nx_forget 4 ?_
        obtain rfl := Option.some.inj h
        exact nx_fin
      · clear h2 hj29
        have h := iteO_f hc h
        refine nx_forget 4 ?_
        obtain rfl := Option.some.inj h
        exact nx_fin
      · clear h
        have h := h2
        exact (sq_retS (i := 0) (ev_var rfl) rfl h kr)
theorem ok_l_due (T : Txt K mg a) : FnOk P w K mg base CX0 1 a.f_l_due a.d_l_due ["_law_text_here"] (SpP (w1 rStr) rBool (fun x => m_l_due x)) := by
  refine T.F_l_due.ok sc_l_due (fun vs H Q E h => ?_) (fun cdv A outer s H vs Q E hr h => ?_)
  · obtain ⟨B, x, b, z, sm, hw, h, kr⟩ := h
    rw [WLen.len hw]; rfl
  · obtain ⟨B, text_here0, b, z, sm, hw, h, kr⟩ := h
    have h : m_l_due text_here0 = some b := h
    refine ⟨_, (pss_cons (ps_if (PW.pt (pw_or (pt_cmpR op_lt (pe_callB call_len_str (by rfl) T.b_len (by decide +kernel) (pa_cons (pv 0) pa_nil)) pe_int (nomark _)) (pw_or1 (pt_cmpR op_gt (pe_callB call_len_str (by rfl) T.b_len (by decide +kernel) (pa_cons (pv 0) pa_nil)) pe_int (nomark _))))) (pss_cons (ps_ret pe_bl) pss_nil) pss_nil) (pss_cons (ps_if (pt_cmpR op_notIn_sign (pe_ix ix_str (pv 0) pe_int (fun _ _ => rfl)) pe_str rfl) (pss_cons (ps_ret pe_bl) pss_nil) pss_nil) (pss_cons (ps_for PassesOwn.never rfl (pi_str (pv 0)) (pg_name (i := 1) sc_l_due.nd rfl (by first | exact Or.inl rfl | exact Or.inr rfl)) (pss_cons (ps_if (pt_cmpR op_notIn_sign (pv 1) pe_str rfl) (pss_cons (ps_ret pe_bl) pss_nil) pss_nil) pss_nil)) (pss_cons (ps_ret pe_bl) pss_nil)))), ?_⟩
    refine nx_go (frm_start (N := N_l_due) (n := 1) z sm hw (by rw [WLen.len hw]; rfl)) ?_
    show Nx _ _ [.imm rStr text_here0, .no]
    unfold m_l_due at h
    obtain ⟨n1, hn1, h⟩ := bindO_some h
    obtain ⟨c4, hc4, h⟩ := letO_some h
    obtain ⟨b3, hb3, h⟩ := bindO_some h
    obtain ⟨c5, hc5, h⟩ := letO_some h
    refine (sq_if (et_to (et_or (et_to (et_T (ev_lt (ev_lenS (ev_var rfl) hn1) ev_int)) hc4.symm) (fun hc => by have hx := iteO_f hc hb3; obtain ⟨n2, hn2, hx⟩ := bindO_some hx; exact et_to (et_T (ev_gt (ev_lenS (ev_var rfl) hn2) ev_int)) (Option.some.inj hx)) (fun hc => ⟨(Option.some.inj (iteO_t hc hb3)).symm, rfl⟩)) hc5.symm) (fun hc => ?_) (fun hc => ?_))
    · have h := iteO_t hc h
      exact (sq_ret ev_bl h kr)
    · have h := iteO_f hc h
      refine nx_next ?_
      try dsimp only
      obtain ⟨y6, hy6, h⟩ := bindO_some h
      obtain ⟨n7, hn7, h⟩ := bindO_some h
      obtain ⟨c8, hc8, h⟩ := letO_some h
      refine (sq_if (et_to (et_T (ev_ninSg (ev_ixS (ev_var rfl) ev_int hy6) ev_str hn7)) hc8.symm) (fun hc => ?_) (fun hc => ?_))
      · have h := iteO_t hc h
        exact (sq_ret ev_bl h kr)
      · have h := iteO_f hc h
        refine nx_next ?_
        try dsimp only
        obtain ⟨l9, hl9, h⟩ := bindO_some h
        obtain ⟨R14, hR14, h⟩ := bindO_some h
        refine (sq_for (ψ := psi rBool) (m_l_due_b1) (fun z => [.imm rStr text_here0, .no]) (it_str (ev_var rfl) hl9) hR14 (fun A1 _ => ?_) (fun _ => tg_name) (fun A1 D1 sign11 s10 st hA1 h k1 => ?_) ?_ ?_)
        · exact nx_fin
        · show Nx _ _ [.imm rStr text_here0, .imm rStr sign11]
          unfold m_l_due_b1 at h
          obtain ⟨n12, hn12, h⟩ := bindO_some h
          obtain ⟨c13, hc13, h⟩ := letO_some h
          refine (sq_if (et_to (et_T (ev_ninSg (ev_var rfl) ev_str hn12)) hc13.symm) (fun hc => ?_) (fun hc => ?_))
          · have h := iteO_t hc h
            exact (sq_ret ev_bl rfl (k1.rt _ (Option.some.inj h).symm))
          · have h := iteO_f hc h
            refine nx_next ?_
            try dsimp only
            refine nx_next ?_
            refine nx_forget 1 ?_
            exact k1.nx _ (Option.some.inj h).symm
        · intro b e
          subst e
          obtain rfl := stepO_ret h; exact kr
        · intro e15 e
          subst e
          have h := stepO_nx h
          show Nx _ _ [.imm rStr text_here0, .no]
          exact (sq_ret ev_bl h kr)
theorem ok_is_name (T : Txt K mg a) : FnOk P w K mg base CX0 1 a.f_is_name a.d_is_name ["text"] (SpP (w1 rStr) rBool (fun x => m_is_name x)) := by
  refine T.F_is_name.ok sc_is_name (fun vs H Q E h => ?_) (fun cdv A outer s H vs Q E hr h => ?_)
  · obtain ⟨B, x, b, z, sm, hw, h, kr⟩ := h
    rw [WLen.len hw]; rfl
  · obtain ⟨B, text0, b, z, sm, hw, h, kr⟩ := h
    have h : m_is_name text0 = some b := h
    refine ⟨_, (pss_cons (ps_if (PW.pt (pw_or (pt_cmpR op_eq (pe_callB call_len_str (by rfl) T.b_len (by decide +kernel) (pa_cons (pv 0) pa_nil)) pe_int (nomark _)) (pw_or1 (pt_cmpR op_gt (pe_callB call_len_str (by rfl) T.b_len (by decide +kernel) (pa_cons (pv 0) pa_nil)) (C8.pe_gc rfl T.c_LONGEST) (nomark _))))) (pss_cons (ps_ret pe_bl) pss_nil) pss_nil) (pss_cons (ps_ret (pe_and (pe_cmpR op_in_sign (pe_ix ix_str (pv 0) pe_int (fun _ _ => rfl)) (C8.pe_gc rfl T.c_FIRST) rfl) (pe_one (pe_callB (allK (K := K) rfl rfl) (by rfl) T.b_all (by decide +kernel) (pa_cons (pe_lc (own := [("letter", 1)]) rfl sc_is_name.nd (pi_str (pv 0)) (blkOk_by (N := N_is_name) (sc := defScope s_is_name) (by decide +kernel)) (fun _ _ _ _ _ => (pg_name (i := 1) sc_is_name.nd rfl (by first | exact Or.inl rfl | exact Or.inr rfl))) (fun _ _ _ _ _ => pts_nil) (fun _ _ _ _ _ => (pe_cmpR op_in_sign (pv 1) (C8.pe_gc rfl T.c_FURTHER) rfl))) pa_nil))))) pss_nil)), ?_⟩
    refine nx_go (frm_start (N := N_is_name) (n := 1) z sm hw (by rw [WLen.len hw]; rfl)) ?_
    show Nx _ _ [.imm rStr text0, .no]
    unfold m_is_name at h
    obtain ⟨n1, hn1, h⟩ := bindO_some h
    obtain ⟨c4, hc4, h⟩ := letO_some h
    obtain ⟨b3, hb3, h⟩ := bindO_some h
    obtain ⟨c5, hc5, h⟩ := letO_some h
    refine (sq_if (et_to (et_or (et_to (et_T (ev_eqS scInt (ev_lenS (ev_var rfl) hn1) ev_int rfl)) hc4.symm) (fun hc => by have hx := iteO_f hc hb3; obtain ⟨n2, hn2, hx⟩ := bindO_some hx; exact et_to (et_T (ev_gt (ev_lenS (ev_var rfl) hn2) ev_int)) (Option.some.inj hx)) (fun hc => ⟨(Option.some.inj (iteO_t hc hb3)).symm, rfl⟩)) hc5.symm) (fun hc => ?_) (fun hc => ?_))
    · have h := iteO_t hc h
      exact (sq_ret ev_bl h kr)
    · have h := iteO_f hc h
      refine nx_next ?_
      try dsimp only
      obtain ⟨y6, hy6, h⟩ := bindO_some h
      obtain ⟨n7, hn7, h⟩ := bindO_some h
      obtain ⟨c13, hc13, h⟩ := letO_some h
      obtain ⟨b12, hb12, h⟩ := bindO_some h
      exact (sq_ret (ev_and (ev_to (ev_inSg (ev_ixS (ev_var rfl) ev_int hy6) ev_str hn7) hc13.symm) (fun hc => by have hx := iteO_t hc hb12; obtain ⟨l8, hl8, hx⟩ := bindO_some hx; obtain ⟨l11, hl11, hx⟩ := bindO_some hx; exact ev_to (ev_allL (ev_new (ec_lc (m_is_name_c1) (it_str (ev_var rfl) hl8) hl11 tg_name (fun k hk => hk) (by rfl) (fun _ => by rfl) (fun letter9 o ho => by unfold m_is_name_c1 at ho; obtain ⟨n10, hn10, ho⟩ := bindO_some ho; cases ho; exact ⟨et_yes, fun y hy => by cases hy; exact (ev_inSg (ev_var rfl) ev_str hn10)⟩)))) (Option.some.inj hx)) (fun hc => ⟨(Option.some.inj (iteO_f hc hb12)).symm, rfl⟩)) h kr)
theorem ok_are_columns (T : Txt K mg a) : FnOk P w K mg base CX0 2 a.f_are_columns a.d_are_columns ["columns"] (SpP (w1 (rOb (cLst rStr))) rBool (fun x => m_are_columns x)) := by
  refine T.F_are_columns.ok sc_are_columns (fun vs H Q E h => ?_) (fun cdv A outer s H vs Q E hr h => ?_)
  · obtain ⟨B, x, b, z, sm, hw, h, kr⟩ := h
    rw [WLen.len hw]; rfl
  · obtain ⟨B, columns0, b, z, sm, hw, h, kr⟩ := h
    have h : m_are_columns columns0 = some b := h
    refine ⟨_, (pss_cons (ps_set (i := 1) sc_are_columns.nd rfl (by first | exact Or.inl rfl | exact Or.inr rfl) (pe_and (pe_cmpR op_gt (pe_callB (len_seqK (K := K) rfl) (by rfl) T.b_len (by decide +kernel) (pa_cons (pv 0) pa_nil)) pe_int (nomark _)) (pe_one (pe_cmpR op_eq (lenStK (K := K) rfl rfl (by rfl) T.b_len (by rfl) T.b_set (pv 0)) (pe_callB (len_seqK (K := K) rfl) (by rfl) T.b_len (by decide +kernel) (pa_cons (pv 0) pa_nil)) (nomark _))))) (pss_cons (ps_ret (pe_and (pv 1) (pe_one (pe_callB (allK (K := K) rfl rfl) (by rfl) T.b_all (by decide +kernel) (pa_cons (pe_lc (own := [("column", 2)]) rfl sc_are_columns.nd (pi_list (pv 0)) (blkOk_by (N := N_are_columns) (sc := defScope s_are_columns) (by decide +kernel)) (fun _ _ _ _ _ => (pg_name (i := 2) sc_are_columns.nd rfl (by first | exact Or.inl rfl | exact Or.inr rfl))) (fun _ _ _ _ _ => pts_nil) (fun _ _ _ _ _ => (pe_call (ok_is_name T) (hr.mono (by decide)) rfl T.g_is_name T.F_is_name.kp T.n_is_name .nil pass0 (pa_cons (pv 2) pa_nil)))) pa_nil))))) pss_nil)), ?_⟩
    refine nx_go (frm_start (N := N_are_columns) (n := 2) z sm hw (by rw [WLen.len hw]; rfl)) ?_
    show Nx _ _ [.imm (rOb (cLst rStr)) columns0, .no, .no]
    unfold m_are_columns at h
    obtain ⟨c3, hc3, h⟩ := letO_some h
    obtain ⟨b2, hb2, h⟩ := bindO_some h
    obtain ⟨distinct4, hdistinct4, h⟩ := letO_some h
    refine (sq_asg (ev_to (ev_and (ev_to (ev_gt (ev_lenL (ev_var rfl)) ev_int) hc3.symm) (fun hc => by have hx := iteO_t hc hb2; obtain ⟨n1, hn1, hx⟩ := bindO_some hx; exact ev_to (ev_eqS scInt (ev_lenStL (ev_var rfl) hn1) (ev_lenL (ev_var rfl)) rfl) (Option.some.inj hx)) (fun hc => ⟨(Option.some.inj (iteO_f hc hb2)).symm, rfl⟩)) hdistinct4.symm) ?_)
    show Nx _ _ [.imm (rOb (cLst rStr)) columns0, .imm rBool distinct4, .no]
    obtain ⟨c9, hc9, h⟩ := letO_some h
    obtain ⟨b8, hb8, h⟩ := bindO_some h
    exact (sq_ret (ev_and (ev_to (ev_var rfl) hc9.symm) (fun hc => by have hx := iteO_t hc hb8; obtain ⟨l7, hl7, hx⟩ := bindO_some hx; exact ev_to (ev_allL (ev_new (ec_lc (m_are_columns_c1) (it_list (ev_var rfl)) hl7 tg_name (fun k hk => hk) (by rfl) (fun _ => by rfl) (fun column5 o ho => by unfold m_are_columns_c1 at ho; obtain ⟨v6, hv6, ho⟩ := bindO_some ho; cases ho; exact ⟨et_yes, fun y hy => by cases hy; exact (ev_call (ew_1 (ev_var rfl)) hv6)⟩)))) (Option.some.inj hx)) (fun hc => ⟨(Option.some.inj (iteO_f hc hb8)).symm, rfl⟩)) h kr)
theorem ok_is_key (T : Txt K mg a) : FnOk P w K mg base CX0 1 a.f_is_key a.d_is_key ["key", "columns"] (SpP (wC (rOb (cLst rStr)) (w1 (rOb (cLst rStr)))) rBool (fun x => m_is_key x.1 x.2)) := by
  refine T.F_is_key.ok sc_is_key (fun vs H Q E h => ?_) (fun cdv A outer s H vs Q E hr h => ?_)
  · obtain ⟨B, x, b, z, sm, hw, h, kr⟩ := h
    rw [WLen.len hw]; rfl
  · obtain ⟨B, ⟨key0, columns0⟩, b, z, sm, hw, h, kr⟩ := h
    have h : m_is_key key0 columns0 = some b := h
    refine ⟨_, (pss_cons (ps_set (i := 2) sc_is_key.nd rfl (by first | exact Or.inl rfl | exact Or.inr rfl) (pe_and (pe_cmpR op_gt (pe_callB (len_seqK (K := K) rfl) (by rfl) T.b_len (by decide +kernel) (pa_cons (pv 0) pa_nil)) pe_int (nomark _)) (pe_one (pe_cmpR op_eq (lenStK (K := K) rfl rfl (by rfl) T.b_len (by rfl) T.b_set (pv 0)) (pe_callB (len_seqK (K := K) rfl) (by rfl) T.b_len (by decide +kernel) (pa_cons (pv 0) pa_nil)) (nomark _))))) (pss_cons (ps_ret (pe_and (pv 2) (pe_one (pe_callB (allK (K := K) rfl rfl) (by rfl) T.b_all (by decide +kernel) (pa_cons (pe_lc (own := [("column", 3)]) rfl sc_is_key.nd (pi_list (pv 0)) (blkOk_by (N := N_is_key) (sc := defScope s_is_key) (by decide +kernel)) (fun _ _ _ _ _ => (pg_name (i := 3) sc_is_key.nd rfl (by first | exact Or.inl rfl | exact Or.inr rfl))) (fun _ _ _ _ _ => pts_nil) (fun _ _ _ _ _ => (pe_cmpR (in_seqK (K := K) rfl) (pv 3) (pv 1) rfl))) pa_nil))))) pss_nil)), ?_⟩
    refine nx_go (frm_start (N := N_is_key) (n := 2) z sm hw (by rw [WLen.len hw]; rfl)) ?_
    show Nx _ _ [.imm (rOb (cLst rStr)) key0, .imm (rOb (cLst rStr)) columns0, .no, .no]
    unfold m_is_key at h
    obtain ⟨c3, hc3, h⟩ := letO_some h
    obtain ⟨b2, hb2, h⟩ := bindO_some h
    obtain ⟨distinct4, hdistinct4, h⟩ := letO_some h
    refine (sq_asg (ev_to (ev_and (ev_to (ev_gt (ev_lenL (ev_var rfl)) ev_int) hc3.symm) (fun hc => by have hx := iteO_t hc hb2; obtain ⟨n1, hn1, hx⟩ := bindO_some hx; exact ev_to (ev_eqS scInt (ev_lenStL (ev_var rfl) hn1) (ev_lenL (ev_var rfl)) rfl) (Option.some.inj hx)) (fun hc => ⟨(Option.some.inj (iteO_f hc hb2)).symm, rfl⟩)) hdistinct4.symm) ?_)
    show Nx _ _ [.imm (rOb (cLst rStr)) key0, .imm (rOb (cLst rStr)) columns0, .imm rBool distinct4, .no]
    obtain ⟨c8, hc8, h⟩ := letO_some h
    obtain ⟨b7, hb7, h⟩ := bindO_some h
    exact (sq_ret (ev_and (ev_to (ev_var rfl) hc8.symm) (fun hc => by have hx := iteO_t hc hb7; obtain ⟨l6, hl6, hx⟩ := bindO_some hx; exact ev_to (ev_allL (ev_new (ec_lc (m_is_key_c1 columns0) (it_list (ev_var rfl)) hl6 tg_name (fun k hk => hk) (by rfl) (fun _ => by rfl) (fun column5 o ho => by unfold m_is_key_c1 at ho; cases ho; exact ⟨et_yes, fun y hy => by cases hy; exact (ev_inL fl_str (ev_var rfl) (ev_var rfl))⟩)))) (Option.some.inj hx)) (fun hc => ⟨(Option.some.inj (iteO_f hc hb7)).symm, rfl⟩)) h kr)
theorem ok_Table___init (T : Txt K mg a) : FnOk P w K mg base (L2.CX P w) 3 a.f_Table___init a.d_Table___init ["self", "name", "columns", "key"] (SpI (erC a.C_InvalidTable [("name" : Str)] (w1 rStr)) a.C_Table (wC rStr (wC (rOb (cLst rStr)) (w1 (rOb (cLst rStr))))) (cIns a.C_Table [("name" : Str), ("columns" : Str), ("key" : Str), ("_key_places" : Str)] (wC rStr (wC (rOb (cTpl rStr)) (wC (rOb (cTpl rStr)) (w1 (rOb (cTpl rInt))))))) (fun x => m_Table___init x.1 x.2.1 x.2.2)) := by
  refine T.F_Table___init.okX sc_Table___init (fun vs H Q E h => ?_) (fun cdv A outer s H vs Q E hr h => ?_)
  · obtain ⟨p, dx, vs', B, x, b, rfl, hp, hB, z, sm, hw, h, kr, ke⟩ := h
    show vs'.length + 1 = _; rw [WLen.len hw]; rfl
  · obtain ⟨p, dx, vs', B, ⟨name0, columns0, key0⟩, b, rfl, hp, hB, z, sm, hw, h, kr, ke⟩ := h
    have h : m_Table___init name0 columns0 key0 = some b := h
    refine ⟨_, (pss_cons (ps_if (pt_not (PW.pt (pw_and (pt_val (pe_call (ok_is_name T) (hr.mono (by decide)) rfl T.g_is_name T.F_is_name.kp T.n_is_name .nil pass0 (pa_cons (pv 1) pa_nil))) (pw_and (pt_val (pe_call (ok_are_columns T) (hr.mono (by decide)) rfl T.g_are_columns T.F_are_columns.kp T.n_are_columns .nil pass0 (pa_cons (pv 2) pa_nil))) (pw_and1 (pt_val (pe_call (ok_is_key T) (hr.mono (by decide)) rfl T.g_is_key T.F_is_key.kp T.n_is_key .nil pass0 (pa_cons (pv 3) (pa_cons (pv 2) pa_nil))))))))) (pss_cons (ps_raise rfl (takes_of rfl rfl rfl rfl) (pmk_oex T.x_InvalidTable T.i_InvalidTable T.t_InvalidTable (ok_e_InvalidTable T) (hr.mono (by decide)) T.n_e_InvalidTable .nil pass0 rfl T.g_InvalidTable (pa_cons (pv 1) pa_nil))) pss_nil) pss_nil) (pss_cons (ps_fld (pv 0) (pv 1) rfl) (pss_cons (ps_fld (pv 0) (pe_callTy (tuple_ofK (K := K) rfl) (by rfl) T.b_tuple (by decide +kernel) (pa_cons (pv 2) pa_nil)) rfl) (pss_cons (ps_fld (pv 0) (pe_callTy (tuple_ofK (K := K) rfl) (by rfl) T.b_tuple (by decide +kernel) (pa_cons (pe_lc (own := [("column", 4)]) rfl sc_Table___init.nd (pi_list (pv 2)) (blkOk_by (N := N_Table___init) (sc := defScope s_Table___init) (by decide +kernel)) (fun _ _ _ _ _ => (pg_name (i := 4) sc_Table___init.nd rfl (by first | exact Or.inl rfl | exact Or.inr rfl))) (fun _ _ _ _ _ => (pts_one (pt_cmpR (in_seqK (K := K) rfl) (pv 4) (pv 3) rfl))) (fun _ _ _ _ _ => (pv 4))) pa_nil)) rfl) (pss_cons (ps_fld (pv 0) (pe_callTy (tuple_ofK (K := K) rfl) (by rfl) T.b_tuple (by decide +kernel) (pa_cons (pe_lc (own := [("at", 5), ("column", 4)]) rfl sc_Table___init.nd (pi_enum rfl T.b_enumerate (pa_cons (pv 2) pa_nil)) (blkOk_by (N := N_Table___init) (sc := defScope s_Table___init) (by decide +kernel)) (fun _ _ _ _ _ => (pg_tupK (K := K) rfl 2 rfl (pgs_cons (pg_name (i := 5) sc_Table___init.nd rfl (by first | exact Or.inl rfl | exact Or.inr rfl)) (pgs_cons (pg_name (i := 4) sc_Table___init.nd rfl (by first | exact Or.inl rfl | exact Or.inr rfl)) pgs_nil)))) (fun _ _ _ _ _ => (pts_one (pt_cmpR (in_seqK (K := K) rfl) (pv 4) (pv 3) rfl))) (fun _ _ _ _ _ => (pv 5))) pa_nil)) rfl) pss_nil))))), ?_⟩
    refine nx_go (frm_startS (cc := cIns a.C_Table [] w0) (st := ()) (o := .ins a.C_Table dx []) (N := N_Table___init) (n := 2) z sm hB hp ⟨dx, [], rfl, rfl, rfl⟩ hw (by rw [WLen.len hw]; rfl)) ?_
    show Nx _ _ [.cel p (cIns a.C_Table [] w0) (), .imm rStr name0, .imm (rOb (cLst rStr)) columns0, .imm (rOb (cLst rStr)) key0, .no, .no]
    unfold m_Table___init at h
    obtain ⟨v1, hv1, h⟩ := bindO_some h
    obtain ⟨c7, hc7, h⟩ := letO_some h
    obtain ⟨b6, hb6, h⟩ := bindO_some h
    obtain ⟨c8, hc8, h⟩ := letO_some h
    refine (sq_if (et_to (et_not (et_and (et_to (et_B (ev_call (ew_1 (ev_var rfl)) hv1)) hc7.symm) (fun hc => by have hx := iteO_t hc hb6; obtain ⟨v2, hv2, hx⟩ := bindO_some hx; obtain ⟨c5, hc5, hx⟩ := letO_some hx; obtain ⟨b4, hb4, hx⟩ := bindO_some hx; exact et_to (et_and (et_to (et_B (ev_call (ew_1 (ev_var rfl)) hv2)) hc5.symm) (fun hc => by have hx := iteO_t hc hb4; obtain ⟨v3, hv3, hx⟩ := bindO_some hx; exact et_to (et_B (ev_call (ew_C (ev_var rfl) (ew_1 (ev_var rfl))) hv3)) (Option.some.inj hx)) (fun hc => ⟨(Option.some.inj (iteO_f hc hb4)).symm, rfl⟩)) (Option.some.inj hx)) (fun hc => ⟨(Option.some.inj (iteO_f hc hb6)).symm, rfl⟩))) hc8.symm) (fun hc => ?_) (fun hc => ?_))
    · have h := iteO_t hc h
      obtain rfl := Option.some.inj h
      exact (sq_raise1 (ev_var rfl) (ke _ rfl) (fun _ _ _ q => q) (fun _ _ _ _ q => q))
    · have h := iteO_f hc h
      refine nx_next ?_
      try dsimp only
      obtain ⟨name9, hname9, h⟩ := letO_some h
      refine (sq_fld (i := 0) (ev_to (ev_var rfl) hname9.symm) rfl snoc0 (by decide +kernel) (by decide) T.cl_Table T.na_Table_name ?_)
      show Nx _ _ [.cel p (cIns a.C_Table [("name" : Str)] (w1 rStr)) name9, .imm rStr name0, .imm (rOb (cLst rStr)) columns0, .imm (rOb (cLst rStr)) key0, .no, .no]
      obtain ⟨columns10, hcolumns10, h⟩ := letO_some h
      refine (sq_fld (i := 0) (ev_to (ev_new (ec_tupL (ev_var rfl))) hcolumns10.symm) rfl snoc1 (by decide +kernel) (by decide) T.cl_Table T.na_Table_columns ?_)
      show Nx _ _ [.cel p (cIns a.C_Table [("name" : Str), ("columns" : Str)] (wC rStr (w1 (rOb (cTpl rStr))))) (name9, columns10), .imm rStr name0, .imm (rOb (cLst rStr)) columns0, .imm (rOb (cLst rStr)) key0, .no, .no]
      obtain ⟨l13, hl13, h⟩ := bindO_some h
      obtain ⟨key14, hkey14, h⟩ := letO_some h
      refine (sq_fld (i := 0) (ev_to (ev_new (ec_tupL (ev_new (ec_lc (m_Table___init_c1 key0) (it_list (ev_var rfl)) hl13 tg_name (fun k hk => hk) (by rfl) (fun _ => by rfl) (fun column11 o ho => by unfold m_Table___init_c1 at ho; obtain ⟨c12, hc12, ho⟩ := letO_some ho; cases c12 with | true => (have ho : (some (some column11)) = some o := ho; cases ho; exact ⟨et_to (et_T (ev_inL fl_str (ev_var rfl) (ev_var rfl))) hc12.symm, fun y hy => by cases hy; exact (ev_var rfl)⟩) | false => (have ho : some none = some o := ho; cases ho; exact ⟨et_to (et_T (ev_inL fl_str (ev_var rfl) (ev_var rfl))) hc12.symm, fun y hy => by cases hy⟩)))))) hkey14.symm) rfl (snocC snoc1) (by decide +kernel) (by decide) T.cl_Table T.na_Table_key ?_)
      show Nx _ _ [.cel p (cIns a.C_Table [("name" : Str), ("columns" : Str), ("key" : Str)] (wC rStr (wC (rOb (cTpl rStr)) (w1 (rOb (cTpl rStr)))))) (name9, columns10, key14), .imm rStr name0, .imm (rOb (cLst rStr)) columns0, .imm (rOb (cLst rStr)) key0, .no, .no]
      obtain ⟨l17, hl17, h⟩ := bindO_some h
      obtain ⟨key_places18, hkey_places18, h⟩ := letO_some h
      refine (sq_fld (i := 0) (ev_to (ev_new (ec_tupL (ev_new (ec_lc (m_Table___init_c2 key0) (it_enum (ev_var rfl)) hl17 (tg_tup (tw_C tg_name (fun _ => (tw_1 tg_name)))) (fun k hk => hk) (by rfl) (fun _ => by rfl) (fun at15 o ho => by unfold m_Table___init_c2 at ho; obtain ⟨c16, hc16, ho⟩ := letO_some ho; cases c16 with | true => (have ho : (some (some at15.1)) = some o := ho; cases ho; exact ⟨et_to (et_T (ev_inL fl_str (ev_var rfl) (ev_var rfl))) hc16.symm, fun y hy => by cases hy; exact (ev_var rfl)⟩) | false => (have ho : some none = some o := ho; cases ho; exact ⟨et_to (et_T (ev_inL fl_str (ev_var rfl) (ev_var rfl))) hc16.symm, fun y hy => by cases hy⟩)))))) hkey_places18.symm) rfl (snocC (snocC snoc1)) (by decide +kernel) (by decide) T.cl_Table T.na_Table__key_places ?_)
      show Nx _ _ [.cel p (cIns a.C_Table [("name" : Str), ("columns" : Str), ("key" : Str), ("_key_places" : Str)] (wC rStr (wC (rOb (cTpl rStr)) (wC (rOb (cTpl rStr)) (w1 (rOb (cTpl rInt))))))) (name9, columns10, key14, key_places18), .imm rStr name0, .imm (rOb (cLst rStr)) columns0, .imm (rOb (cLst rStr)) key0, .no, .no]
      obtain rfl := Option.some.inj h
      exact nx_next (fun σ H B F => kr _ rfl _ _ F.post (cel_at (i := 0) F rfl).2)
theorem ok_l_made (T : Txt K mg a) : FnOk P w K mg base CX0 5 a.f_l_made a.d_l_made ["_law_name", "_law_columns", "_law_key"] (SpP (wC rStr (wC (rOb (cLst rStr)) (w1 (rOb (cLst rStr))))) (rDyn K) (fun x => m_l_made x.1 x.2.1 x.2.2)) := by
  refine T.F_l_made.ok sc_l_made (fun vs H Q E h => ?_) (fun cdv A outer s H vs Q E hr h => ?_)
  · obtain ⟨B, x, b, z, sm, hw, h, kr⟩ := h
    rw [WLen.len hw]; rfl
  · obtain ⟨B, ⟨name0, columns0, key0⟩, b, z, sm, hw, h, kr⟩ := h
    have h : m_l_made name0 columns0 key0 = some b := h
    refine ⟨_, (pss_cons (ps_set (i := 3) sc_l_made.nd rfl (by first | exact Or.inl rfl | exact Or.inr rfl) pe_non) (pss_cons (ps_tryG (i := 5) rfl rfl sc_l_made.nd rfl rfl ⟨rfl, by decide, Or.inl T.g_InvalidTable⟩ takes0) (pss_cons (ps_if (pt_cmp (pc_notN (pv 3))) (pss_cons (ps_ret (pv 3)) pss_nil) pss_nil) (pss_cons (ps_ret (pe_tup (pa_cons pe_str (pa_cons (fldK (K := K) rfl (pv 4) rfl) (pa_cons (fldK (K := K) rfl (pv 4) rfl) (pa_cons (fldK (K := K) rfl (pv 4) rfl) pa_nil)))))) pss_nil)))), ?_⟩
    refine nx_go (frm_start (N := N_l_made) (n := 3) z sm hw (by rw [WLen.len hw]; rfl)) ?_
    show Nx _ _ [.imm rStr name0, .imm (rOb (cLst rStr)) columns0, .imm (rOb (cLst rStr)) key0, .no, .no, .no]
    unfold m_l_made at h
    obtain ⟨caught1, hcaught1, h⟩ := letO_some h
    refine (sq_asg (ev_to (ev_none (r := (rOb (cTup (wC rStr (w1 rStr)))))) hcaught1.symm) ?_)
    show Nx _ _ [.imm rStr name0, .imm (rOb (cLst rStr)) columns0, .imm (rOb (cLst rStr)) key0, .imm (rOpt (rOb (cTup (wC rStr (w1 rStr))))) caught1, .no, .no]
    refine sq_try (fun pn xe tk po => (pss_cons (ps_set (i := 4) sc_l_made.nd rfl (by first | exact Or.inl rfl | exact Or.inr rfl) (pe_makeS T.M_Table (ok_Table___init T) (hr.mono (by decide)) rfl T.g_Table T.n_Table___init (fun σ => passAt tk σ) (pa_cons (pv 0) (pa_cons (pv 1) (pa_cons (pv 2) pa_nil))))) pss_nil)) ?_
    show Nx _ _ [.imm rStr name0, .imm (rOb (cLst rStr)) columns0, .imm (rOb (cLst rStr)) key0, .imm (rOpt (rOb (cTup (wC rStr (w1 rStr))))) caught1, .no, .no]
    obtain ⟨r2, hr2, h⟩ := bindO_some h
    refine (sq_asgMk erC_mono (ew_C (ev_var rfl) (ew_C (ev_var rfl) (ew_1 (ev_var rfl)))) hr2 h (fun table3 h => ?_) (fun e4 h => ?_))
    · show Nx _ _ [.imm rStr name0, .imm (rOb (cLst rStr)) columns0, .imm (rOb (cLst rStr)) key0, .imm (rOpt (rOb (cTup (wC rStr (w1 rStr))))) caught1, .imm (rIns a.C_Table [("name" : Str), ("columns" : Str), ("key" : Str), ("_key_places" : Str)] (wC rStr (wC (rOb (cTpl rStr)) (wC (rOb (cTpl rStr)) (w1 (rOb (cTpl rInt))))))) table3, .no]
      refine nx_next ?_
      show Nx _ _ [.imm rStr name0, .imm (rOb (cLst rStr)) columns0, .imm (rOb (cLst rStr)) key0, .imm (rOpt (rOb (cTup (wC rStr (w1 rStr))))) caught1, .imm (rIns a.C_Table [("name" : Str), ("columns" : Str), ("key" : Str), ("_key_places" : Str)] (wC rStr (wC (rOb (cTpl rStr)) (wC (rOb (cTpl rStr)) (w1 (rOb (cTpl rInt))))))) table3, .no]
      obtain ⟨c5, hc5, h⟩ := letO_some h
      refine (sq_if (et_to (et_B (ev_notN (ev_var rfl))) hc5.symm) (fun hc => ?_) (fun hc => ?_))
      · have h := iteO_t hc h
        exact (sq_ret (ev_dyn (da_opt (da_tup (daw_C da_str (daw_1 da_str)))) (ev_var rfl)) h kr)
      · have h := iteO_f hc h
        refine nx_next ?_
        try dsimp only
        exact (sq_ret (ev_dyn (da_tup (daw_C da_str (daw_C da_str (daw_C (da_tpl da_str) (daw_1 (da_tpl da_str)))))) (ev_new (ec_tup (ew_C ev_str (ew_C (ev_fld (ev_var rfl) (acc0) rfl (by decide +kernel) T.cl_Table T.na_Table_name) (ew_C (ev_fld (ev_var rfl) (accS (acc0)) rfl (by decide +kernel) T.cl_Table T.na_Table_columns) (ew_1 (ev_fld (ev_var rfl) (accS (accS (acc0))) rfl (by decide +kernel) T.cl_Table T.na_Table_key)))))))) h kr)
    · refine nxe_as T.e_InvalidTable_InvalidTable (fun p6 d7 => ⟨_, fun oe pn hz hf => (pss_cons (ps_set (i := 3) sc_l_made.nd rfl (by first | exact Or.inl rfl | exact Or.inr rfl) (pe_tup (pa_cons pe_str (pa_cons (pe_xf T.xf_InvalidTable T.na_InvalidTable_name hz hf (pv 5)) pa_nil)))) pss_nil), ?_⟩)
      show Nx _ _ [.imm rStr name0, .imm (rOb (cLst rStr)) columns0, .imm (rOb (cLst rStr)) key0, .imm (rOpt (rOb (cTup (wC rStr (w1 rStr))))) caught1, .no, .imm (rExc p6 d7 a.C_InvalidTable [("name" : Str)] (w1 rStr)) e4]
      obtain ⟨caught8, hcaught8, h⟩ := letO_some h
      refine (sq_asg (ev_to (ev_some nn_ob (ev_new (ec_tup (ew_C ev_str (ew_1 (ev_xf (ev_var rfl) (acc1) rfl)))))) hcaught8.symm) ?_)
      show Nx _ _ [.imm rStr name0, .imm (rOb (cLst rStr)) columns0, .imm (rOb (cLst rStr)) key0, .imm (rOpt (rOb (cTup (wC rStr (w1 rStr))))) caught8, .no, .imm (rExc p6 d7 a.C_InvalidTable [("name" : Str)] (w1 rStr)) e4]
      refine nx_next ?_
      refine nx_unsetE ?_
      show Nx _ _ [.imm rStr name0, .imm (rOb (cLst rStr)) columns0, .imm (rOb (cLst rStr)) key0, .imm (rOpt (rOb (cTup (wC rStr (w1 rStr))))) caught8, .no, .no]
      obtain ⟨c9, hc9, h⟩ := letO_some h
      refine (sq_if (et_to (et_B (ev_notN (ev_var rfl))) hc9.symm) (fun hc => ?_) (fun hc => ?_))
      · have h := iteO_t hc h
        exact (sq_ret (ev_dyn (da_opt (da_tup (daw_C da_str (daw_1 da_str)))) (ev_var rfl)) h kr)
      · have h := iteO_f hc h
        refine nx_next ?_
        try dsimp only
        cases h
theorem ok_law (T : Txt K mg a) : FnOk P w K mg base CX0 6 a.f_law a.d_law ["_law_script"] (SpL (w1 (rScr K)) rBool (fun x => m_law x)) := by
  refine T.F_law.ok sc_law (fun vs H Q E h => ?_) (fun cdv A outer s H vs Q E hr h => ?_)
  · obtain ⟨B, x, b, sm, hw, h, kr⟩ := h
    rw [WLen.len hw]; rfl
  · obtain ⟨B, script0, b, sm, hw, h, kr⟩ := h
    have h : m_law script0 = some b := h
    refine ⟨_, pss_sz (pss_cons (ps_set (i := 1) sc_law.nd rfl (by first | exact Or.inl rfl | exact Or.inr rfl) (pe_call (ok_l_start T) (hr.mono (by decide)) rfl T.g_l_start T.F_l_start.kp T.n_l_start .nil pass0 (pa_cons (pv 0) pa_nil))) (pss_cons (ps_for PassesOwn.never rfl (pi_range1 rfl T.b_range (pa_cons pe_int pa_nil)) (pg_name (i := 2) sc_law.nd rfl (by first | exact Or.inl rfl | exact Or.inr rfl)) (pss_cons (ps_set (i := 3) sc_law.nd rfl (by first | exact Or.inl rfl | exact Or.inr rfl) (pe_call (ok_l_text T) (hr.mono (by decide)) rfl T.g_l_text T.F_l_text.kp T.n_l_text .nil pass0 (pa_cons (pv 1) pa_nil))) (pss_cons (ps_set (i := 4) sc_law.nd rfl (by first | exact Or.inl rfl | exact Or.inr rfl) (pe_call (ok_l_due T) (hr.mono (by decide)) rfl T.g_l_due T.F_l_due.kp T.n_l_due .nil pass0 (pa_cons (pv 3) pa_nil))) (pss_cons (ps_set (i := 5) sc_law.nd rfl (by first | exact Or.inl rfl | exact Or.inr rfl) (pe_call (ok_is_name T) (hr.mono (by decide)) rfl T.g_is_name T.F_is_name.kp T.n_is_name .nil pass0 (pa_cons (pv 3) pa_nil))) (pss_cons (ps_if (PW.pt (pw_or (pt_not (pt_val (pe_callB (isiK (K := K) rfl) (by rfl) T.b_isinstance (by decide +kernel) (pa_cons (pv 5) (pa_cons (pe_bltn (v := .ty "bool") (by rfl) T.b_bool boot_bool rfl) pa_nil))))) (pw_or1 (pt_cmpR op_ne (pv 5) (pv 4) (nomark _))))) (pss_cons (ps_ret pe_bl) pss_nil) pss_nil) (pss_cons (ps_set (i := 6) sc_law.nd rfl (by first | exact Or.inl rfl | exact Or.inr rfl) (pe_call (ok_l_made T) (hr.mono (by decide)) rfl T.g_l_made T.F_l_made.kp T.n_l_made .nil pass0 (pa_cons (pv 3) (pa_cons (pe_lst (pa_cons pe_str (pa_cons pe_str pa_nil))) (pa_cons (pe_lst (pa_cons pe_str pa_nil)) pa_nil))))) (pss_cons (ps_set (i := 7) sc_law.nd rfl (by first | exact Or.inl rfl | exact Or.inr rfl) (pe_call (ok_l_made T) (hr.mono (by decide)) rfl T.g_l_made T.F_l_made.kp T.n_l_made .nil pass0 (pa_cons pe_str (pa_cons (pe_lst (pa_cons pe_str (pa_cons (pv 3) (pa_cons pe_str pa_nil)))) (pa_cons (pe_lst (pa_cons pe_str pa_nil)) pa_nil))))) (pss_cons (ps_if (PW.pt (pw_and (pt_val (pv 4)) (pw_and1 (pt_cmpR (neDK (K := K) rfl hr.units) (pv 6) (pe_tup (pa_cons pe_str (pa_cons (pv 3) (pa_cons (pe_tup (pa_cons pe_str (pa_cons pe_str pa_nil))) (pa_cons (pe_tup (pa_cons pe_str pa_nil)) pa_nil))))) (nomark _))))) (pss_cons (ps_ret pe_bl) pss_nil) pss_nil) (pss_cons (ps_if (PW.pt (pw_and (pt_val (pv 4)) (pw_and (pt_cmpR (notIn_seqK (K := K) rfl) (pv 3) (pe_tup (pa_cons pe_str (pa_cons pe_str pa_nil))) rfl) (pw_and1 (pt_cmpR (neDK (K := K) rfl hr.units) (pv 7) (pe_tup (pa_cons pe_str (pa_cons pe_str (pa_cons (pe_tup (pa_cons pe_str (pa_cons (pv 3) (pa_cons pe_str pa_nil)))) (pa_cons (pe_tup (pa_cons pe_str pa_nil)) pa_nil))))) (nomark _)))))) (pss_cons (ps_ret pe_bl) pss_nil) pss_nil) (pss_cons (ps_if (PW.pt (pw_and (pt_not (pt_val (pv 4))) (pw_and1 (PW.pt (pw_or (pt_cmpR (neDK (K := K) rfl hr.units) (pv 6) (pe_tup (pa_cons pe_str (pa_cons (pv 3) pa_nil))) (nomark _)) (pw_or1 (pt_cmpR (neDK (K := K) rfl hr.units) (pv 7) (pe_tup (pa_cons pe_str (pa_cons pe_str pa_nil))) (nomark _)))))))) (pss_cons (ps_ret pe_bl) pss_nil) pss_nil) (pss_cons (ps_if (PW.pt (pw_and (pt_cmpR (in_seqK (K := K) rfl) (pv 3) (pe_tup (pa_cons pe_str (pa_cons pe_str pa_nil))) rfl) (pw_and1 (pt_cmpR (neDK (K := K) rfl hr.units) (pv 7) (pe_tup (pa_cons pe_str (pa_cons pe_str pa_nil))) (nomark _))))) (pss_cons (ps_ret pe_bl) pss_nil) pss_nil) pss_nil))))))))))) (pss_cons (ps_ret pe_bl) pss_nil))), fun z => ?_⟩
    refine nx_go (frm_start (N := N_law) (n := 7) z sm hw (by rw [WLen.len hw]; rfl)) ?_
    show Nx _ _ [.imm (rScr K) script0, .no, .no, .no, .no, .no, .no, .no]
    unfold m_law at h
    obtain ⟨v1, hv1, h⟩ := bindO_some h
    obtain ⟨state2, hstate2, h⟩ := letO_some h
    refine (sq_asgC (ec_to (ec_call (ew_1 (ev_var rfl)) hv1) hstate2.symm) (fun a_state2 na_state2 => ?_))
    show Nx _ _ [.imm (rScr K) script0, .cel a_state2 (cHls (wC (rOb (cLst rInt)) (wC rInt (wC rInt (w1 rInt))))) state2, .no, .no, .no, .no, .no, .no]
    obtain ⟨l3, hl3, h⟩ := bindO_some h
    obtain ⟨R38, hR38, h⟩ := bindO_some h
    refine (sq_for (ψ := psi rBool) (m_law_b1) (fun z => [.imm (rScr K) script0, .cel a_state2 (cHls (wC (rOb (cLst rInt)) (wC rInt (wC rInt (w1 rInt))))) z, .no, .no, .no, .no, .no, .no]) (it_rng1 (ew_1 ev_int) hl3) hR38 (fun A1 _ => ?_) (fun _ => tg_name) (fun A1 D1 turn5 s4 st hA1 h k1 => ?_) ?_ ?_)
    · exact nx_fin
    · show Nx _ _ [.imm (rScr K) script0, .cel a_state2 (cHls (wC (rOb (cLst rInt)) (wC rInt (wC rInt (w1 rInt))))) s4, .imm rInt turn5, .no, .no, .no, .no, .no]
      unfold m_law_b1 at h
      obtain ⟨p6, hp6, h⟩ := bindO_some h
      obtain ⟨text_here7, htext_here7, h⟩ := letO_some h
      refine (sq_asg (ev_to (ev_callS ew_0 rfl rfl hp6) htext_here7.symm) ?_)
      show Nx _ _ [.imm (rScr K) script0, .cel a_state2 (cHls (wC (rOb (cLst rInt)) (wC rInt (wC rInt (w1 rInt))))) p6.2, .imm rInt turn5, .imm rStr text_here7, .no, .no, .no, .no]
      obtain ⟨v8, hv8, h⟩ := bindO_some h
      obtain ⟨due_here9, hdue_here9, h⟩ := letO_some h
      refine (sq_asg (ev_to (ev_call (ew_1 (ev_var rfl)) hv8) hdue_here9.symm) ?_)
      show Nx _ _ [.imm (rScr K) script0, .cel a_state2 (cHls (wC (rOb (cLst rInt)) (wC rInt (wC rInt (w1 rInt))))) p6.2, .imm rInt turn5, .imm rStr text_here7, .imm rBool due_here9, .no, .no, .no]
      obtain ⟨v10, hv10, h⟩ := bindO_some h
      obtain ⟨actual11, hactual11, h⟩ := letO_some h
      refine (sq_asg (ev_to (ev_call (ew_1 (ev_var rfl)) hv10) hactual11.symm) ?_)
      show Nx _ _ [.imm (rScr K) script0, .cel a_state2 (cHls (wC (rOb (cLst rInt)) (wC rInt (wC rInt (w1 rInt))))) p6.2, .imm rInt turn5, .imm rStr text_here7, .imm rBool due_here9, .imm rBool actual11, .no, .no]
      obtain ⟨c12, hc12, h⟩ := letO_some h
      refine (sq_if (et_to (et_or0 (et_not (et_B (ev_isi (ev_var rfl) ty_bool (.ty _) (kit_ty (by decide +kernel))))) (et_T (ev_neS scBool (ev_var rfl) (ev_var rfl) rfl))) hc12.symm) (fun hc => ?_) (fun hc => ?_))
      · have h := iteO_t hc h
        exact (sq_ret ev_bl rfl (k1.rt _ (Option.some.inj h).symm))
      · have h := iteO_f hc h
        refine nx_next ?_
        try dsimp only
        obtain ⟨v13, hv13, h⟩ := bindO_some h
        obtain ⟨as_name14, has_name14, h⟩ := letO_some h
        refine (sq_asg (ev_to (ev_call (ew_C (ev_var rfl) (ew_C (ev_new (ec_lst (eh_C ev_str (eh_C ev_str eh_0)) (Nat.le_of_ble_eq_true rfl))) (ew_1 (ev_new (ec_lst (eh_C ev_str eh_0) (Nat.le_of_ble_eq_true rfl)))))) hv13) has_name14.symm) ?_)
        show Nx _ _ [.imm (rScr K) script0, .cel a_state2 (cHls (wC (rOb (cLst rInt)) (wC rInt (wC rInt (w1 rInt))))) p6.2, .imm rInt turn5, .imm rStr text_here7, .imm rBool due_here9, .imm rBool actual11, .imm (rDyn K) as_name14, .no]
        obtain ⟨v15, hv15, h⟩ := bindO_some h
        obtain ⟨as_column16, has_column16, h⟩ := letO_some h
        refine (sq_asg (ev_to (ev_call (ew_C ev_str (ew_C (ev_new (ec_lst (eh_C ev_str (eh_C (ev_var rfl) (eh_C ev_str eh_0))) (Nat.le_of_ble_eq_true rfl))) (ew_1 (ev_new (ec_lst (eh_C ev_str eh_0) (Nat.le_of_ble_eq_true rfl)))))) hv15) has_column16.symm) ?_)
        show Nx _ _ [.imm (rScr K) script0, .cel a_state2 (cHls (wC (rOb (cLst rInt)) (wC rInt (wC rInt (w1 rInt))))) p6.2, .imm rInt turn5, .imm rStr text_here7, .imm rBool due_here9, .imm rBool actual11, .imm (rDyn K) as_name14, .imm (rDyn K) as_column16]
        obtain ⟨c19, hc19, h⟩ := letO_some h
        obtain ⟨b18, hb18, h⟩ := bindO_some h
        obtain ⟨c20, hc20, h⟩ := letO_some h
        refine (sq_if (et_to (et_and (et_to (et_B (ev_var rfl)) hc19.symm) (fun hc => by have hx := iteO_t hc hb18; obtain ⟨q17, hq17, hx⟩ := bindO_some hx; exact et_to (et_T (ev_neD da_dyn (da_tup (daw_C da_str (daw_C da_str (daw_C (da_tup (daw_C da_str (daw_1 da_str))) (daw_1 (da_tup (daw_1 da_str))))))) (ev_var rfl) (ev_new (ec_tup (ew_C ev_str (ew_C (ev_var rfl) (ew_C (ev_new (ec_tup (ew_C ev_str (ew_1 ev_str)))) (ew_1 (ev_new (ec_tup (ew_1 ev_str))))))))) hq17)) (Option.some.inj hx)) (fun hc => ⟨(Option.some.inj (iteO_f hc hb18)).symm, rfl⟩)) hc20.symm) (fun hc => ?_) (fun hc => ?_))
        · have h := iteO_t hc h
          exact (sq_ret ev_bl rfl (k1.rt _ (Option.some.inj h).symm))
        · have h := iteO_f hc h
          refine nx_next ?_
          try dsimp only
          obtain ⟨c25, hc25, h⟩ := letO_some h
          obtain ⟨b24, hb24, h⟩ := bindO_some h
          obtain ⟨c26, hc26, h⟩ := letO_some h
          refine (sq_if (et_to (et_and (et_to (et_B (ev_var rfl)) hc25.symm) (fun hc => by have hx := iteO_t hc hb24; obtain ⟨c23, hc23, hx⟩ := letO_some hx; obtain ⟨b22, hb22, hx⟩ := bindO_some hx; exact et_to (et_and (et_to (et_T (ev_ninT fl_str (ev_var rfl) (ev_new (ec_tpl (eh_C ev_str (eh_C ev_str eh_0)) (Nat.le_of_ble_eq_true rfl))))) hc23.symm) (fun hc => by have hx := iteO_t hc hb22; obtain ⟨q21, hq21, hx⟩ := bindO_some hx; exact et_to (et_T (ev_neD da_dyn (da_tup (daw_C da_str (daw_C da_str (daw_C (da_tup (daw_C da_str (daw_C da_str (daw_1 da_str)))) (daw_1 (da_tup (daw_1 da_str))))))) (ev_var rfl) (ev_new (ec_tup (ew_C ev_str (ew_C ev_str (ew_C (ev_new (ec_tup (ew_C ev_str (ew_C (ev_var rfl) (ew_1 ev_str))))) (ew_1 (ev_new (ec_tup (ew_1 ev_str))))))))) hq21)) (Option.some.inj hx)) (fun hc => ⟨(Option.some.inj (iteO_f hc hb22)).symm, rfl⟩)) (Option.some.inj hx)) (fun hc => ⟨(Option.some.inj (iteO_f hc hb24)).symm, rfl⟩)) hc26.symm) (fun hc => ?_) (fun hc => ?_))
          · have h := iteO_t hc h
            exact (sq_ret ev_bl rfl (k1.rt _ (Option.some.inj h).symm))
          · have h := iteO_f hc h
            refine nx_next ?_
            try dsimp only
            obtain ⟨c32, hc32, h⟩ := letO_some h
            obtain ⟨b31, hb31, h⟩ := bindO_some h
            obtain ⟨c33, hc33, h⟩ := letO_some h
            refine (sq_if (et_to (et_and (et_to (et_not (et_B (ev_var rfl))) hc32.symm) (fun hc => by have hx := iteO_t hc hb31; obtain ⟨q27, hq27, hx⟩ := bindO_some hx; obtain ⟨c30, hc30, hx⟩ := letO_some hx; obtain ⟨b29, hb29, hx⟩ := bindO_some hx; exact et_to (et_or (et_to (et_T (ev_neD da_dyn (da_tup (daw_C da_str (daw_1 da_str))) (ev_var rfl) (ev_new (ec_tup (ew_C ev_str (ew_1 (ev_var rfl))))) hq27)) hc30.symm) (fun hc => by have hx := iteO_f hc hb29; obtain ⟨q28, hq28, hx⟩ := bindO_some hx; exact et_to (et_T (ev_neD da_dyn (da_tup (daw_C da_str (daw_1 da_str))) (ev_var rfl) (ev_new (ec_tup (ew_C ev_str (ew_1 ev_str)))) hq28)) (Option.some.inj hx)) (fun hc => ⟨(Option.some.inj (iteO_t hc hb29)).symm, rfl⟩)) (Option.some.inj hx)) (fun hc => ⟨(Option.some.inj (iteO_f hc hb31)).symm, rfl⟩)) hc33.symm) (fun hc => ?_) (fun hc => ?_))
            · have h := iteO_t hc h
              exact (sq_ret ev_bl rfl (k1.rt _ (Option.some.inj h).symm))
            · have h := iteO_f hc h
              refine nx_next ?_
              try dsimp only
              obtain ⟨c36, hc36, h⟩ := letO_some h
              obtain ⟨b35, hb35, h⟩ := bindO_some h
              obtain ⟨c37, hc37, h⟩ := letO_some h
              refine (sq_if (et_to (et_and (et_to (et_T (ev_inT fl_str (ev_var rfl) (ev_new (ec_tpl (eh_C ev_str (eh_C ev_str eh_0)) (Nat.le_of_ble_eq_true rfl))))) hc36.symm) (fun hc => by have hx := iteO_t hc hb35; obtain ⟨q34, hq34, hx⟩ := bindO_some hx; exact et_to (et_T (ev_neD da_dyn (da_tup (daw_C da_str (daw_1 da_str))) (ev_var rfl) (ev_new (ec_tup (ew_C ev_str (ew_1 ev_str)))) hq34)) (Option.some.inj hx)) (fun hc => ⟨(Option.some.inj (iteO_f hc hb35)).symm, rfl⟩)) hc37.symm) (fun hc => ?_) (fun hc => ?_))
              · have h := iteO_t hc h
                exact (sq_ret ev_bl rfl (k1.rt _ (Option.some.inj h).symm))
              · have h := iteO_f hc h
                refine nx_next ?_
                try dsimp only
                refine nx_next ?_
                refine nx_forget 2 ?_
                refine nx_forget 3 ?_
                refine nx_forget 4 ?_
                refine nx_forget 5 ?_
                refine nx_forget 6 ?_
                refine nx_forget 7 ?_
                exact k1.nx _ (Option.some.inj h).symm
    · intro b e
      subst e
      obtain rfl := stepO_ret h; exact kr
    · intro e39 e
      subst e
      have h := stepO_nx h
      show Nx _ _ [.imm (rScr K) script0, .cel a_state2 (cHls (wC (rOb (cLst rInt)) (wC rInt (wC rInt (w1 rInt))))) e39, .no, .no, .no, .no, .no, .no]
      exact (sq_ret ev_bl h kr)
end
end Law

set_option maxHeartbeats 4000000
namespace Law
open PySem PySem.Spec PyProof.Rows L2 G
theorem all_mk {P : Program} {w : World} {K : PySem.W.Frag} {h : Heap} {mg : Str → Option Value} {fa : Addr} (X : K.In h) (G : h.Ns mainGlobals mg) (hfa : mg "law" = some (.ref fa))
    {C_InvalidTable : Addr} {C_Table : Addr} {oc_l_start : Value} {kV_l_start : Value} {dc_l_start : Value} {pm_l_start : Value}
    {cd_l_start : Value} {ct_l_start : Value} {od_l_start an_l_start : Option Addr} {sl_l_start : Array (Option Value)} {f_l_start : Addr} {oc_l_draw : Value} {kV_l_draw : Value} {dc_l_draw : Value}
    {pm_l_draw : Value} {cd_l_draw : Value} {ct_l_draw : Value} {od_l_draw an_l_draw : Option Addr} {sl_l_draw : Array (Option Value)} {f_l_draw : Addr} {oc_l_text : Value} {kV_l_text : Value}
    {dc_l_text : Value} {pm_l_text : Value} {cd_l_text : Value} {ct_l_text : Value} {od_l_text an_l_text : Option Addr} {sl_l_text : Array (Option Value)} {f_l_text : Addr} {oc_l_due : Value}
    {kV_l_due : Value} {dc_l_due : Value} {pm_l_due : Value} {cd_l_due : Value} {ct_l_due : Value} {od_l_due an_l_due : Option Addr} {sl_l_due : Array (Option Value)} {f_l_due : Addr}
    {oc_is_name : Value} {kV_is_name : Value} {dc_is_name : Value} {pm_is_name : Value} {cd_is_name : Value} {ct_is_name : Value}
    {od_is_name an_is_name : Option Addr} {sl_is_name : Array (Option Value)} {f_is_name : Addr} {oc_are_columns : Value} {kV_are_columns : Value} {dc_are_columns : Value} {pm_are_columns : Value} {cd_are_columns : Value}
    {ct_are_columns : Value} {od_are_columns an_are_columns : Option Addr} {sl_are_columns : Array (Option Value)} {f_are_columns : Addr} {oc_is_key : Value} {kV_is_key : Value} {dc_is_key : Value} {pm_is_key : Value}
    {cd_is_key : Value} {ct_is_key : Value} {od_is_key an_is_key : Option Addr} {sl_is_key : Array (Option Value)} {f_is_key : Addr} {oc_Table___init : Value} {kV_Table___init : Value} {dc_Table___init : Value}
    {pm_Table___init : Value} {cd_Table___init : Value} {ct_Table___init : Value} {od_Table___init an_Table___init : Option Addr} {sl_Table___init : Array (Option Value)} {f_Table___init : Addr} {oc_l_made : Value} {kV_l_made : Value}
    {dc_l_made : Value} {pm_l_made : Value} {cd_l_made : Value} {ct_l_made : Value} {od_l_made an_l_made : Option Addr} {sl_l_made : Array (Option Value)} {f_l_made : Addr} {oc_law : Value}
    {kV_law : Value} {dc_law : Value} {pm_law : Value} {cd_law : Value} {ct_law : Value} {od_law an_law : Option Addr} {sl_law : Array (Option Value)} {f_law : Addr}
    {tk_FIRST : Tok} {tk_FURTHER : Tok} {tk_LONGEST : Tok} {nm_InvalidTable q_InvalidTable : Str} {N_InvalidTable : Addr} {bs_InvalidTable bm_InvalidTable sub_InvalidTable : List Value} {sn_InvalidTable : List Str} {ab_InvalidTable : Bool} {col_InvalidTable : Option Bool} {dd_InvalidTable : Option Addr} {m0_InvalidTable m1_InvalidTable m2_InvalidTable m3_InvalidTable m5_InvalidTable : Option Value} {oc_e_InvalidTable : Value} {kV_e_InvalidTable : Value}
    {dc_e_InvalidTable : Value} {pm_e_InvalidTable : Value} {cd_e_InvalidTable : Value} {ct_e_InvalidTable : Value} {od_e_InvalidTable an_e_InvalidTable : Option Addr} {sl_e_InvalidTable : Array (Option Value)} {f_e_InvalidTable : Addr}
    (aC_InvalidTable : PySem.W.nsIn K mainGlobals "InvalidTable" = some (some (.ref C_InvalidTable)))
    (aC_Table : PySem.W.nsIn K mainGlobals "Table" = some (some (.ref C_Table)))
    (a_l_start : PySem.W.nsIn K mainGlobals "_law_start" = some (some (.ref f_l_start)))
    (l_l_start : K.lookup f_l_start = some ⟨oc_l_start, od_l_start, .func (PySem.W.fnOf "_law_start" "_law_start" (defArgs s_l_start) (defBody s_l_start) (defScope s_l_start) .none kV_l_start dc_l_start pm_l_start an_l_start cd_l_start ct_l_start), sl_l_start⟩)
    (c_l_start : PySem.W.codeIn K cd_l_start "_law_start" = true)
    (k_l_start : PySem.W.keepIn K (.ref f_l_start) = true)
    (a_l_draw : PySem.W.nsIn K mainGlobals "_law_draw" = some (some (.ref f_l_draw)))
    (l_l_draw : K.lookup f_l_draw = some ⟨oc_l_draw, od_l_draw, .func (PySem.W.fnOf "_law_draw" "_law_draw" (defArgs s_l_draw) (defBody s_l_draw) (defScope s_l_draw) .none kV_l_draw dc_l_draw pm_l_draw an_l_draw cd_l_draw ct_l_draw), sl_l_draw⟩)
    (c_l_draw : PySem.W.codeIn K cd_l_draw "_law_draw" = true)
    (k_l_draw : PySem.W.keepIn K (.ref f_l_draw) = true)
    (a_l_text : PySem.W.nsIn K mainGlobals "_law_text" = some (some (.ref f_l_text)))
    (l_l_text : K.lookup f_l_text = some ⟨oc_l_text, od_l_text, .func (PySem.W.fnOf "_law_text" "_law_text" (defArgs s_l_text) (defBody s_l_text) (defScope s_l_text) .none kV_l_text dc_l_text pm_l_text an_l_text cd_l_text ct_l_text), sl_l_text⟩)
    (c_l_text : PySem.W.codeIn K cd_l_text "_law_text" = true)
    (k_l_text : PySem.W.keepIn K (.ref f_l_text) = true)
    (a_l_due : PySem.W.nsIn K mainGlobals "_law_due" = some (some (.ref f_l_due)))
    (l_l_due : K.lookup f_l_due = some ⟨oc_l_due, od_l_due, .func (PySem.W.fnOf "_law_due" "_law_due" (defArgs s_l_due) (defBody s_l_due) (defScope s_l_due) .none kV_l_due dc_l_due pm_l_due an_l_due cd_l_due ct_l_due), sl_l_due⟩)
    (c_l_due : PySem.W.codeIn K cd_l_due "_law_due" = true)
    (k_l_due : PySem.W.keepIn K (.ref f_l_due) = true)
    (a_is_name : PySem.W.nsIn K mainGlobals "is_name" = some (some (.ref f_is_name)))
    (l_is_name : K.lookup f_is_name = some ⟨oc_is_name, od_is_name, .func (PySem.W.fnOf "is_name" "is_name" (defArgs s_is_name) (defBody s_is_name) (defScope s_is_name) .none kV_is_name dc_is_name pm_is_name an_is_name cd_is_name ct_is_name), sl_is_name⟩)
    (c_is_name : PySem.W.codeIn K cd_is_name "is_name" = true)
    (k_is_name : PySem.W.keepIn K (.ref f_is_name) = true)
    (a_are_columns : PySem.W.nsIn K mainGlobals "are_columns" = some (some (.ref f_are_columns)))
    (l_are_columns : K.lookup f_are_columns = some ⟨oc_are_columns, od_are_columns, .func (PySem.W.fnOf "are_columns" "are_columns" (defArgs s_are_columns) (defBody s_are_columns) (defScope s_are_columns) .none kV_are_columns dc_are_columns pm_are_columns an_are_columns cd_are_columns ct_are_columns), sl_are_columns⟩)
    (c_are_columns : PySem.W.codeIn K cd_are_columns "are_columns" = true)
    (k_are_columns : PySem.W.keepIn K (.ref f_are_columns) = true)
    (a_is_key : PySem.W.nsIn K mainGlobals "is_key" = some (some (.ref f_is_key)))
    (l_is_key : K.lookup f_is_key = some ⟨oc_is_key, od_is_key, .func (PySem.W.fnOf "is_key" "is_key" (defArgs s_is_key) (defBody s_is_key) (defScope s_is_key) .none kV_is_key dc_is_key pm_is_key an_is_key cd_is_key ct_is_key), sl_is_key⟩)
    (c_is_key : PySem.W.codeIn K cd_is_key "is_key" = true)
    (k_is_key : PySem.W.keepIn K (.ref f_is_key) = true)
    (a_Table___init : PySem.W.findIn K (.ref C_Table) "__init__" = some (some (.ref f_Table___init)))
    (l_Table___init : K.lookup f_Table___init = some ⟨oc_Table___init, od_Table___init, .func (PySem.W.fnOf "__init__" "Table.__init__" (defArgs s_Table___init) (defBody s_Table___init) (defScope s_Table___init) .none kV_Table___init dc_Table___init pm_Table___init an_Table___init cd_Table___init ct_Table___init), sl_Table___init⟩)
    (c_Table___init : PySem.W.codeIn K cd_Table___init "Table.__init__" = true)
    (k_Table___init : PySem.W.keepIn K (.ref f_Table___init) = true)
    (i_Table___init : PySem.W.isFn K (.ref f_Table___init) = true)
    (a_l_made : PySem.W.nsIn K mainGlobals "_law_made" = some (some (.ref f_l_made)))
    (l_l_made : K.lookup f_l_made = some ⟨oc_l_made, od_l_made, .func (PySem.W.fnOf "_law_made" "_law_made" (defArgs s_l_made) (defBody s_l_made) (defScope s_l_made) .none kV_l_made dc_l_made pm_l_made an_l_made cd_l_made ct_l_made), sl_l_made⟩)
    (c_l_made : PySem.W.codeIn K cd_l_made "_law_made" = true)
    (k_l_made : PySem.W.keepIn K (.ref f_l_made) = true)
    (a_law : PySem.W.nsIn K mainGlobals "law" = some (some (.ref f_law)))
    (l_law : K.lookup f_law = some ⟨oc_law, od_law, .func (PySem.W.fnOf "law" "law" (defArgs s_law) (defBody s_law) (defScope s_law) .none kV_law dc_law pm_law an_law cd_law ct_law), sl_law⟩)
    (c_law : PySem.W.codeIn K cd_law "law" = true)
    (k_law : PySem.W.keepIn K (.ref f_law) = true)
    (z_all : PySem.W.nsIn K mainGlobals "all" = some none)
    (z_bool : PySem.W.nsIn K mainGlobals "bool" = some none)
    (z_enumerate : PySem.W.nsIn K mainGlobals "enumerate" = some none)
    (z_int : PySem.W.nsIn K mainGlobals "int" = some none)
    (z_isinstance : PySem.W.nsIn K mainGlobals "isinstance" = some none)
    (z_len : PySem.W.nsIn K mainGlobals "len" = some none)
    (z_list : PySem.W.nsIn K mainGlobals "list" = some none)
    (z_range : PySem.W.nsIn K mainGlobals "range" = some none)
    (z_set : PySem.W.nsIn K mainGlobals "set" = some none)
    (z_tuple : PySem.W.nsIn K mainGlobals "tuple" = some none)
    (v_FIRST : PySem.W.nsIn K mainGlobals "FIRST" = some (some (.str (Str.ofString "abcdefghijklmnopqrstuvwxyz") tk_FIRST)))
    (v_FURTHER : PySem.W.nsIn K mainGlobals "FURTHER" = some (some (.str (Str.ofString "abcdefghijklmnopqrstuvwxyz0123456789_") tk_FURTHER)))
    (v_LONGEST : PySem.W.nsIn K mainGlobals "LONGEST" = some (some (.int 20 tk_LONGEST)))
    (pg_Table : PySem.W.plainGet K C_Table Str.empty = true)
    (hd_Table : PySem.W.hasDictIn K C_Table = true)
    (po_Table : PySem.W.plainOver K C_Table = true)
    (sa_Table : PySem.W.findIn K (.ref C_Table) "__setattr__" = some (some (.builtin "object.__setattr__")))
    (na_Table_name : PySem.W.findIn K (.ref C_Table) "name" = some none)
    (na_Table_columns : PySem.W.findIn K (.ref C_Table) "columns" = some none)
    (na_Table_key : PySem.W.findIn K (.ref C_Table) "key" = some none)
    (na_Table__key_places : PySem.W.findIn K (.ref C_Table) "_key_places" = some none)
    (mk_Table : PySem.W.makesIn K C_Table = true)
    (kc_Table : PySem.W.keepIn K (.ref C_Table) = true)
    (ex_InvalidTable : PySem.W.subIn K (.ref C_InvalidTable) (.type "BaseException") = some true)
    (ic_InvalidTable : PySem.W.isClsIn K C_InvalidTable = true)
    (ty_InvalidTable : PySem.W.typeIn K (.ref C_InvalidTable) = some (.type "type"))
    (su_InvalidTable_InvalidTable : PySem.W.subIn K (.ref C_InvalidTable) (.ref C_InvalidTable) = some true)
    (ga_InvalidTable : PySem.W.findIn K (.ref C_InvalidTable) "__getattribute__" = some (some (.builtin "BaseException.__getattribute__")))
    (gg_InvalidTable : PySem.W.findIn K (.ref C_InvalidTable) "__getattr__" = some none)
    (hd_InvalidTable : PySem.W.hasDictIn K C_InvalidTable = true)
    (na_InvalidTable_name : PySem.W.findIn K (.ref C_InvalidTable) "name" = some none)
    (xl_InvalidTable : K.lookup C_InvalidTable = some (excClassObj nm_InvalidTable q_InvalidTable C_InvalidTable N_InvalidTable bs_InvalidTable bm_InvalidTable true sn_InvalidTable sub_InvalidTable ab_InvalidTable col_InvalidTable dd_InvalidTable m0_InvalidTable m1_InvalidTable m2_InvalidTable m3_InvalidTable m5_InvalidTable "ValueError.__new__"))
    (rv_InvalidTable : PySem.HandSPX.refsVE bm_InvalidTable = true)
    (sa_InvalidTable : PySem.W.findIn K (.ref C_InvalidTable) "__setattr__" = some (some (.builtin "object.__setattr__")))
    (kc_InvalidTable : PySem.W.keepIn K (.ref C_InvalidTable) = true)
    (a_e_InvalidTable : PySem.W.findIn K (.ref C_InvalidTable) "__init__" = some (some (.ref f_e_InvalidTable)))
    (l_e_InvalidTable : K.lookup f_e_InvalidTable = some ⟨oc_e_InvalidTable, od_e_InvalidTable, .func (PySem.W.fnOf "__init__" "InvalidTable.__init__" (defArgs s_e_InvalidTable) (defBody s_e_InvalidTable) (defScope s_e_InvalidTable) .none kV_e_InvalidTable dc_e_InvalidTable pm_e_InvalidTable an_e_InvalidTable cd_e_InvalidTable ct_e_InvalidTable), sl_e_InvalidTable⟩)
    (c_e_InvalidTable : PySem.W.codeIn K cd_e_InvalidTable "InvalidTable.__init__" = true)
    (k_e_InvalidTable : PySem.W.keepIn K (.ref f_e_InvalidTable) = true)
    (tI_InvalidTable : PySem.W.typeIn K (.ref f_e_InvalidTable) = some (.type "function"))
    : ∃ fd : FuncData, (∀ (s : Shared) (v : Value), BindsTo s fd ⟨[v], []⟩ [("_law_script", v)]) ∧ ∀ base : Heap, K.In base → base.Ns mainGlobals mg → FnOk P w K mg base CX0 6 fa fd ["_law_script"] (SpL (w1 (rScr K)) rBool (fun x => m_law x)) := by
  have e := hfa.symm.trans (PySem.W.mg_of X G a_law)
  cases e
  have T : Txt K mg { f_l_start := f_l_start, d_l_start := PySem.W.fnOf "_law_start" "_law_start" (defArgs s_l_start) (defBody s_l_start) (defScope s_l_start) .none kV_l_start dc_l_start pm_l_start an_l_start cd_l_start ct_l_start, f_l_draw := f_l_draw, d_l_draw := PySem.W.fnOf "_law_draw" "_law_draw" (defArgs s_l_draw) (defBody s_l_draw) (defScope s_l_draw) .none kV_l_draw dc_l_draw pm_l_draw an_l_draw cd_l_draw ct_l_draw, f_l_text := f_l_text, d_l_text := PySem.W.fnOf "_law_text" "_law_text" (defArgs s_l_text) (defBody s_l_text) (defScope s_l_text) .none kV_l_text dc_l_text pm_l_text an_l_text cd_l_text ct_l_text, f_l_due := f_l_due, d_l_due := PySem.W.fnOf "_law_due" "_law_due" (defArgs s_l_due) (defBody s_l_due) (defScope s_l_due) .none kV_l_due dc_l_due pm_l_due an_l_due cd_l_due ct_l_due, f_is_name := f_is_name, d_is_name := PySem.W.fnOf "is_name" "is_name" (defArgs s_is_name) (defBody s_is_name) (defScope s_is_name) .none kV_is_name dc_is_name pm_is_name an_is_name cd_is_name ct_is_name, f_are_columns := f_are_columns, d_are_columns := PySem.W.fnOf "are_columns" "are_columns" (defArgs s_are_columns) (defBody s_are_columns) (defScope s_are_columns) .none kV_are_columns dc_are_columns pm_are_columns an_are_columns cd_are_columns ct_are_columns, f_is_key := f_is_key, d_is_key := PySem.W.fnOf "is_key" "is_key" (defArgs s_is_key) (defBody s_is_key) (defScope s_is_key) .none kV_is_key dc_is_key pm_is_key an_is_key cd_is_key ct_is_key, f_Table___init := f_Table___init, d_Table___init := PySem.W.fnOf "__init__" "Table.__init__" (defArgs s_Table___init) (defBody s_Table___init) (defScope s_Table___init) .none kV_Table___init dc_Table___init pm_Table___init an_Table___init cd_Table___init ct_Table___init, f_l_made := f_l_made, d_l_made := PySem.W.fnOf "_law_made" "_law_made" (defArgs s_l_made) (defBody s_l_made) (defScope s_l_made) .none kV_l_made dc_l_made pm_l_made an_l_made cd_l_made ct_l_made, f_law := fa, d_law := PySem.W.fnOf "law" "law" (defArgs s_law) (defBody s_law) (defScope s_law) .none kV_law dc_law pm_law an_law cd_law ct_law, C_InvalidTable := C_InvalidTable, C_Table := C_Table, f_e_InvalidTable := f_e_InvalidTable, d_e_InvalidTable := PySem.W.fnOf "__init__" "InvalidTable.__init__" (defArgs s_e_InvalidTable) (defBody s_e_InvalidTable) (defScope s_e_InvalidTable) .none kV_e_InvalidTable dc_e_InvalidTable pm_e_InvalidTable an_e_InvalidTable cd_e_InvalidTable ct_e_InvalidTable } := { F_l_start := fun_mk (st := s_l_start) l_l_start c_l_start k_l_start, g_l_start := PySem.W.mg_of X G a_l_start, n_l_start := (fun_mk (st := s_l_start) l_l_start c_l_start k_l_start).binds (ps := ["_law_script"]) fun _ _ _ _ _ _ us hl => match us, hl with | [_], _ => rfl, F_l_draw := fun_mk (st := s_l_draw) l_l_draw c_l_draw k_l_draw, g_l_draw := PySem.W.mg_of X G a_l_draw, n_l_draw := (fun_mk (st := s_l_draw) l_l_draw c_l_draw k_l_draw).binds (ps := ["_law_state", "_law_many"]) fun _ _ _ _ _ _ us hl => match us, hl with | [_, _], _ => rfl, F_l_text := fun_mk (st := s_l_text) l_l_text c_l_text k_l_text, g_l_text := PySem.W.mg_of X G a_l_text, n_l_text := (fun_mk (st := s_l_text) l_l_text c_l_text k_l_text).binds (ps := ["_law_state"]) fun _ _ _ _ _ _ us hl => match us, hl with | [_], _ => rfl, F_l_due := fun_mk (st := s_l_due) l_l_due c_l_due k_l_due, g_l_due := PySem.W.mg_of X G a_l_due, n_l_due := (fun_mk (st := s_l_due) l_l_due c_l_due k_l_due).binds (ps := ["_law_text_here"]) fun _ _ _ _ _ _ us hl => match us, hl with | [_], _ => rfl, F_is_name := fun_mk (st := s_is_name) l_is_name c_is_name k_is_name, g_is_name := PySem.W.mg_of X G a_is_name, n_is_name := (fun_mk (st := s_is_name) l_is_name c_is_name k_is_name).binds (ps := ["text"]) fun _ _ _ _ _ _ us hl => match us, hl with | [_], _ => rfl, F_are_columns := fun_mk (st := s_are_columns) l_are_columns c_are_columns k_are_columns, g_are_columns := PySem.W.mg_of X G a_are_columns, n_are_columns := (fun_mk (st := s_are_columns) l_are_columns c_are_columns k_are_columns).binds (ps := ["columns"]) fun _ _ _ _ _ _ us hl => match us, hl with | [_], _ => rfl, F_is_key := fun_mk (st := s_is_key) l_is_key c_is_key k_is_key, g_is_key := PySem.W.mg_of X G a_is_key, n_is_key := (fun_mk (st := s_is_key) l_is_key c_is_key k_is_key).binds (ps := ["key", "columns"]) fun _ _ _ _ _ _ us hl => match us, hl with | [_, _], _ => rfl, F_Table___init := fun_mk (st := s_Table___init) l_Table___init c_Table___init k_Table___init, n_Table___init := (fun_mk (st := s_Table___init) l_Table___init c_Table___init k_Table___init).binds (ps := ["self", "name", "columns", "key"]) fun _ _ _ _ _ _ us hl => match us, hl with | [_, _, _, _], _ => rfl, F_l_made := fun_mk (st := s_l_made) l_l_made c_l_made k_l_made, g_l_made := PySem.W.mg_of X G a_l_made, n_l_made := (fun_mk (st := s_l_made) l_l_made c_l_made k_l_made).binds (ps := ["_law_name", "_law_columns", "_law_key"]) fun _ _ _ _ _ _ us hl => match us, hl with | [_, _, _], _ => rfl, F_law := fun_mk (st := s_law) l_law c_law k_law, g_law := PySem.W.mg_of X G a_law, n_law := (fun_mk (st := s_law) l_law c_law k_law).binds (ps := ["_law_script"]) fun _ _ _ _ _ _ us hl => match us, hl with | [_], _ => rfl, b_all := PySem.W.mg_none_of X G z_all, b_bool := PySem.W.mg_none_of X G z_bool, b_enumerate := PySem.W.mg_none_of X G z_enumerate, b_int := PySem.W.mg_none_of X G z_int, b_isinstance := PySem.W.mg_none_of X G z_isinstance, b_len := PySem.W.mg_none_of X G z_len, b_list := PySem.W.mg_none_of X G z_list, b_range := PySem.W.mg_none_of X G z_range, b_set := PySem.W.mg_none_of X G z_set, b_tuple := PySem.W.mg_none_of X G z_tuple, c_FIRST := ⟨_, PySem.W.mg_of X G v_FIRST, tk_FIRST, rfl⟩, c_FURTHER := ⟨_, PySem.W.mg_of X G v_FURTHER, tk_FURTHER, rfl⟩, c_LONGEST := ⟨_, PySem.W.mg_of X G v_LONGEST, tk_LONGEST, rfl⟩, g_InvalidTable := PySem.W.mg_of X G aC_InvalidTable, g_Table := PySem.W.mg_of X G aC_Table, cl_Table := ⟨pg_Table, hd_Table, po_Table, sa_Table⟩, na_Table_name := na_Table_name, na_Table_columns := na_Table_columns, na_Table_key := na_Table_key, na_Table__key_places := na_Table__key_places, M_Table := ⟨mk_Table, a_Table___init, i_Table___init, kc_Table⟩, e_InvalidTable_InvalidTable := exm_of ex_InvalidTable ic_InvalidTable ty_InvalidTable su_InvalidTable_InvalidTable, xf_InvalidTable := ⟨ga_InvalidTable, gg_InvalidTable, ex_InvalidTable, hd_InvalidTable⟩, na_InvalidTable_name := na_InvalidTable_name, x_InvalidTable := ⟨⟨_, _, _, _, _, _, _, _, _, _, _, _, _, _, _, xl_InvalidTable, rv_InvalidTable⟩, sa_InvalidTable, ex_InvalidTable, ty_InvalidTable, kc_InvalidTable⟩, F_e_InvalidTable := fun_mk (st := s_e_InvalidTable) l_e_InvalidTable c_e_InvalidTable k_e_InvalidTable, i_InvalidTable := a_e_InvalidTable, t_InvalidTable := tI_InvalidTable, n_e_InvalidTable := (fun_mk (st := s_e_InvalidTable) l_e_InvalidTable c_e_InvalidTable k_e_InvalidTable).binds (ps := ["self", "name"]) fun _ _ _ _ _ _ us hl => match us, hl with | [_, _], _ => rfl }
  exact ⟨_, fun s v => .of_eq rfl, fun base _ _ => ok_law T⟩
end Law
open PySem PySem.W PyProof.Rows
set_option maxRecDepth 100000 in
set_option maxHeartbeats 0 in
theorem PySem.Challenge.cw_shownwrites_k08_names_holds : PySem.Challenge.rw_shownwrites_k08_names.Holds := by
  w_on; o_law; k_head; (case hw => w_witness2)
  k_fill
  refine L2.walk_of (n := 63) (k := 6) (x := "_law_script") (CX := fun _ => L2.CX0) (sp := fun w => G.SpL (G.w1 (G.rScr _)) G.rBool (fun x => Law.m_law x)) rfl (by decide) rfl ⟨rfl, by decide, by decide⟩ (fun w h Y => PySem.W.kIn_of Y) ?F (fun w H a ns hl _ hS => ⟨H, ns, true, L2.Same.refl _, ⟨_, rfl, a, rfl, hS⟩, Law.law_true ns hl, fun H2 B2 v P k => k⟩) fun _ _ _ _ _ z => z
  case F =>
    intro w mg fa h KX G hmg
    refine' Law.all_mk KX G hmg ?aC_InvalidTable ?aC_Table ?a_l_start ?l_l_start ?c_l_start ?k_l_start ?a_l_draw ?l_l_draw ?c_l_draw ?k_l_draw ?a_l_text ?l_l_text ?c_l_text ?k_l_text ?a_l_due ?l_l_due ?c_l_due ?k_l_due ?a_is_name ?l_is_name ?c_is_name ?k_is_name ?a_are_columns ?l_are_columns ?c_are_columns ?k_are_columns ?a_is_key ?l_is_key ?c_is_key ?k_is_key ?a_Table___init ?l_Table___init ?c_Table___init ?k_Table___init ?i_Table___init ?a_l_made ?l_l_made ?c_l_made ?k_l_made ?a_law ?l_law ?c_law ?k_law ?z_all ?z_bool ?z_enumerate ?z_int ?z_isinstance ?z_len ?z_list ?z_range ?z_set ?z_tuple ?v_FIRST ?v_FURTHER ?v_LONGEST ?pg_Table ?hd_Table ?po_Table ?sa_Table ?na_Table_name ?na_Table_columns ?na_Table_key ?na_Table__key_places ?mk_Table ?kc_Table ?ex_InvalidTable ?ic_InvalidTable ?ty_InvalidTable ?su_InvalidTable_InvalidTable ?ga_InvalidTable ?gg_InvalidTable ?hd_InvalidTable ?na_InvalidTable_name ?xl_InvalidTable ?rv_InvalidTable ?sa_InvalidTable ?kc_InvalidTable ?a_e_InvalidTable ?l_e_InvalidTable ?c_e_InvalidTable ?k_e_InvalidTable ?tI_InvalidTable
    (case aC_InvalidTable => first | k_is | rfl)
    (case aC_Table => first | k_is | rfl)
    (case a_l_start => first | k_is | rfl)
    (case l_l_start => first | k_is | rfl)
    (case c_l_start => first | k_is | rfl)
    (case k_l_start => first | k_is | rfl)
    (case a_l_draw => first | k_is | rfl)
    (case l_l_draw => first | k_is | rfl)
    (case c_l_draw => first | k_is | rfl)
    (case k_l_draw => first | k_is | rfl)
    (case a_l_text => first | k_is | rfl)
    (case l_l_text => first | k_is | rfl)
    (case c_l_text => first | k_is | rfl)
    (case k_l_text => first | k_is | rfl)
    (case a_l_due => first | k_is | rfl)
    (case l_l_due => first | k_is | rfl)
    (case c_l_due => first | k_is | rfl)
    (case k_l_due => first | k_is | rfl)
    (case a_is_name => first | k_is | rfl)
    (case l_is_name => first | k_is | rfl)
    (case c_is_name => first | k_is | rfl)
    (case k_is_name => first | k_is | rfl)
    (case a_are_columns => first | k_is | rfl)
    (case l_are_columns => first | k_is | rfl)
    (case c_are_columns => first | k_is | rfl)
    (case k_are_columns => first | k_is | rfl)
    (case a_is_key => first | k_is | rfl)
    (case l_is_key => first | k_is | rfl)
    (case c_is_key => first | k_is | rfl)
    (case k_is_key => first | k_is | rfl)
    (case a_Table___init => first | k_is | rfl)
    (case l_Table___init => first | k_is | rfl)
    (case c_Table___init => first | k_is | rfl)
    (case k_Table___init => first | k_is | rfl)
    (case i_Table___init => first | k_is | rfl)
    (case a_l_made => first | k_is | rfl)
    (case l_l_made => first | k_is | rfl)
    (case c_l_made => first | k_is | rfl)
    (case k_l_made => first | k_is | rfl)
    (case a_law => first | k_is | rfl)
    (case l_law => first | k_is | rfl)
    (case c_law => first | k_is | rfl)
    (case k_law => first | k_is | rfl)
    (case z_all => first | k_is | rfl)
    (case z_bool => first | k_is | rfl)
    (case z_enumerate => first | k_is | rfl)
    (case z_int => first | k_is | rfl)
    (case z_isinstance => first | k_is | rfl)
    (case z_len => first | k_is | rfl)
    (case z_list => first | k_is | rfl)
    (case z_range => first | k_is | rfl)
    (case z_set => first | k_is | rfl)
    (case z_tuple => first | k_is | rfl)
    (case v_FIRST => first | k_is | rfl)
    (case v_FURTHER => first | k_is | rfl)
    (case v_LONGEST => first | k_is | rfl)
    (case pg_Table => first | k_is | rfl)
    (case hd_Table => first | k_is | rfl)
    (case po_Table => first | k_is | rfl)
    (case sa_Table => first | k_is | rfl)
    (case na_Table_name => first | k_is | rfl)
    (case na_Table_columns => first | k_is | rfl)
    (case na_Table_key => first | k_is | rfl)
    (case na_Table__key_places => first | k_is | rfl)
    (case mk_Table => first | k_is | rfl)
    (case kc_Table => first | k_is | rfl)
    (case ex_InvalidTable => first | k_is | rfl)
    (case ic_InvalidTable => first | k_is | rfl)
    (case ty_InvalidTable => first | k_is | rfl)
    (case su_InvalidTable_InvalidTable => first | k_is | rfl)
    (case ga_InvalidTable => first | k_is | rfl)
    (case gg_InvalidTable => first | k_is | rfl)
    (case hd_InvalidTable => first | k_is | rfl)
    (case na_InvalidTable_name => first | k_is | rfl)
    (case xl_InvalidTable => first | k_is | rfl)
    (case rv_InvalidTable => first | k_is | rfl)
    (case sa_InvalidTable => first | k_is | rfl)
    (case kc_InvalidTable => first | k_is | rfl)
    (case a_e_InvalidTable => first | k_is | rfl)
    (case l_e_InvalidTable => first | k_is | rfl)
    (case c_e_InvalidTable => first | k_is | rfl)
    (case k_e_InvalidTable => first | k_is | rfl)
    (case tI_InvalidTable => first | k_is | rfl)

