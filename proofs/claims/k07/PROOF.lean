import PyProof.Rows.All
import Wide.All
import OpenK.AllK
import Wide.FinOn
import HandS.ForMost
import HandS.ForExc
import HandS.Wide
import HandS.Codes
import HandS.Conv
import HandS.Steps
import HandS.Evl
import HandS.ExcInit
import HandS.ExcField
import HandS.TryOnly
import HandS.Strs
import HandS.ExcOwn
import HandS.WordsExc
import HandS.IsInst
import HandS.Zip
import HandS.SlotsOwn
import HandS.SetFor
import HandS.ClsMeth
import HandS.DictComp
import HandS.Defaults
import HandS.ExcIs
import KE.KExcIs
import HandS.Text
import PyProof.LongRange
import HandS.SortKw
import KE.DatumOrd
import HandS.MakeKwOnly
import HandS.MakeKw
import PyProof.Conv_bool
import HandS.Star
import HandS.FStr
import KE.KCallOwn
import HandS.Style
import HandS.SortInts
import PySem.Challenge.RW_shownwrites_k07_whole_conditions_meet
set_option Elab.async false
set_option autoImplicit false
set_option linter.all false
set_option maxRecDepth 100000
set_option maxHeartbeats 4000000
/-! # G: what stands for what; frames; what an expression gives -/
namespace G
open PySem PySem.Spec PyProof.Rows L2

/-- a value and the datum it stands for, over a heap that only grows -/
structure Rp (α : Type) where
  rel : Hp → V → α → Prop
  mono : ∀ {H H' : Hp} {v : V} {a : α}, Same H H' → rel H v a → rel H' v a
/-- an object and the datum it stands for -/
structure Cl (α : Type) where
  ok : Hp → HO → α → Prop
  mono : ∀ {H H' : Hp} {o : HO} {a : α}, Same H H' → ok H o a → ok H' o a
/-- a row of values -/
structure Rw (α : Type) where
  rel : Hp → List V → α → Prop
  mono : ∀ {H H' : Hp} {vs : List V} {a : α}, Same H H' → rel H vs a → rel H' vs a

def rInt : Rp Int := ⟨fun _ v i => v = .int i, fun _ h => h⟩
def rBool : Rp Bool := ⟨fun _ v b => v = .bl b, fun _ h => h⟩
def rStr : Rp Str := ⟨fun _ v z => v = .str z, fun _ h => h⟩
def rNon : Rp Unit := ⟨fun _ v _ => v = .non, fun _ h => h⟩
def rOpt {α : Type} (r : Rp α) : Rp (Option α) := ⟨fun H v o => match o with
  | none => v = .non
  | some a => r.rel H v a ∧ v ≠ .non, fun {H H' v o} s h => by
    cases o with
    | none => exact h
    | some a => exact ⟨r.mono s h.1, h.2⟩⟩
def rOb {α : Type} (c : Cl α) : Rp α := ⟨fun H v a => ∃ p o, v = .ref p ∧ H p = some o ∧ c.ok H o a, fun s ⟨p, o, e, h, k⟩ => ⟨p, o, e, s p o h, c.mono s k⟩⟩
theorem Paired.monoR {α : Type} {r : Rp α} {H H' : Hp} (s : Same H H') : ∀ {vs : List V} {xs : List α}, Paired (r.rel H) vs xs → Paired (r.rel H') vs xs
  | _, _, .nil => .nil
  | _, _, .cons h t => .cons (r.mono s h) (Paired.monoR s t)
def cLst {α : Type} (r : Rp α) : Cl (List α) := ⟨fun H o xs => ∃ vs, o = .lst vs ∧ Paired (r.rel H) vs xs, fun s ⟨vs, e, h⟩ => ⟨vs, e, Paired.monoR s h⟩⟩
def cTpl {α : Type} (r : Rp α) : Cl (List α) := ⟨fun H o xs => ∃ vs, o = .tup vs ∧ Paired (r.rel H) vs xs, fun s ⟨vs, e, h⟩ => ⟨vs, e, Paired.monoR s h⟩⟩
def cTup {α : Type} (w : Rw α) : Cl α := ⟨fun H o a => ∃ vs, o = .tup vs ∧ w.rel H vs a, fun s ⟨vs, e, h⟩ => ⟨vs, e, w.mono s h⟩⟩
def cHls {α : Type} (w : Rw α) : Cl α := ⟨fun H o a => ∃ vs, o = .lst vs ∧ w.rel H vs a, fun s ⟨vs, e, h⟩ => ⟨vs, e, w.mono s h⟩⟩
def rLst {α : Type} (r : Rp α) : Rp (List α) := rOb (cLst r)
def rTpl {α : Type} (r : Rp α) : Rp (List α) := rOb (cTpl r)
def rTup {α : Type} (w : Rw α) : Rp α := rOb (cTup w)
def rHls {α : Type} (w : Rw α) : Rp α := rOb (cHls w)
def w0 : Rw Unit := ⟨fun _ vs _ => vs = [], fun _ h => h⟩
def w1 {α : Type} (r : Rp α) : Rw α := ⟨fun H vs a => ∃ v, vs = [v] ∧ r.rel H v a, fun s ⟨v, e, h⟩ => ⟨v, e, r.mono s h⟩⟩
def wC {α β : Type} (r : Rp α) (w : Rw β) : Rw (α × β) := ⟨fun H vs a => ∃ v t, vs = v :: t ∧ r.rel H v a.1 ∧ w.rel H t a.2, fun s ⟨v, t, e, h, k⟩ => ⟨v, t, e, r.mono s h, w.mono s k⟩⟩

/-- what a slot holds: nothing that is known; a value; a list (dict ..) of the frame's own, at an address, that may change -/
inductive Sl : Type 1 where
  | no
  | imm {α : Type} (r : Rp α) (a : α)
  | cel {α : Type} (p : Addr) (c : Cl α) (a : α)

/-- where a def began: what stood, what stood and was known to be fixed, what it may change -/
structure Amb where
  B0 : Hp
  H0 : Hp
  m : Addr → Prop
  φ : Hp → Prop
  up : ∀ B B', Same B B' → φ B → φ B'
def Amb.add (A : Amb) (p : Addr) (o : HO) : Amb := ⟨A.B0, upd A.H0 p o, A.m, A.φ, A.up⟩
/-- no object is too large -/
def szO : HO → Prop
  | .lst xs => xs.length ≤ sizeLine
  | .tup xs => xs.length ≤ sizeLine
  | .dK kvs => kvs.length ≤ sizeLine
  | .dT kvs => kvs.length ≤ sizeLine
  | _ => True
def Sz (H : Hp) : Prop := ∀ p o, H p = some o → szO o
theorem Sz.upd {H : Hp} {p : Addr} {o : HO} (h : Sz H) (ho : szO o) : Sz (upd H p o) := fun q u e => by
  by_cases hq : q = p
  · subst hq; rw [upd_same] at e; cases e; exact ho
  · rw [upd_ne hq] at e; exact h q u e

def SlOk (A : Amb) (σ : L2.St) (H B : Hp) (i : Nat) : Sl → Prop
  | .no => True
  | .imm r a => ∃ v, σ[i]? = some (some v) ∧ r.rel B v a
  | .cel p c a => σ[i]? = some (some (V.ref p)) ∧ B p = none ∧ (A.H0 p = none ∨ A.m p) ∧ ∃ o, H p = some o ∧ c.ok B o a
def celAt : Sl → Option Addr
  | .cel p _ _ => some p
  | _ => none

/-- what has come since the beginning -/
structure Post (A : Amb) (H B : Hp) : Prop where
  bh : Same B H
  b0 : Same A.B0 B
  keep : ∀ p o, ¬ A.m p → A.H0 p = some o → H p = some o
  out : ∀ p, A.H0 p ≠ none → A.B0 p = none → B p = none
  alive : ∀ p, A.H0 p ≠ none → H p ≠ none
  sub : Same A.B0 A.H0
  mh : ∀ p, A.m p → A.H0 p ≠ none
  ph : A.φ B
  sz : Sz H

structure Frm (A : Amb) (σ : L2.St) (H B : Hp) (Γ : List Sl) : Prop extends Post A H B where
  len : σ.length = Γ.length
  sl : ∀ (i : Nat) (s : Sl), Γ[i]? = some s → SlOk A σ H B i s
  ds : ∀ (i j : Nat) (p : Addr), (Γ[i]?.bind celAt) = some p → (Γ[j]?.bind celAt) = some p → i = j

theorem slok_mono {A : Amb} {σ : L2.St} {H H' B B' : Hp} {i : Nat} {s : Sl} (h : SlOk A σ H B i s) (b : Same B B') (k : ∀ p o, celAt s = some p → H p = some o → H' p = some o) (n : ∀ p, celAt s = some p → B' p = none) : SlOk A σ H' B' i s := by
  cases s with
  | no => trivial
  | imm r a => obtain ⟨v, e, q⟩ := h; exact ⟨v, e, r.mono b q⟩
  | cel p c a => obtain ⟨e, _, m, o, ho, q⟩ := h; exact ⟨e, n p rfl, m, o, k p o rfl ho, c.mono b q⟩
section
variable {A : Amb} {σ : L2.St} {H B : Hp} {Γ : List Sl} {p : Addr} {o : HO}
theorem Frm.post (F : Frm A σ H B Γ) : Post A H B := F.toPost
theorem Frm.hot (F : Frm A σ H B Γ) {i : Nat} {s : Sl} (e : Γ[i]? = some s) {p : Addr} (hp : celAt s = some p) : B p = none ∧ H p ≠ none ∧ (A.H0 p = none ∨ A.m p) := by
  have h := F.sl i s e
  cases s with
  | no => cases hp
  | imm r a => cases hp
  | cel q c a =>
    cases hp
    obtain ⟨_, n, m, o, ho, _⟩ := h
    exact ⟨n, by rw [ho]; simp, m⟩
/-- a new object beside what is known -/
theorem Frm.fresh (F : Frm A σ H B Γ) (hp : H p = none) (ho : szO o) : Frm (A.add p o) σ (upd H p o) B Γ where
  bh := fun b u e => by rw [upd_ne (ne_of_none (F.bh b u e) hp)]; exact F.bh b u e
  b0 := F.b0
  keep := fun b u m e => by
    by_cases hb : b = p
    · subst hb
      have e' : upd A.H0 b o b = some u := e
      rw [upd_same] at e'; rw [upd_same]; exact e'
    · have e' : upd A.H0 p o b = some u := e
      rw [upd_ne hb] at e'; rw [upd_ne hb]; exact F.keep b u m e'
  out := fun b n z => by
    by_cases hb : b = p
    · subst hb
      cases q : B b with
      | none => rfl
      | some u => have := F.bh b u q; rw [hp] at this; cases this
    · have n' : upd A.H0 p o b ≠ none := n
      rw [upd_ne hb] at n'
      exact F.out b n' z
  alive := fun b n => by
    by_cases hb : b = p
    · subst hb; rw [upd_same]; simp
    · have n' : upd A.H0 p o b ≠ none := n
      rw [upd_ne hb] at n'; rw [upd_ne hb]; exact F.alive b n'
  sub := fun b u e => by
    have z := F.sub b u e
    have hb : b ≠ p := fun q => by
      subst q
      exact F.alive b (by rw [z]; simp) hp
    show upd A.H0 p o b = some u
    rw [upd_ne hb]; exact z
  mh := fun b m => by
    by_cases hb : b = p
    · subst hb; show upd A.H0 b o b ≠ none; rw [upd_same]; simp
    · show upd A.H0 p o b ≠ none; rw [upd_ne hb]; exact F.mh b m
  ph := F.ph
  sz := F.sz.upd ho
  len := F.len
  sl := fun i s e => by
    have hh := fun q => F.hot e (p := q)
    have h := F.sl i s e
    cases s with
    | no => trivial
    | imm r a => exact h
    | cel q c a =>
      obtain ⟨e1, n, m, o1, ho, k⟩ := h
      have hq : q ≠ p := fun z => by rw [z, hp] at ho; cases ho
      refine ⟨e1, n, ?_, o1, by rw [upd_ne hq]; exact ho, k⟩
      rcases m with m | m
      · exact .inl (by show upd A.H0 p o q = none; rw [upd_ne hq]; exact m)
      · exact .inr m
  ds := F.ds
theorem Frm.H0none (F : Frm A σ H B Γ) (hp : H p = none) : A.H0 p = none := by
  cases q : A.H0 p with
  | none => rfl
  | some u => exact absurd hp (F.alive p (by rw [q]; simp))
theorem Frm.hid (F : Frm (A.add p o) σ H B Γ) (h0 : A.H0 p = none) (hm : ¬ A.m p) : H p = some o := F.keep p o hm upd_same
/-- the hidden object is forgotten -/
theorem Frm.drop (F : Frm (A.add p o) σ H B Γ) (h0 : A.H0 p = none) (sub : Same A.B0 A.H0) (mh : ∀ p, A.m p → A.H0 p ≠ none) : Frm A σ H B Γ where
  bh := F.bh
  b0 := F.b0
  keep := fun b u m e => F.keep b u m (by show upd A.H0 p o b = some u; rw [upd_ne (ne_of_none e h0)]; exact e)
  out := fun b n z => F.out b (by
    have hb : b ≠ p := fun q => n (by rw [q]; exact h0)
    show upd A.H0 p o b ≠ none; rw [upd_ne hb]; exact n) z
  alive := fun b n => F.alive b (by
    have hb : b ≠ p := fun q => n (by rw [q]; exact h0)
    show upd A.H0 p o b ≠ none; rw [upd_ne hb]; exact n)
  sub := sub
  mh := mh
  ph := F.ph
  sz := F.sz
  len := F.len
  sl := fun i s e => by
    have h := F.sl i s e
    cases s with
    | no => trivial
    | imm r a => exact h
    | cel q c a =>
      obtain ⟨e1, n, m, k⟩ := h
      refine ⟨e1, n, ?_, k⟩
      rcases m with m | m
      · by_cases hq : q = p
        · exact .inl (by rw [hq]; exact h0)
        · have m' : upd A.H0 p o q = none := m
          rw [upd_ne hq] at m'
          exact .inl m'
      · exact .inr m
  ds := F.ds
/-- the hidden object is among what is fixed -/
theorem Frm.adopt (F : Frm (A.add p o) σ H B Γ) (h0 : A.H0 p = none) (sub : Same A.B0 A.H0) (mh : ∀ p, A.m p → A.H0 p ≠ none) : Frm A σ H (upd B p o) Γ := by
  have hm : ¬ A.m p := fun m => mh p m h0
  have hHp := F.hid h0 hm
  have hBp : B p = none := F.out p (by show upd A.H0 p o p ≠ none; rw [upd_same]; simp) (by
    cases q : A.B0 p with
    | none => exact q
    | some u => exact (absurd (sub p u q) (by rw [h0]; simp)))
  have D := F.drop h0 sub mh
  have bb : Same B (upd B p o) := fun b u e => by rw [upd_ne (ne_of_none e hBp)]; exact e
  have hot : ∀ (i : Nat) (s : Sl), Γ[i]? = some s → ∀ q, celAt s = some q → q ≠ p := fun i s e q hq z => by
    have hh := F.hot e hq
    rcases hh.2.2 with m | m
    · have m' : upd A.H0 p o q = none := m
      rw [z, upd_same] at m'; cases m'
    · rw [z] at m; exact hm m
  refine ⟨⟨fun b u e => ?_, fun b u e => bb b u (D.b0 b u e), D.keep, fun b n z => ?_, D.alive, sub, mh, A.up _ _ bb D.ph, D.sz⟩, D.len, fun i s e => slok_mono (D.sl i s e) bb (fun _ _ _ z => z) fun q hq => by rw [upd_ne (hot i s e q hq)]; exact (D.hot e hq).1, D.ds⟩
  · by_cases hb : b = p
    · subst hb; rw [upd_same] at e; cases e; exact hHp
    · rw [upd_ne hb] at e; exact D.bh b u e
  · have hb : b ≠ p := fun q => n (by rw [q]; exact h0)
    rw [upd_ne hb]; exact D.out b n z
theorem getset {α : Type _} {l : List α} {i j : Nat} {x y : α} (h : (l.set i x)[j]? = some y) : (i = j ∧ y = x ∧ j < l.length) ∨ (i ≠ j ∧ l[j]? = some y) := by
  by_cases e : i = j
  · subst e
    rw [List.getElem?_set] at h
    simp only [if_true] at h
    split at h
    · rename_i hl; cases h; exact .inl ⟨rfl, rfl, hl⟩
    · cases h
  · rw [List.getElem?_set_ne e] at h; exact .inr ⟨e, h⟩
/-- a slot is stored -/
theorem Frm.set {α : Type} {r : Rp α} {a : α} {v : V} {i : Nat} (F : Frm A σ H B Γ) (h : r.rel B v a) : Frm A (σ.set i (some v)) H B (Γ.set i (.imm r a)) := by
  refine ⟨F.post, by rw [List.length_set, List.length_set]; exact F.len, fun j s e => ?_, fun j k q ej ek => ?_⟩
  · rcases getset e with ⟨rfl, rfl, hl⟩ | ⟨ne, e⟩
    · exact ⟨v, by rw [List.getElem?_set_self (by rw [F.len]; exact hl)], h⟩
    · have h := F.sl j s e
      cases s with
      | no => trivial
      | imm r a => obtain ⟨v', e', q⟩ := h; exact ⟨v', by rw [List.getElem?_set_ne ne]; exact e', q⟩
      | cel q c a => obtain ⟨e', q⟩ := h; exact ⟨by rw [List.getElem?_set_ne ne]; exact e', q⟩
  · have lo : ∀ {j : Nat}, ((Γ.set i (.imm r a))[j]?.bind celAt) = some q → (Γ[j]?.bind celAt) = some q := fun {j} ej => by
      cases e : (Γ.set i (.imm r a))[j]? with
      | none => rw [e] at ej; cases ej
      | some s =>
        rw [e] at ej
        rcases getset e with ⟨rfl, rfl, hl⟩ | ⟨ne, e⟩
        · cases ej
        · rw [e]; exact ej
    exact F.ds j k q (lo ej) (lo ek)
/-- the hidden object is the frame's own, at a slot -/
theorem Frm.own {α : Type} {c : Cl α} {a : α} {i : Nat} (F : Frm (A.add p o) σ H B Γ) (h0 : A.H0 p = none) (sub : Same A.B0 A.H0) (mh : ∀ p, A.m p → A.H0 p ≠ none) (k : c.ok B o a) : Frm A (σ.set i (some (.ref p))) H B (Γ.set i (.cel p c a)) := by
  have hm : ¬ A.m p := fun m => mh p m h0
  have hHp := F.hid h0 hm
  have hBp : B p = none := F.out p (by show upd A.H0 p o p ≠ none; rw [upd_same]; simp) (by
    cases q : A.B0 p with
    | none => exact q
    | some u => exact (absurd (sub p u q) (by rw [h0]; simp)))
  have D := F.drop h0 sub mh
  have hot : ∀ (j : Nat) (q : Addr), (Γ[j]?.bind celAt) = some q → q ≠ p := fun j q hq z => by
    cases e : Γ[j]? with
    | none => rw [e] at hq; cases hq
    | some s =>
      rw [e] at hq
      have hh := F.hot e hq
      rcases hh.2.2 with m | m
      · have m' : upd A.H0 p o q = none := m
        rw [z, upd_same] at m'; cases m'
      · rw [z] at m; exact hm m
  refine ⟨D.post, by rw [List.length_set, List.length_set]; exact D.len, fun j s e => ?_, fun j l q ej ek => ?_⟩
  · rcases getset e with ⟨rfl, rfl, hl⟩ | ⟨ne, e⟩
    · exact ⟨by rw [List.getElem?_set_self (by rw [D.len]; exact hl)], hBp, .inl h0, o, hHp, k⟩
    · have h := D.sl j s e
      cases s with
      | no => trivial
      | imm r a => obtain ⟨v', e', q⟩ := h; exact ⟨v', by rw [List.getElem?_set_ne ne]; exact e', q⟩
      | cel q c a => obtain ⟨e', q⟩ := h; exact ⟨by rw [List.getElem?_set_ne ne]; exact e', q⟩
  · have lo : ∀ {j : Nat}, ((Γ.set i (.cel p c a))[j]?.bind celAt) = some q → (j = i ∧ q = p) ∨ (Γ[j]?.bind celAt) = some q := fun {j} ej => by
      cases e : (Γ.set i (.cel p c a))[j]? with
      | none => rw [e] at ej; cases ej
      | some s =>
        rw [e] at ej
        rcases getset e with ⟨rfl, rfl, hl⟩ | ⟨ne, e⟩
        · cases ej; exact .inl ⟨rfl, rfl⟩
        · rw [e]; exact .inr ej
    rcases lo ej with ⟨y, z⟩ | ej2
    · rcases lo ek with ⟨y', z'⟩ | ek2
      · rw [y, y']
      · exact absurd z (hot _ _ ek2)
    · rcases lo ek with ⟨y', z'⟩ | ek2
      · exact absurd z' (hot _ _ ej2)
      · exact D.ds j l q ej2 ek2
/-- what is not known of a slot any more -/
theorem Frm.forget (F : Frm A σ H B Γ) (i : Nat) : Frm A σ H B (Γ.set i .no) := by
  refine ⟨F.post, by rw [List.length_set]; exact F.len, fun j s e => ?_, fun j k q ej ek => ?_⟩
  · rcases getset e with ⟨rfl, rfl, hl⟩ | ⟨ne, e⟩
    · trivial
    · exact F.sl j s e
  · have lo : ∀ {j : Nat}, ((Γ.set i .no)[j]?.bind celAt) = some q → (Γ[j]?.bind celAt) = some q := fun {j} ej => by
      cases e : (Γ.set i .no)[j]? with
      | none => rw [e] at ej; cases ej
      | some s =>
        rw [e] at ej
        rcases getset e with ⟨rfl, rfl, hl⟩ | ⟨ne, e⟩
        · cases ej
        · rw [e]; exact ej
    exact F.ds j k q (lo ej) (lo ek)
/-- the frame's own object at a slot is changed -/
theorem Frm.write {α β : Type} {c : Cl α} {c' : Cl β} {a : α} {a' : β} {i : Nat} {o' : HO} (F : Frm A σ H B Γ) (e : Γ[i]? = some (.cel p c a)) (k : c'.ok B o' a') (ho : szO o') : Frm A σ (upd H p o') B (Γ.set i (.cel p c' a')) := by
  have hp := F.hot e (p := p) rfl
  obtain ⟨e1, n, m, _⟩ := F.sl i _ e
  refine ⟨⟨fun b u q => ?_, F.b0, fun b u nm q => ?_, F.out, fun b n => ?_, F.sub, F.mh, F.ph, F.sz.upd ho⟩, by rw [List.length_set]; exact F.len, fun j s ej => ?_, fun j l q ej ek => ?_⟩
  · have hb : b ≠ p := fun z => by rw [z, n] at q; cases q
    rw [upd_ne hb]; exact F.bh b u q
  · have hb : b ≠ p := fun z => by
      rcases m with m | m
      · rw [z, m] at q; cases q
      · rw [z] at nm; exact nm m
    rw [upd_ne hb]; exact F.keep b u nm q
  · by_cases hb : b = p
    · rw [hb, upd_same]; simp
    · rw [upd_ne hb]; exact F.alive b n
  · rcases getset ej with ⟨rfl, rfl, hl⟩ | ⟨ne, ej⟩
    · exact ⟨e1, n, m, o', upd_same, k⟩
    · have h := F.sl j s ej
      cases s with
      | no => trivial
      | imm r a => exact h
      | cel q c a =>
        obtain ⟨e', n', m', u, hu, k'⟩ := h
        have hq : q ≠ p := fun z => ne (F.ds i j p (by rw [e]; rfl) (by rw [ej, z]; rfl))
        exact ⟨e', n', m', u, by rw [upd_ne hq]; exact hu, k'⟩
  · have lo : ∀ {j : Nat}, ((Γ.set i (.cel p c' a'))[j]?.bind celAt) = some q → (Γ[j]?.bind celAt) = some q := fun {j} ej => by
      cases e2 : (Γ.set i (.cel p c' a'))[j]? with
      | none => rw [e2] at ej; cases ej
      | some s =>
        rw [e2] at ej
        rcases getset e2 with ⟨rfl, rfl, hl⟩ | ⟨ne, e2⟩
        · rw [e]; exact ej
        · rw [e2]; exact ej
    exact F.ds j l q (lo ej) (lo ek)
end
end G

set_option maxHeartbeats 4000000
/-! # G: what an expression gives -/
namespace G
open PySem PySem.Spec PyProof.Rows L2

/-- from what is known at Γ the expression gives the datum a, and leaves what is known at Γ' -/
def EvX {α : Type} (r : Rp α) (t : TE) (Γ Γ' : List Sl) (a : α) : Prop := ∀ (A : Amb) (σ : L2.St) (H B : Hp), Frm A σ H B Γ → ∀ Q : VK, (∀ v H' B', Frm A σ H' B' Γ' → Same B B' → r.rel B' v a → Q v H') → t σ H Q
def EvT (t : TT) (Γ Γ' : List Sl) (b : Bool) : Prop := ∀ (A : Amb) (σ : L2.St) (H B : Hp), Frm A σ H B Γ → ∀ Q : Bool → Hp → Prop, (∀ H' B', Frm A σ H' B' Γ' → Same B B' → Q b H') → t σ H Q
def EvW {α : Type} (w : Rw α) (t : TA) (Γ Γ' : List Sl) (a : α) : Prop := ∀ (A : Amb) (σ : L2.St) (H B : Hp), Frm A σ H B Γ → ∀ Q : List V → Hp → Prop, (∀ vs H' B', Frm A σ H' B' Γ' → Same B B' → w.rel B' vs a → Q vs H') → t σ H Q
def EvH {α : Type} (r : Rp α) (t : TA) (Γ Γ' : List Sl) (xs : List α) : Prop := ∀ (A : Amb) (σ : L2.St) (H B : Hp), Frm A σ H B Γ → ∀ Q : List V → Hp → Prop, (∀ vs H' B', Frm A σ H' B' Γ' → Same B B' → Paired (r.rel B') vs xs → Q vs H') → t σ H Q
/-- a new object -/
def EvC {α : Type} (c : Cl α) (t : TE) (Γ Γ' : List Sl) (a : α) : Prop := ∀ (A : Amb) (σ : L2.St) (H B : Hp), Frm A σ H B Γ → ∀ Q : VK, (∀ p o H' B', Frm (A.add p o) σ H' B' Γ' → A.H0 p = none → Same B B' → c.ok B' o a → Q (.ref p) H') → t σ H Q

section
variable {α β γ : Type} {r ra : Rp α} {rb : Rp β} {rc : Rp γ} {c : Cl α} {w : Rw α} {ta tb te : TE} {tt tu : TT} {Γ Γ1 Γ2 Γ3 : List Sl} {x a : α} {y b : β} {z : γ} {K : PySem.W.Frag}
theorem Paired.imp2 {α β : Type} {F G : α → β → Prop} (h : ∀ a b, F a b → G a b) : ∀ {l₁ : List α} {l₂ : List β}, Paired F l₁ l₂ → Paired G l₁ l₂
  | _, _, .nil => .nil
  | _, _, .cons q t => .cons (h _ _ q) (Paired.imp2 h t)
theorem Paired.len {α β : Type} {F : α → β → Prop} : ∀ {l₁ : List α} {l₂ : List β}, Paired F l₁ l₂ → l₁.length = l₂.length
  | _, _, .nil => rfl
  | _, _, .cons _ t => by rw [List.length_cons, List.length_cons, Paired.len t]
theorem Paired.getR {α β : Type} {F : α → β → Prop} : ∀ {l₁ : List α} {l₂ : List β} {i : Nat} {y : β}, Paired F l₁ l₂ → l₂[i]? = some y → ∃ x, l₁[i]? = some x ∧ F x y
  | _, _, _, _, .nil, e => by simp at e
  | _, _, 0, _, .cons q _, e => by simp at e; subst e; exact ⟨_, rfl, q⟩
  | _, _, i + 1, _, .cons _ t, e => by simpa using Paired.getR (i := i) t (by simpa using e)
theorem Paired.getL {α β : Type} {F : α → β → Prop} : ∀ {l₁ : List α} {l₂ : List β} {i : Nat} {x : α}, Paired F l₁ l₂ → l₁[i]? = some x → ∃ y, l₂[i]? = some y ∧ F x y
  | _, _, _, _, .nil, e => by simp at e
  | _, _, 0, _, .cons q _, e => by simp at e; subst e; exact ⟨_, rfl, q⟩
  | _, _, i + 1, _, .cons _ t, e => by simpa using Paired.getL (i := i) t (by simpa using e)
theorem Paired.app {α β : Type} {F : α → β → Prop} : ∀ {l₁ k₁ : List α} {l₂ k₂ : List β}, Paired F l₁ l₂ → Paired F k₁ k₂ → Paired F (l₁ ++ k₁) (l₂ ++ k₂)
  | _, _, _, _, .nil, h => h
  | _, _, _, _, .cons q t, h => .cons q (Paired.app t h)
theorem Paired.dropN {α β : Type} {F : α → β → Prop} : ∀ {l₁ : List α} {l₂ : List β} (n : Nat), Paired F l₁ l₂ → Paired F (l₁.drop n) (l₂.drop n)
  | _, _, 0, h => h
  | _, _, _ + 1, .nil => .nil
  | _, _, n + 1, .cons _ t => Paired.dropN n t
theorem Paired.takeN {α β : Type} {F : α → β → Prop} : ∀ {l₁ : List α} {l₂ : List β} (n : Nat), Paired F l₁ l₂ → Paired F (l₁.take n) (l₂.take n)
  | _, _, 0, _ => .nil
  | _, _, _ + 1, .nil => .nil
  | _, _, n + 1, .cons q t => .cons q (Paired.takeN n t)
theorem Paired.revR {α β : Type} {F : α → β → Prop} : ∀ {l₁ : List α} {l₂ : List β}, Paired F l₁ l₂ → Paired F l₁.reverse l₂.reverse
  | _, _, .nil => .nil
  | _, _, .cons q t => by rw [List.reverse_cons, List.reverse_cons]; exact Paired.app (Paired.revR t) (.cons q .nil)
theorem Paired.mapEq {α β : Type} {F : α → β → Prop} {f : β → α} (h : ∀ a b, F a b → a = f b) : ∀ {l₁ : List α} {l₂ : List β}, Paired F l₁ l₂ → l₁ = l₂.map f
  | _, _, .nil => rfl
  | _, _, .cons q t => by rw [List.map_cons, h _ _ q, Paired.mapEq h t]
theorem Paired.ofMap {α β : Type} {F : α → β → Prop} {f : β → α} (h : ∀ b, F (f b) b) : ∀ (l : List β), Paired F (l.map f) l
  | [] => .nil
  | b :: l => .cons (h b) (Paired.ofMap h l)

/-! ### names, constants -/
theorem ev_var {i : Nat} (h : Γ[i]? = some (.imm r a)) : EvX r (tVar i) Γ Γ a := fun A σ H B F Q q => by
  obtain ⟨v, e, k⟩ := F.sl i _ h
  exact ⟨v, e, q v H B F (Same.refl _) k⟩
theorem ev_int {i : Int} : EvX rInt (tC (.int i)) Γ Γ i := fun A σ H B F Q q => q _ H B F (Same.refl _) rfl
theorem ev_bl {b : Bool} : EvX rBool (tC (.bl b)) Γ Γ b := fun A σ H B F Q q => q _ H B F (Same.refl _) rfl
theorem ev_str {s : Str} : EvX rStr (tC (.str s)) Γ Γ s := fun A σ H B F Q q => q _ H B F (Same.refl _) rfl
theorem ev_non : EvX rNon (tC .non) Γ Γ () := fun A σ H B F Q q => q _ H B F (Same.refl _) rfl
theorem ev_none : EvX (rOpt r) (tC .non) Γ Γ none := fun A σ H B F Q q => q _ H B F (Same.refl _) rfl
/-! ### what is None or not -/
/-- r's values are not None -/
def NN {α : Type} (r : Rp α) : Prop := ∀ H v a, r.rel H v a → v ≠ .non
theorem nn_int : NN rInt := fun _ _ _ h e => by rw [e] at h; cases h
theorem nn_str : NN rStr := fun _ _ _ h e => by rw [e] at h; cases h
theorem nn_bool : NN rBool := fun _ _ _ h e => by rw [e] at h; cases h
theorem nn_ob : NN (rOb c) := fun _ _ _ ⟨p, o, e, _⟩ e' => by rw [e'] at e; cases e
theorem ev_some (n : NN r) (h : EvX r te Γ Γ1 a) : EvX (rOpt r) te Γ Γ1 (some a) := fun A σ H B F Q q => h A σ H B F Q fun v H' B' F' s k => q v H' B' F' s ⟨k, n _ _ _ k⟩
theorem ev_get {o : Option α} (h : EvX (rOpt r) te Γ Γ1 o) (e : o = some a) : EvX r te Γ Γ1 a := fun A σ H B F Q q => h A σ H B F Q fun v H' B' F' s k => q v H' B' F' s (by rw [e] at k; exact k.1)
theorem ev_to {a' : α} (h : EvX r te Γ Γ1 a) (e : a = a') : EvX r te Γ Γ1 a' := e ▸ h
theorem ev_toNon (h : EvX (rOpt r) te Γ Γ1 none) : EvX rNon te Γ Γ1 () := fun A σ H B F Q q => h A σ H B F Q fun v H' B' F' s k => q v H' B' F' s k
theorem ev_isN {o : Option α} (h : EvX (rOpt r) te Γ Γ1 o) : EvX rBool (tIsN te) Γ Γ1 o.isNone := fun A σ H B F Q q => h A σ H B F _ fun v H' B' F' s k => q _ H' B' F' s (by
  cases o with
  | none => rw [show v = V.non from k]; rfl
  | some a => show V.bl (decide (v = V.non)) = V.bl false; rw [decide_eq_false k.2])
theorem ev_notN {o : Option α} (h : EvX (rOpt r) te Γ Γ1 o) : EvX rBool (tNotN te) Γ Γ1 o.isSome := fun A σ H B F Q q => h A σ H B F _ fun v H' B' F' s k => q _ H' B' F' s (by
  cases o with
  | none => rw [show v = V.non from k]; rfl
  | some a => show V.bl (!decide (v = V.non)) = V.bl true; rw [decide_eq_false k.2]; rfl)
/-! ### operators -/
theorem ev_op {R : R2} (ha : EvX ra ta Γ Γ1 x) (hb : EvX rb tb Γ1 Γ2 y) (h : ∀ (H B : Hp) (u v : V), Same B H → ra.rel B u x → rb.rel B v y → ∀ Q : VK, (∀ o, rc.rel B o z → Q o H) → R u v H Q) : EvX rc (tOp R ta tb) Γ Γ2 z :=
  fun A σ H B F Q q => ha A σ H B F _ fun u H1 B1 F1 s1 k1 => hb A σ H1 B1 F1 _ fun v H2 B2 F2 s2 k2 => h H2 B2 u v F2.bh (ra.mono s2 k1) k2 Q fun o ko => q o H2 B2 F2 (s1.trans s2) ko
theorem ev_opC {R : R2} {cc : Cl γ} (ha : EvX ra ta Γ Γ1 x) (hb : EvX rb tb Γ1 Γ2 y) (h : ∀ (H B : Hp) (u v : V), Sz H → Same B H → ra.rel B u x → rb.rel B v y → ∀ Q : VK, (∀ p o, H p = none → szO o → cc.ok B o z → Q (.ref p) (upd H p o)) → R u v H Q) : EvC cc (tOp R ta tb) Γ Γ2 z :=
  fun A σ H B F Q q => ha A σ H B F _ fun u H1 B1 F1 s1 k1 => hb A σ H1 B1 F1 _ fun v H2 B2 F2 s2 k2 => h H2 B2 u v F2.sz F2.bh (ra.mono s2 k1) k2 Q fun p o hp ho ko => q p o _ B2 (F2.fresh hp ho) (F2.H0none hp) (s1.trans s2) ko
theorem ev_un {R : V → Hp → VK → Prop} (ha : EvX ra ta Γ Γ1 x) (h : ∀ (H B : Hp) (u : V), Same B H → ra.rel B u x → ∀ Q : VK, (∀ o, rc.rel B o z → Q o H) → R u H Q) : EvX rc (tUn R ta) Γ Γ1 z :=
  fun A σ H B F Q q => ha A σ H B F _ fun u H1 B1 F1 s1 k1 => h H1 B1 u F1.bh k1 Q fun o ko => q o H1 B1 F1 s1 ko
theorem ev_I0 {g : Int → Int → V} {i j : Int} (ha : EvX rInt ta Γ Γ1 i) (hb : EvX rInt tb Γ1 Γ2 j) (h : ∀ B, rc.rel B (g i j) z) : EvX rc (tOp (rI0 g) ta tb) Γ Γ2 z :=
  ev_op ha hb fun H B u v _ ku kv Q q => ⟨i, j, ku, kv, q _ (h B)⟩
theorem ev_I {C : Int → Int → Prop} {g : Int → Int → V} {i j : Int} (ha : EvX rInt ta Γ Γ1 i) (hb : EvX rInt tb Γ1 Γ2 j) (hc : C i j) (h : ∀ B, rc.rel B (g i j) z) : EvX rc (tOp (rI C g) ta tb) Γ Γ2 z :=
  ev_op ha hb fun H B u v _ ku kv Q q => ⟨i, j, ku, kv, hc, q _ (h B)⟩
section
variable {i j : Int}
theorem ev_add (ha : EvX rInt ta Γ Γ1 i) (hb : EvX rInt tb Γ1 Γ2 j) : EvX rInt (tOp (rI0 fun i j => .int (i + j)) ta tb) Γ Γ2 (i + j) := ev_I0 ha hb fun _ => rfl
theorem ev_sub (ha : EvX rInt ta Γ Γ1 i) (hb : EvX rInt tb Γ1 Γ2 j) : EvX rInt (tOp (rI0 fun i j => .int (i - j)) ta tb) Γ Γ2 (i - j) := ev_I0 ha hb fun _ => rfl
theorem ev_mul (ha : EvX rInt ta Γ Γ1 i) (hb : EvX rInt tb Γ1 Γ2 j) (h : CMul i j) : EvX rInt (tOp (rI CMul fun i j => .int (i * j)) ta tb) Γ Γ2 (i * j) := ev_I ha hb h fun _ => rfl
theorem ev_mod (ha : EvX rInt ta Γ Γ1 i) (hb : EvX rInt tb Γ1 Γ2 j) (h : 0 < j) : EvX rInt (tOp (rI (fun _ j => 0 < j) fun i j => .int (i % j)) ta tb) Γ Γ2 (i % j) := ev_I ha hb h fun _ => rfl
theorem ev_divW (ha : EvX rInt ta Γ Γ1 i) (hb : EvX rInt tb Γ1 Γ2 j) (h : CDivW i j) : EvX rInt (tOp (rI CDivW fun i j => .int (i / j)) ta tb) Γ Γ2 (i / j) := ev_I ha hb h fun _ => rfl
theorem ev_pow (ha : EvX rInt ta Γ Γ1 i) (hb : EvX rInt tb Γ1 Γ2 j) (h : CPow i j) : EvX rInt (tOp (rI CPow fun i j => .int (i ^ j.toNat)) ta tb) Γ Γ2 (i ^ j.toNat) := ev_I ha hb h fun _ => rfl
theorem ev_neg (ha : EvX rInt ta Γ Γ1 i) : EvX rInt (tUn (rU fun i => .int (-i)) ta) Γ Γ1 (-i) := ev_un ha fun H B u _ k Q q => ⟨i, k, q _ rfl⟩
theorem ev_lt (ha : EvX rInt ta Γ Γ1 i) (hb : EvX rInt tb Γ1 Γ2 j) : EvX rBool (tOp (rI0 fun i j => .bl (decide (i < j))) ta tb) Γ Γ2 (decide (i < j)) := ev_I0 ha hb fun _ => rfl
theorem ev_le (ha : EvX rInt ta Γ Γ1 i) (hb : EvX rInt tb Γ1 Γ2 j) : EvX rBool (tOp (rI0 fun i j => .bl (decide (i ≤ j))) ta tb) Γ Γ2 (decide (i ≤ j)) := ev_I0 ha hb fun _ => rfl
theorem ev_gt (ha : EvX rInt ta Γ Γ1 i) (hb : EvX rInt tb Γ1 Γ2 j) : EvX rBool (tOp (rI0 fun i j => .bl (decide (j < i))) ta tb) Γ Γ2 (decide (j < i)) := ev_I0 ha hb fun _ => rfl
theorem ev_ge (ha : EvX rInt ta Γ Γ1 i) (hb : EvX rInt tb Γ1 Γ2 j) : EvX rBool (tOp (rI0 fun i j => .bl (decide (j ≤ i))) ta tb) Γ Γ2 (decide (j ≤ i)) := ev_I0 ha hb fun _ => rfl
end
/-- data that are a value without the heap -/
structure Sc {α : Type} (r : Rp α) where
  val : α → V
  ok : ∀ {H v a}, r.rel H v a → v = val a
  inj : ∀ {a b}, val a = val b → a = b
def scInt : Sc rInt := ⟨.int, fun h => h, fun h => V.int.inj h⟩
def scBool : Sc rBool := ⟨.bl, fun h => h, fun h => V.bl.inj h⟩
def scStr : Sc rStr := ⟨.str, fun h => h, fun h => V.str.inj h⟩
def scNon : Sc rNon := ⟨fun _ => .non, fun h => h, fun _ => rfl⟩
def oV {α : Type} (f : α → V) : Option α → V
  | none => .non
  | some a => f a
def scOpt {α : Type} {r : Rp α} (s : Sc r) (n : ∀ a, s.val a ≠ .non) : Sc (rOpt r) := ⟨oV s.val, fun {H v a} h => by
    cases a with
    | none => exact h
    | some a => exact s.ok h.1, fun {a b} h => by
    cases a with
    | none => cases b with
      | none => rfl
      | some b => exact absurd h.symm (n b)
    | some a => cases b with
      | none => exact absurd h (n a)
      | some b => rw [s.inj h]⟩
def scOI : Sc (rOpt rInt) := scOpt scInt fun _ h => V.noConfusion h
def scOS : Sc (rOpt rStr) := scOpt scStr fun _ h => V.noConfusion h
theorem sc_dec {r : Rp α} [DecidableEq α] (s : Sc r) (a b : α) : decide (s.val a = s.val b) = decide (a = b) := by
  by_cases e : a = b
  · rw [e]; simp
  · rw [decide_eq_false e, decide_eq_false fun h => e (s.inj h)]
theorem ev_eqS [DecidableEq α] (s : Sc r) (ha : EvX r ta Γ Γ1 x) (hb : EvX r tb Γ1 Γ2 a) (h : scal (s.val x) (s.val a) = true) : EvX rBool (tOp rEq ta tb) Γ Γ2 (decide (x = a)) :=
  ev_op ha hb fun H B u v _ ku kv Q q => by
    rw [s.ok ku, s.ok kv]
    exact ⟨h, q _ (by rw [sc_dec s]; rfl)⟩
theorem ev_neS [DecidableEq α] (s : Sc r) (ha : EvX r ta Γ Γ1 x) (hb : EvX r tb Γ1 Γ2 a) (h : scal (s.val x) (s.val a) = true) : EvX rBool (tOp rNe ta tb) Γ Γ2 (!decide (x = a)) :=
  ev_op ha hb fun H B u v _ ku kv Q q => by
    rw [s.ok ku, s.ok kv]
    exact ⟨h, q _ (by rw [sc_dec s]; rfl)⟩
theorem sc_oi (x a : Option Int) : scal (scOI.val x) (scOI.val a) = true := by cases x <;> cases a <;> rfl
theorem sc_os (x a : Option Str) : scal (scOS.val x) (scOS.val a) = true := by cases x <;> cases a <;> rfl
/-! ### tests -/
theorem et_B {b : Bool} (h : EvX rBool te Γ Γ1 b) : EvT (tB te) Γ Γ1 b := fun A σ H B F Q q => h A σ H B F _ fun v H' B' F' s k => ⟨b, k, q H' B' F' s⟩
theorem et_T {b : Bool} (h : EvX rBool te Γ Γ1 b) : EvT (tTest te) Γ Γ1 b := fun A σ H B F Q q => h A σ H B F _ fun v H' B' F' s k => ⟨b, k, q H' B' F' s⟩
theorem et_and {a b : Bool} (h1 : EvT tt Γ Γ1 a) (h2 : a = true → EvT tu Γ1 Γ2 b) (h3 : a = false → b = false ∧ Γ1 = Γ2) : EvT (tAnd tt tu) Γ Γ2 b := fun A σ H B F Q q => h1 A σ H B F _ fun H' B' F' s => by
  cases a with
  | true => exact h2 rfl A σ H' B' F' Q fun H2 B2 F2 s2 => q H2 B2 F2 (s.trans s2)
  | false => obtain ⟨rfl, rfl⟩ := h3 rfl; exact q H' B' F' s
theorem et_or {a b : Bool} (h1 : EvT tt Γ Γ1 a) (h2 : a = false → EvT tu Γ1 Γ2 b) (h3 : a = true → b = true ∧ Γ1 = Γ2) : EvT (tOr tt tu) Γ Γ2 b := fun A σ H B F Q q => h1 A σ H B F _ fun H' B' F' s => by
  cases a with
  | false => exact h2 rfl A σ H' B' F' Q fun H2 B2 F2 s2 => q H2 B2 F2 (s.trans s2)
  | true => obtain ⟨rfl, rfl⟩ := h3 rfl; exact q H' B' F' s
theorem et_and0 {a b : Bool} (h1 : EvT tt Γ Γ1 a) (h2 : EvT tu Γ1 Γ1 b) : EvT (tAnd tt tu) Γ Γ1 (a && b) := et_and h1 (fun e => by rw [e]; exact h2) fun e => ⟨by rw [e]; rfl, rfl⟩
theorem et_or0 {a b : Bool} (h1 : EvT tt Γ Γ1 a) (h2 : EvT tu Γ1 Γ1 b) : EvT (tOr tt tu) Γ Γ1 (a || b) := et_or h1 (fun e => by rw [e]; exact h2) fun e => ⟨by rw [e]; rfl, rfl⟩
theorem et_not {a : Bool} (h : EvT tt Γ Γ1 a) : EvT (tNot tt) Γ Γ1 (!a) := fun A σ H B F Q q => h A σ H B F _ fun H' B' F' s => q H' B' F' s
theorem ev_and {a b : Bool} (h1 : EvX rBool ta Γ Γ1 a) (h2 : a = true → EvX rBool tb Γ1 Γ2 b) (h3 : a = false → b = false ∧ Γ1 = Γ2) : EvX rBool (tAndV ta tb) Γ Γ2 b := fun A σ H B F Q q => h1 A σ H B F _ fun v H' B' F' s k => ⟨a, k, by
  cases a with
  | true => exact h2 rfl A σ H' B' F' Q fun v2 H2 B2 F2 s2 k2 => q v2 H2 B2 F2 (s.trans s2) k2
  | false => obtain ⟨rfl, rfl⟩ := h3 rfl; exact q _ H' B' F' s rfl⟩
theorem ev_or {a b : Bool} (h1 : EvX rBool ta Γ Γ1 a) (h2 : a = false → EvX rBool tb Γ1 Γ2 b) (h3 : a = true → b = true ∧ Γ1 = Γ2) : EvX rBool (tOrV ta tb) Γ Γ2 b := fun A σ H B F Q q => h1 A σ H B F _ fun v H' B' F' s k => ⟨a, k, by
  cases a with
  | false => exact h2 rfl A σ H' B' F' Q fun v2 H2 B2 F2 s2 k2 => q v2 H2 B2 F2 (s.trans s2) k2
  | true => obtain ⟨rfl, rfl⟩ := h3 rfl; exact q _ H' B' F' s rfl⟩
theorem ev_and0 {a b : Bool} (h1 : EvX rBool ta Γ Γ1 a) (h2 : EvX rBool tb Γ1 Γ1 b) : EvX rBool (tAndV ta tb) Γ Γ1 (a && b) := ev_and h1 (fun e => by rw [e]; exact h2) fun e => ⟨by rw [e]; rfl, rfl⟩
theorem ev_or0 {a b : Bool} (h1 : EvX rBool ta Γ Γ1 a) (h2 : EvX rBool tb Γ1 Γ1 b) : EvX rBool (tOrV ta tb) Γ Γ1 (a || b) := ev_or h1 (fun e => by rw [e]; exact h2) fun e => ⟨by rw [e]; rfl, rfl⟩
theorem ev_not {a : Bool} (h : EvX rBool ta Γ Γ1 a) : EvX rBool (tNotV ta) Γ Γ1 (!a) := fun A σ H B F Q q => h A σ H B F _ fun v H' B' F' s k => ⟨a, k, q _ H' B' F' s rfl⟩
theorem ev_if {b : Bool} (h : EvT tt Γ Γ1 b) (h1 : b = true → EvX r ta Γ1 Γ2 a) (h2 : b = false → EvX r tb Γ1 Γ2 a) : EvX r (tIf tt ta tb) Γ Γ2 a := fun A σ H B F Q q => h A σ H B F _ fun H' B' F' s => by
  cases b with
  | true => exact h1 rfl A σ H' B' F' Q fun v H2 B2 F2 s2 k => q v H2 B2 F2 (s.trans s2) k
  | false => exact h2 rfl A σ H' B' F' Q fun v H2 B2 F2 s2 k => q v H2 B2 F2 (s.trans s2) k
/-- two comparisons -/
theorem ev_chain {R R' : R2} {b1 b2 : Bool} {tc : TE} (ha : EvX ra ta Γ Γ1 x) (hb : EvX rb tb Γ1 Γ2 y) (hc : b1 = true → EvX rc tc Γ2 Γ2 z)
    (h1 : ∀ (H B : Hp) (u v : V), Same B H → ra.rel B u x → rb.rel B v y → ∀ Q : VK, Q (.bl b1) H → R u v H Q) (h2 : b1 = true → ∀ (H B : Hp) (u v : V), Same B H → rb.rel B u y → rc.rel B v z → ∀ Q : VK, Q (.bl b2) H → R' u v H Q) :
    EvX rBool (tChain R R' ta tb tc) Γ Γ2 (b1 && b2) := fun A σ H B F Q q => ha A σ H B F _ fun u H1 B1 F1 s1 k1 => hb A σ H1 B1 F1 _ fun v H2 B2 F2 s2 k2 => h1 H2 B2 u v F2.bh (ra.mono s2 k1) k2 _ ⟨b1, rfl, by
      cases b1 with
      | false => exact q _ H2 B2 F2 (s1.trans s2) rfl
      | true => exact hc rfl A σ H2 B2 F2 _ fun w H3 B3 F3 s3 k3 => h2 rfl H3 B3 v w F3.bh (rb.mono s3 k2) k3 Q (q _ H3 B3 F3 ((s1.trans s2).trans s3) rfl)⟩
/-! ### arguments, displays -/
theorem ew_0 : EvW w0 tNil Γ Γ () := fun A σ H B F Q q => q _ H B F (Same.refl _) rfl
theorem ew_1 (h : EvX r ta Γ Γ1 a) : EvW (w1 r) (tCons ta tNil) Γ Γ1 a := fun A σ H B F Q q => h A σ H B F _ fun v H' B' F' s k => q _ H' B' F' s ⟨v, rfl, k⟩
theorem ew_C {w : Rw β} {tr : TA} (h : EvX r ta Γ Γ1 a) (hr : EvW w tr Γ1 Γ2 y) : EvW (wC r w) (tCons ta tr) Γ Γ2 (a, y) := fun A σ H B F Q q =>
  h A σ H B F _ fun v H' B' F' s k => hr A σ H' B' F' _ fun vs H2 B2 F2 s2 k2 => q _ H2 B2 F2 (s.trans s2) ⟨v, vs, rfl, r.mono s2 k, k2⟩
theorem eh_0 : EvH r tNil Γ Γ [] := fun A σ H B F Q q => q _ H B F (Same.refl _) .nil
theorem eh_C {tr : TA} {xs : List α} (h : EvX r ta Γ Γ1 a) (hr : EvH r tr Γ1 Γ2 xs) : EvH r (tCons ta tr) Γ Γ2 (a :: xs) := fun A σ H B F Q q =>
  h A σ H B F _ fun v H' B' F' s k => hr A σ H' B' F' _ fun vs H2 B2 F2 s2 k2 => q _ H2 B2 F2 (s.trans s2) (.cons (r.mono s2 k) k2)
theorem ec_fresh {H B : Hp} {A : Amb} {σ : L2.St} {p : Addr} {o : HO} (F : Frm A σ H B Γ) (hp : H p = none) (ho : szO o) {Q : VK} (q : ∀ p o H' B', Frm (A.add p o) σ H' B' Γ → A.H0 p = none → Same B B' → c.ok B' o a → Q (.ref p) H') (k : c.ok B o a) : Q (.ref p) (upd H p o) :=
  q p o _ B (F.fresh hp ho) (F.H0none hp) (Same.refl _) k
/-- how many there are -/
class WLen {α : Type} (w : Rw α) (n : outParam Nat) : Prop where
  len : ∀ {H vs a}, w.rel H vs a → vs.length = n
instance : WLen w0 0 := ⟨fun h => by rw [show _ = ([] : List V) from h]; rfl⟩
instance {α : Type} (r : Rp α) : WLen (w1 r) 1 := ⟨fun ⟨v, e, _⟩ => by rw [e]; rfl⟩
instance {α β : Type} (r : Rp α) (w : Rw β) {n : Nat} [i : WLen w n] : WLen (wC r w) (n + 1) := ⟨fun ⟨v, t, e, _, k⟩ => by rw [e, List.length_cons, i.len k]⟩
theorem ec_tup {n : Nat} [i : WLen w n] {ta : TA} (h : EvW w ta Γ Γ1 a) (hn : n ≤ 1000 := by decide) : EvC (cTup w) (tTup ta) Γ Γ1 a := fun A σ H B F Q q => h A σ H B F _ fun vs H' B' F' s k => by
  have hl : vs.length ≤ sizeLine := by rw [i.len k]; exact Nat.le_of_lt (small1000 hn)
  exact ⟨hl, fun p hp => ec_fresh (c := cTup w) (o := .tup vs) F' hp hl (fun p o H2 B2 F2 n2 s2 k2 => q p o H2 B2 F2 n2 (s.trans s2) k2) ⟨vs, rfl, k⟩⟩
theorem ec_hls {n : Nat} [i : WLen w n] {ta : TA} (h : EvW w ta Γ Γ1 a) (hn : n ≤ 1000 := by decide) : EvC (cHls w) (tLst ta) Γ Γ1 a := fun A σ H B F Q q => h A σ H B F _ fun vs H' B' F' s k => by
  have hl : vs.length ≤ sizeLine := by rw [i.len k]; exact Nat.le_of_lt (small1000 hn)
  exact ⟨hl, fun p hp => ec_fresh (c := cHls w) (o := .lst vs) F' hp hl (fun p o H2 B2 F2 n2 s2 k2 => q p o H2 B2 F2 n2 (s.trans s2) k2) ⟨vs, rfl, k⟩⟩
theorem ec_lst {ta : TA} {xs : List α} (h : EvH r ta Γ Γ1 xs) (hn : xs.length ≤ 1000 := by decide) : EvC (cLst r) (tLst ta) Γ Γ1 xs := fun A σ H B F Q q => h A σ H B F _ fun vs H' B' F' s k => by
  have hl : vs.length ≤ sizeLine := by rw [Paired.len k]; exact Nat.le_of_lt (small1000 hn)
  exact ⟨hl, fun p hp => ec_fresh (c := cLst r) (o := .lst vs) F' hp hl (fun p o H2 B2 F2 n2 s2 k2 => q p o H2 B2 F2 n2 (s.trans s2) k2) ⟨vs, rfl, k⟩⟩
theorem ec_tpl {ta : TA} {xs : List α} (h : EvH r ta Γ Γ1 xs) (hn : xs.length ≤ 1000 := by decide) : EvC (cTpl r) (tTup ta) Γ Γ1 xs := fun A σ H B F Q q => h A σ H B F _ fun vs H' B' F' s k => by
  have hl : vs.length ≤ sizeLine := by rw [Paired.len k]; exact Nat.le_of_lt (small1000 hn)
  exact ⟨hl, fun p hp => ec_fresh (c := cTpl r) (o := .tup vs) F' hp hl (fun p o H2 B2 F2 n2 s2 k2 => q p o H2 B2 F2 n2 (s.trans s2) k2) ⟨vs, rfl, k⟩⟩
/-- a new object that nobody will change -/
theorem ev_new (h : EvC c te Γ Γ1 a) : EvX (rOb c) te Γ Γ1 a := fun A σ H B F Q q => h A σ H B F Q fun p o H' B' F' n s k => by
  have hm : ¬ A.m p := fun m => F.mh p m n
  have hB : B' p = none := F'.out p (by show upd A.H0 p o p ≠ none; rw [upd_same]; simp) (by
    cases e : A.B0 p with
    | none => exact e
    | some u => exact absurd (F.sub p u e) (by rw [n]; simp))
  have s' : Same B' (upd B' p o) := fun b u e => by rw [upd_ne (ne_of_none e hB)]; exact e
  exact q _ H' (upd B' p o) (F'.adopt n F.sub F.mh) (s.trans s') ⟨p, o, rfl, upd_same, c.mono s' k⟩
/-! ### items -/
theorem atI_rel {B : Hp} {vs : List V} {xs : List α} {i : Int} (h : Paired (r.rel B) vs xs) (e : atI xs i = some a) : ∃ v, atI vs i = some v ∧ r.rel B v a := by
  unfold atI at e ⊢
  rw [Paired.len h]
  cases q : ixN xs.length i with
  | none => rw [q] at e; cases e
  | some j =>
    rw [q] at e
    exact Paired.getR h e
theorem ob_lst {B H : Hp} {u : V} {xs : List α} (s : Same B H) (h : (rLst r).rel B u xs) : ∃ p vs, u = .ref p ∧ H p = some (.lst vs) ∧ Paired (r.rel B) vs xs := by
  obtain ⟨p, o, e, hp, vs, rfl, k⟩ := h
  exact ⟨p, vs, e, s _ _ hp, k⟩
theorem ob_tpl {B H : Hp} {u : V} {xs : List α} (s : Same B H) (h : (rTpl r).rel B u xs) : ∃ p vs, u = .ref p ∧ H p = some (.tup vs) ∧ Paired (r.rel B) vs xs := by
  obtain ⟨p, o, e, hp, vs, rfl, k⟩ := h
  exact ⟨p, vs, e, s _ _ hp, k⟩
theorem ob_hls {B H : Hp} {u : V} (s : Same B H) (h : (rHls w).rel B u a) : ∃ p vs, u = .ref p ∧ H p = some (.lst vs) ∧ w.rel B vs a := by
  obtain ⟨p, o, e, hp, vs, rfl, k⟩ := h
  exact ⟨p, vs, e, s _ _ hp, k⟩
theorem ob_tup {B H : Hp} {u : V} (s : Same B H) (h : (rTup w).rel B u a) : ∃ p vs, u = .ref p ∧ H p = some (.tup vs) ∧ w.rel B vs a := by
  obtain ⟨p, o, e, hp, vs, rfl, k⟩ := h
  exact ⟨p, vs, e, s _ _ hp, k⟩
theorem ev_ixL {xs : List α} {i : Int} (ha : EvX (rLst r) ta Γ Γ1 xs) (hb : EvX rInt tb Γ1 Γ2 i) (e : atI xs i = some a) : EvX r (tOp (rIxL K) ta tb) Γ Γ2 a :=
  ev_op ha hb fun H B u v s ku kv Q q => by
    obtain ⟨p, vs, rfl, hp, k⟩ := ob_lst s ku
    obtain ⟨o, ho, ko⟩ := atI_rel k e
    exact ⟨p, vs, i, o, rfl, kv, SqL.of hp, ho, q o ko⟩
theorem ev_ixT {xs : List α} {i : Int} (ha : EvX (rTpl r) ta Γ Γ1 xs) (hb : EvX rInt tb Γ1 Γ2 i) (e : atI xs i = some a) : EvX r (tOp (rIxT K) ta tb) Γ Γ2 a :=
  ev_op ha hb fun H B u v s ku kv Q q => by
    obtain ⟨p, vs, rfl, hp, k⟩ := ob_tpl s ku
    obtain ⟨o, ho, ko⟩ := atI_rel k e
    exact ⟨p, vs, i, o, rfl, kv, SqT.of hp, ho, q o ko⟩
/-- the k-th of a row -/
def Acc {α β : Type} (w : Rw α) (k : Nat) (r : Rp β) (f : α → β) : Prop := ∀ H vs a, w.rel H vs a → ∃ v, vs[k]? = some v ∧ r.rel H v (f a)
theorem acc1 : Acc (w1 r) 0 r (fun a => a) := fun H vs a ⟨v, e, k⟩ => ⟨v, by rw [e]; rfl, k⟩
theorem acc0 {w : Rw β} : Acc (wC r w) 0 r (·.1) := fun H vs a ⟨v, t, e, k, _⟩ => ⟨v, by rw [e]; rfl, k⟩
theorem accS {w : Rw β} {k : Nat} {f : β → γ} (h : Acc w k rc f) : Acc (wC r w) (k + 1) rc (fun a => f a.2) := fun H vs a ⟨v, t, e, _, q⟩ => by
  obtain ⟨u, h1, h2⟩ := h H t a.2 q
  exact ⟨u, by rw [e]; simpa using h1, h2⟩
theorem ev_ixR {k : Nat} {f : α → β} (ha : EvX (rHls w) ta Γ Γ1 a) (h : Acc w k rb f) : EvX rb (tOp (rIxL K) ta (tC (.int (k : Int)))) Γ Γ1 (f a) :=
  ev_op ha (ev_int (Γ := Γ1)) fun H B u v s ku kv Q q => by
    obtain ⟨p, vs, rfl, hp, g⟩ := ob_hls s ku
    obtain ⟨o, ho, ko⟩ := h B vs a g
    exact ⟨p, vs, (k : Int), o, rfl, kv, SqL.of hp, atI_nat ho, q o ko⟩
theorem ev_ixU {k : Nat} {f : α → β} (ha : EvX (rTup w) ta Γ Γ1 a) (h : Acc w k rb f) : EvX rb (tOp (rIxT K) ta (tC (.int (k : Int)))) Γ Γ1 (f a) :=
  ev_op ha (ev_int (Γ := Γ1)) fun H B u v s ku kv Q q => by
    obtain ⟨p, vs, rfl, hp, g⟩ := ob_tup s ku
    obtain ⟨o, ho, ko⟩ := h B vs a g
    exact ⟨p, vs, (k : Int), o, rfl, kv, SqT.of hp, atI_nat ho, q o ko⟩
end
end G

set_option maxHeartbeats 4000000
/-! # G: statements, calls, loops -/
namespace G
open PySem PySem.Spec PyProof.Rows L2

/-- from what is known at Γ the wish P holds -/
def Nx (A : Amb) (P : L2.St → Hp → Prop) (Γ : List Sl) : Prop := ∀ σ H B, Frm A σ H B Γ → P σ H
/-- what is handed back -/
def Rt {ρ : Type} (A : Amb) (ψ : ρ → Hp → Hp → V → Prop) (b : ρ) (rt : VK) : Prop := ∀ H B v, Post A H B → ψ b H B v → rt v H
def psi {β : Type} (r : Rp β) (b : β) (_ B : Hp) (v : V) : Prop := r.rel B v b
def psiS {β γ : Type} (p : Addr) (c : Cl γ) (r : Rp β) (b : β × γ) (H B : Hp) (v : V) : Prop := r.rel B v b.1 ∧ ∃ o, H p = some o ∧ c.ok B o b.2
def Fin (A : Amb) (M : List Sl) : L2.St → Hp → Prop := fun σ H => ∃ B, Frm A σ H B M

section
variable {α β γ ρ ς : Type} {r ra : Rp α} {rb : Rp β} {c : Cl α} {cc : Cl γ} {w : Rw α} {te : TE} {tt : TT} {t u : TS} {D : Ends} {A : Amb} {Γ Γ1 Γ2 M : List Sl} {a : α} {b : β} {i : Nat} {K : PySem.W.Frag} {P : L2.St → Hp → Prop} {ψ : ρ → Hp → Hp → V → Prop}
theorem nx_seq (h : Nx A (t { D with nx := u D }) Γ) : Nx A (tSeq t u D) Γ := h
theorem nx_next (h : Nx A D.nx Γ) : Nx A (tNext D) Γ := h
theorem nx_brk (h : Nx A D.bk Γ) : Nx A (tBreak D) Γ := h
theorem nx_cont (h : Nx A D.ct Γ) : Nx A (tCont D) Γ := h
theorem nx_asg (h : EvX r te Γ Γ1 a) (k : Nx A D.nx (Γ1.set i (.imm r a))) : Nx A (tAsg te (gName i) D) Γ := fun σ H B F => h A σ H B F _ fun v H' B' F' _ q => k _ _ _ (F'.set q)
theorem nx_asgC (h : EvC c te Γ Γ1 a) (k : ∀ p, ¬ A.m p → Nx A D.nx (Γ1.set i (.cel p c a))) : Nx A (tAsg te (gName i) D) Γ := fun σ H B F => h A σ H B F _ fun p o H' B' F' n _ q =>
  k p (fun m => F.mh p m n) _ _ _ (F'.own n F.sub F.mh q)
theorem nx_if {b : Bool} (h : EvT tt Γ Γ1 b) (h1 : b = true → Nx A (t D) Γ1) (h2 : b = false → Nx A (u D) Γ1) : Nx A (tIfS tt t u D) Γ := fun σ H B F => h A σ H B F _ fun H' B' F' _ => by
  cases b with
  | true => exact h1 rfl σ H' B' F'
  | false => exact h2 rfl σ H' B' F'
theorem nx_drop (h : EvX r te Γ Γ1 a) (k : Nx A D.nx Γ1) : Nx A (tDrop te D) Γ := fun σ H B F => h A σ H B F _ fun v H' B' F' _ _ => k _ _ _ F'
theorem nx_ret {b : α} (h : EvX r te Γ Γ1 a) (e : some a = some b) (k : Rt A (psi r) b D.rt) : Nx A (tRet te D) Γ := fun σ H B F => h A σ H B F _ fun v H' B' F' _ q => k H' B' v F'.post (by cases e; exact q)
theorem nx_retS {p : Addr} {st : γ} {b : α × γ} (h : EvX r te Γ Γ1 a) (hi : Γ1[i]? = some (.cel p cc st)) (e : some (a, st) = some b) (k : Rt A (psiS p cc r) b D.rt) : Nx A (tRet te D) Γ := fun σ H B F => h A σ H B F _ fun v H' B' F' _ q => by
  obtain ⟨_, _, _, o, ho, ko⟩ := F'.sl i _ hi
  exact k H' B' v F'.post (by cases e; exact ⟨q, o, ho, ko⟩)
theorem nx_cut (M : List Sl) (h : Nx A (t { D with nx := Fin A M }) Γ) (k : Nx A (u D) M) : Nx A (Evl.tCut t u D) Γ := fun σ H B F => ⟨Fin A M, h σ H B F, fun σ' H' ⟨B', F'⟩ => k σ' H' B' F'⟩
theorem nx_fin : Nx A (Fin A M) M := fun σ H B F => ⟨B, F⟩
theorem nx_forget (i : Nat) (h : Nx A P (Γ.set i .no)) : Nx A P Γ := fun σ H B F => h σ H B (F.forget i)
theorem nx_eq (e : Γ = Γ1) (h : Nx A P Γ1) : Nx A P Γ := e ▸ h
/-- the frame's own object is changed no more -/
theorem Frm.freeze {σ : L2.St} {H B : Hp} {p : Addr} (F : Frm A σ H B Γ) (hp : ¬ A.m p) (e : Γ[i]? = some (.cel p c a)) : ∃ B', Same B B' ∧ Frm A σ H B' (Γ.set i (.imm (rOb c) a)) := by
  have hh := F.hot e (p := p) rfl
  obtain ⟨e1, n, m, o, ho, k⟩ := F.sl i _ e
  have m0 : A.H0 p = none := m.resolve_right hp
  have bb : Same B (upd B p o) := fun b u q => by rw [upd_ne (ne_of_none q n)]; exact q
  refine ⟨upd B p o, bb, ⟨fun b u q => ?_, fun b u q => bb b u (F.b0 b u q), F.keep, fun b nb z => ?_, F.alive, F.sub, F.mh, A.up _ _ bb F.ph, F.sz⟩, by rw [List.length_set]; exact F.len, fun j s ej => ?_, fun j l q ej ek => ?_⟩
  · by_cases hb : b = p
    · subst hb; rw [upd_same] at q; cases q; exact ho
    · rw [upd_ne hb] at q; exact F.bh b u q
  · have hb : b ≠ p := fun q => nb (by rw [q]; exact m0)
    rw [upd_ne hb]; exact F.out b nb z
  · rcases getset ej with ⟨rfl, rfl, hl⟩ | ⟨ne, ej⟩
    · exact ⟨.ref p, e1, p, o, rfl, upd_same, c.mono bb k⟩
    · refine slok_mono (F.sl j s ej) bb (fun _ _ _ z => z) fun q hq => ?_
      have hq' : q ≠ p := fun z => ne (F.ds i j p (by rw [e]; rfl) (by rw [ej, ← z]; exact hq))
      rw [upd_ne hq']; exact (F.hot ej hq).1
  · have lo : ∀ {j : Nat}, ((Γ.set i (.imm (rOb c) a))[j]?.bind celAt) = some q → (Γ[j]?.bind celAt) = some q := fun {j} ej => by
      cases e2 : (Γ.set i (.imm (rOb c) a))[j]? with
      | none => rw [e2] at ej; cases ej
      | some s =>
        rw [e2] at ej
        rcases getset e2 with ⟨rfl, rfl, hl⟩ | ⟨ne, e2⟩
        · cases ej
        · rw [e2]; exact ej
    exact F.ds j l q (lo ej) (lo ek)
theorem nx_freeze {p : Addr} (i : Nat) (hp : ¬ A.m p) (e : Γ[i]? = some (.cel p c a)) (h : Nx A P (Γ.set i (.imm (rOb c) a))) : Nx A P Γ := fun σ H B F => by
  obtain ⟨B', _, F'⟩ := F.freeze hp e
  exact h σ H B' F'
end

/-! ### calls -/
def amb0 (B H : Hp) : Amb := ⟨B, H, fun _ => False, fun _ => True, fun _ _ _ _ => trivial⟩
def ambS (B H : Hp) (p : Addr) : Amb := ⟨B, H, fun q => q = p, fun _ => True, fun _ _ _ _ => trivial⟩
def SpP {α β : Type} (w : Rw α) (r : Rp β) (m : α → Option β) : Sp := fun vs H Q _ => ∃ B a b, Sz H ∧ Same B H ∧ w.rel B vs a ∧ m a = some b ∧ Rt (amb0 B H) (psi r) b Q
def SpS {α β γ : Type} (c : Cl γ) (w : Rw α) (r : Rp β) (m : γ → α → Option (β × γ)) : Sp := fun vs H Q _ => ∃ p vs' B o st a b, vs = .ref p :: vs' ∧ Sz H ∧ Same B H ∧ B p = none ∧ H p = some o ∧ c.ok B o st ∧ w.rel B vs' a ∧ m st a = some b ∧ Rt (ambS B H p) (psiS p c r) b Q
section
variable {α β γ : Type} {r : Rp β} {w : Rw α} {cc : Cl γ} {A : Amb} {σ : L2.St} {H H' B B' : Hp} {Γ Γ1 : List Sl} {i : Nat} {p : Addr} {st st' : γ}
theorem Frm.after (F : Frm A σ H B Γ) (P : Post (amb0 B H) H' B') : Frm A σ H' B' Γ where
  bh := P.bh
  b0 := fun p o e => P.b0 p o (F.b0 p o e)
  keep := fun p o m e => P.keep p o (fun z => z) (F.keep p o m e)
  out := fun p n z => P.out p (F.alive p n) (F.out p n z)
  alive := fun p n => P.alive p (F.alive p n)
  sub := F.sub
  mh := F.mh
  ph := A.up _ _ P.b0 F.ph
  sz := P.sz
  len := F.len
  sl := fun i s e => slok_mono (F.sl i s e) P.b0 (fun p o _ ho => P.keep p o (fun z => z) ho) fun p hp => P.out p (F.hot e hp).2.1 (F.hot e hp).1
  ds := F.ds
theorem Frm.afterS (F : Frm A σ H B Γ) (hi : Γ[i]? = some (.cel p cc st)) (P : Post (ambS B H p) H' B') (k : ∃ o, H' p = some o ∧ cc.ok B' o st') : Frm A σ H' B' (Γ.set i (.cel p cc st')) := by
  have hh := F.hot hi (p := p) rfl
  obtain ⟨e1, n, m, _⟩ := F.sl i _ hi
  refine ⟨⟨P.bh, fun p o e => P.b0 p o (F.b0 p o e), fun q o nm e => P.keep q o (fun z => ?_) (F.keep q o nm e), fun p n z => P.out p (F.alive p n) (F.out p n z), fun p n => P.alive p (F.alive p n), F.sub, F.mh, A.up _ _ P.b0 F.ph, P.sz⟩, by rw [List.length_set]; exact F.len, fun j s ej => ?_, fun j l q ej ek => ?_⟩
  · have z' : q = p := z
    subst z'
    rcases m with m | m
    · rw [m] at e; cases e
    · exact nm m
  · rcases getset ej with ⟨rfl, rfl, hl⟩ | ⟨ne, ej⟩
    · exact ⟨e1, P.out p hh.2.1 hh.1, m, k⟩
    · exact slok_mono (F.sl j s ej) P.b0 (fun q o hq ho => P.keep q o (fun (z : q = p) => ne (F.ds i j p (by rw [hi]; rfl) (by rw [ej, ← z]; exact hq))) ho) fun q hq => P.out q (F.hot ej hq).2.1 (F.hot ej hq).1
  · have lo : ∀ {j : Nat}, ((Γ.set i (.cel p cc st'))[j]?.bind celAt) = some q → (Γ[j]?.bind celAt) = some q := fun {j} ej => by
      cases e2 : (Γ.set i (.cel p cc st'))[j]? with
      | none => rw [e2] at ej; cases ej
      | some s =>
        rw [e2] at ej
        rcases getset e2 with ⟨rfl, rfl, hl⟩ | ⟨ne, e2⟩
        · rw [hi]; exact ej
        · rw [e2]; exact ej
    exact F.ds j l q (lo ej) (lo ek)
theorem ev_call {m : α → Option β} {a : α} {b : β} {E : XK} {ta : TA} (h : EvW w ta Γ Γ1 a) (e : m a = some b) : EvX r (tCall (SpP w r m) [] E ta) Γ Γ1 b := fun A σ H B F Q q => h A σ H B F _ fun vs H1 B1 F1 s1 k1 => by
  rw [List.append_nil]
  exact ⟨B1, a, b, F1.sz, F1.bh, k1, e, fun H2 B2 v P k => q v H2 B2 (F1.after P) (s1.trans P.b0) k⟩
theorem ev_callS {m : γ → α → Option (β × γ)} {a : α} {b : β} {E : XK} {tr : TA} (h : EvW w tr Γ Γ1 a) (hi0 : Γ[i]?.bind celAt = some p) (hi : Γ1[i]? = some (.cel p cc st)) (e : m st a = some (b, st')) : EvX r (tCall (SpS cc w r m) [] E (tCons (tVar i) tr)) Γ (Γ1.set i (.cel p cc st')) b :=
  fun A σ H B F Q q => by
    have hv : σ[i]? = some (some (V.ref p)) := by
      cases e : Γ[i]? with
      | none => rw [e] at hi0; cases hi0
      | some s =>
        rw [e] at hi0
        have h := F.sl i s e
        cases s with
        | no => cases hi0
        | imm r a => cases hi0
        | cel q c a => cases hi0; exact h.1
    refine ⟨_, hv, ?_⟩
    refine h A σ H B F _ fun vs H1 B1 F1 s1 k1 => ?_
    show SpS cc w r m ((V.ref p :: vs) ++ []) H1 Q E
    rw [List.append_nil]
    obtain ⟨_, n, m, o, ho, ko⟩ := F1.sl i _ hi
    exact ⟨p, vs, B1, o, st, a, (b, st'), rfl, F1.sz, F1.bh, n, ho, ko, k1, e, fun H2 B2 v P k => q v H2 B2 (F1.afterS hi P k.2) (s1.trans P.b0) k.1⟩
end

/-! ### a def -/
class WSl {α : Type} (w : Rw α) (f : outParam (α → List Sl)) : Prop where
  ok : ∀ {B vs a}, w.rel B vs a → (f a).length = vs.length ∧ ∀ (i : Nat) (s : Sl), (f a)[i]? = some s → celAt s = none ∧ ∀ (A : Amb) (σ : L2.St) (H : Hp), (∀ v, vs[i]? = some v → σ[i]? = some (some v)) → SlOk A σ H B i s
instance : WSl w0 (fun _ => []) := ⟨fun h => ⟨by rw [show _ = ([] : List V) from h]; rfl, fun i s e => by simp at e⟩⟩
instance {α : Type} (r : Rp α) : WSl (w1 r) (fun a => [.imm r a]) := ⟨fun {B vs a} ⟨v, e, k⟩ => ⟨by rw [e]; rfl, fun i s q => by
  cases i with
  | zero => cases q; exact ⟨rfl, fun A σ H h => ⟨v, h v (by rw [e]; rfl), k⟩⟩
  | succ i => simp at q⟩⟩
theorem slok_shift {A : Amb} {σ σ' : L2.St} {H B : Hp} {i j : Nat} {s : Sl} (h : SlOk A σ H B i s) (e : σ[i]? = σ'[j]?) : SlOk A σ' H B j s := by
  cases s with
  | no => trivial
  | imm r a => obtain ⟨v, q, k⟩ := h; exact ⟨v, by rw [← e]; exact q, k⟩
  | cel p c a => obtain ⟨q, k⟩ := h; exact ⟨by rw [← e]; exact q, k⟩
instance {α β : Type} (r : Rp α) (w : Rw β) {f : β → List Sl} [k : WSl w f] : WSl (wC r w) (fun a => .imm r a.1 :: f a.2) := ⟨fun {B vs a} ⟨v, t, e, k1, k2⟩ => by
  obtain ⟨hl, hs⟩ := k.ok k2
  refine ⟨by rw [e, List.length_cons, List.length_cons, hl], fun i s q => ?_⟩
  cases i with
  | zero => cases q; exact ⟨rfl, fun A σ H h => ⟨v, h v (by rw [e]; rfl), k1⟩⟩
  | succ i =>
    obtain ⟨h1, h2⟩ := hs i s (by simpa using q)
    refine ⟨h1, fun A σ H h => ?_⟩
    have g := h2 A σ.tail H (fun u hu => by
      have := h u (by rw [e]; simpa using hu)
      cases σ with
      | nil => simp at this
      | cons x y => simpa using this)
    exact slok_shift g (by cases σ <;> simp)⟩
theorem start_get {N : List Str} {vs : List V} {i : Nat} {v : V} (e : vs[i]? = some v) : (L2.start N vs)[i]? = some (some v) := by
  unfold L2.start
  have hl : i < (vs.map some).length := by rw [List.length_map]; exact (List.getElem?_eq_some_iff.mp e).1
  rw [List.getElem?_append_left hl, List.getElem?_map, e]; rfl
theorem start_len {N : List Str} {vs : List V} (h : vs.length ≤ N.length) : (L2.start N vs).length = N.length := by
  unfold L2.start
  rw [List.length_append, List.length_map, List.length_replicate]; omega
section
variable {α β γ : Type} {r : Rp β} {w : Rw α} {cc : Cl γ}
theorem frm_start {f : α → List Sl} [k : WSl w f] {B H : Hp} {vs : List V} {a : α} {N : List Str} {n : Nat} (z : Sz H) (s : Same B H) (h : w.rel B vs a) (hN : N.length = vs.length + n) : Frm (amb0 B H) (L2.start N vs) H B (f a ++ List.replicate n .no) := by
  obtain ⟨hl, hs⟩ := k.ok h
  have sp : ∀ (i : Nat) (s : Sl), (f a ++ List.replicate n .no)[i]? = some s → (f a)[i]? = some s ∨ s = .no := fun i s e => by
    by_cases hi : i < (f a).length
    · rw [List.getElem?_append_left hi] at e; exact .inl e
    · rw [List.getElem?_append_right (by omega), List.getElem?_replicate] at e
      split at e
      · cases e; exact .inr rfl
      · cases e
  refine ⟨⟨s, Same.refl _, fun _ _ _ e => e, fun _ _ e => e, fun _ n => n, s, fun _ z => z.elim, trivial, z⟩, ?_, fun i s e => ?_, fun i j p ei ej => ?_⟩
  · rw [start_len (by omega), List.length_append, List.length_replicate, hl]; exact hN
  · rcases sp i s e with e | rfl
    · exact (hs i s e).2 _ _ _ fun v hv => start_get hv
    · trivial
  · cases e : (f a ++ List.replicate n .no)[i]? with
    | none => rw [e] at ei; cases ei
    | some s =>
      rw [e] at ei
      rcases sp i s e with e | rfl
      · have ei' : celAt s = some p := ei
        rw [(hs i s e).1] at ei'; cases ei'
      · cases ei
theorem frm_startS {f : α → List Sl} [k : WSl w f] {B H : Hp} {vs : List V} {a : α} {N : List Str} {n : Nat} {p : Addr} {o : HO} {st : γ} (z : Sz H) (s : Same B H) (hB : B p = none) (hp : H p = some o) (ko : cc.ok B o st) (h : w.rel B vs a) (hN : N.length = (vs.length + 1) + n) :
    Frm (ambS B H p) (L2.start N (.ref p :: vs)) H B (.cel p cc st :: (f a ++ List.replicate n .no)) := by
  obtain ⟨hl, hs⟩ := k.ok h
  have sp : ∀ (i : Nat) (s : Sl), (f a ++ List.replicate n .no)[i]? = some s → (f a)[i]? = some s ∨ s = .no := fun i s e => by
    by_cases hi : i < (f a).length
    · rw [List.getElem?_append_left hi] at e; exact .inl e
    · rw [List.getElem?_append_right (by omega), List.getElem?_replicate] at e
      split at e
      · cases e; exact .inr rfl
      · cases e
  have nc : ∀ (i : Nat) (q : Addr), ((f a ++ List.replicate n .no)[i]?.bind celAt) ≠ some q := fun i q ei => by
    cases e : (f a ++ List.replicate n .no)[i]? with
    | none => rw [e] at ei; cases ei
    | some s =>
      rw [e] at ei
      rcases sp i s e with e | rfl
      · have ei' : celAt s = some q := ei
        rw [(hs i s e).1] at ei'; cases ei'
      · cases ei
  refine ⟨⟨s, Same.refl _, fun _ _ _ e => e, fun _ _ e => e, fun _ n => n, s, fun q (z : q = p) => by show H q ≠ none; rw [z, hp]; simp, trivial, z⟩, ?_, fun i s e => ?_, fun i j q ei ej => ?_⟩
  · rw [start_len (by rw [List.length_cons]; omega), List.length_cons, List.length_append, List.length_replicate, hl, hN]; omega
  · cases i with
    | zero => cases e; exact ⟨start_get rfl, hB, .inr rfl, o, hp, ko⟩
    | succ i =>
      rcases sp i s (by simpa using e) with e | rfl
      · have hN' : ∃ N', (L2.start N (.ref p :: vs)) = some (.ref p) :: L2.start N' vs := ⟨N.drop 1, by
          unfold L2.start
          rw [List.map_cons, List.cons_append, List.length_cons, List.length_drop]
          congr 3; omega⟩
        obtain ⟨N', e'⟩ := hN'
        exact slok_shift ((hs i s e).2 _ (L2.start N' vs) H fun v hv => start_get hv) (by rw [e']; simp)
      · trivial
  · cases i with
    | zero => cases j with
      | zero => rfl
      | succ j => exact absurd (by simpa using ej) (nc j q)
    | succ i => exact absurd (by simpa using ei) (nc i q)
end
end G

set_option maxHeartbeats 4000000
/-! # G: loops -/
namespace G
open PySem PySem.Spec PyProof.Rows L2

/-! ### the mirrors of loops -/
inductive Step (ρ ς : Type) where
  | nx (s : ς)
  | brk (s : ς)
  | ret (b : ρ)
def forL {α ρ ς : Type} (f : α → ς → Option (Step ρ ς)) : List α → ς → Option (Step ρ ς)
  | [], s => some (.nx s)
  | x :: xs, s => match f x s with
    | none => none
    | some (.nx s') => forL f xs s'
    | some (.brk s') => some (.nx s')
    | some (.ret b) => some (.ret b)
def whL {ρ ς : Type} (c : ς → Option Bool) (f : ς → Option (Step ρ ς)) : Nat → ς → Option (Step ρ ς)
  | 0, _ => none
  | n + 1, s => match c s with
    | none => none
    | some false => some (.nx s)
    | some true => match f s with
      | none => none
      | some (.nx s') => whL c f n s'
      | some (.brk s') => some (.nx s')
      | some (.ret b) => some (.ret b)
def compL {α β : Type} (f : α → Option (Option β)) : List α → Option (List β)
  | [] => some []
  | x :: xs => match f x with
    | none => none
    | some none => compL f xs
    | some (some y) => match compL f xs with
      | none => none
      | some ys => some (y :: ys)
def compS {α β ς : Type} (f : α → ς → Option (Option β × ς)) : List α → ς → Option (List β × ς)
  | [], s => some ([], s)
  | x :: xs, s => match f x s with
    | none => none
    | some (none, s') => compS f xs s'
    | some (some y, s') => match compS f xs s' with
      | none => none
      | some (ys, s'') => some (y :: ys, s'')

/-! ### what is walked -/
structure Yl {α : Type} (Bx : Hp) (J : It) (r : Rp α) (xs : List α) : Prop where
  len : xs.length ≤ sizeLine
  stop : ∀ H B, Same Bx B → Same B H → J.stop xs.length H
  go : ∀ i H B, Same Bx B → Same B H → i < xs.length → J.go i H
  yld : ∀ (i : Nat) (x : α) H B v H', Same Bx B → Same B H → xs[i]? = some x → J.yld i H v H' → ∀ (A : Amb) (σ : L2.St) (Γ : List Sl), Frm A σ H B Γ → ∃ B', Frm A σ H' B' Γ ∧ Same B B' ∧ r.rel B' v x
def ItX {α : Type} (r : Rp α) (wi : TI) (Γ Γ' : List Sl) (xs : List α) : Prop := ∀ (A : Amb) (σ : L2.St) (H B : Hp), Frm A σ H B Γ → ∀ R : It → Hp → Prop, (∀ J H' B', Frm A σ H' B' Γ' → Same B B' → Yl B' J r xs → R J H') → wi σ H R
/-- the target of a store -/
def TgX {α : Type} (g : TG) (r : Rp α) (vs : List Nat) (Γ : List Sl) (Γf : α → List Sl) : Prop := ∀ (A : Amb) (σ : L2.St) (H B : Hp) (v : V) (x : α), Frm A σ H B Γ → r.rel B v x → ∀ Q : L2.St → Hp → Prop,
  (∀ σ', Frm A σ' H B (Γf x) → σ'.length = σ.length → (∀ k, k ∉ vs → σ'[k]? = σ[k]?) → Q σ' H) → g v σ H Q
section
variable {α β γ ρ ς : Type} {r ra : Rp α} {rb : Rp β} {te ta tb : TE} {Γ Γ1 Γ2 : List Sl} {xs : List α} {K : PySem.W.Frag}
theorem it_list (h : EvX (rLst r) te Γ Γ1 xs) : ItX r (iList K te) Γ Γ1 xs := fun A σ H B F R q => h A σ H B F _ fun v H' B' F' s k => by
  obtain ⟨p, o, rfl, hp, vs, rfl, kp⟩ := k
  refine ⟨p, rfl, ⟨vs, SqL.of (F'.bh _ _ hp)⟩, q _ H' B' F' s ⟨by rw [← Paired.len kp]; exact F'.sz _ _ (F'.bh _ _ hp), fun H2 B2 s1 s2 => ?_, fun i H2 B2 s1 s2 hi => ?_, fun i x H2 B2 v H3 s1 s2 hx hy A σ Γ F => ?_⟩⟩
  · exact ⟨vs, SqL.of (s2 _ _ (s1 _ _ hp)), by rw [Paired.len kp]; exact Nat.le_refl _⟩
  · obtain ⟨y, hy⟩ : ∃ y, vs[i]? = some y := ⟨_, List.getElem?_eq_getElem (by rw [Paired.len kp]; exact hi)⟩
    exact ⟨vs, y, SqL.of (s2 _ _ (s1 _ _ hp)), hy⟩
  · obtain ⟨rfl, hv⟩ := hy
    obtain ⟨y, hy, ky⟩ := Paired.getR kp hx
    have e := hv vs (SqL.of (s2 _ _ (s1 _ _ hp)))
    rw [hy] at e; cases e
    exact ⟨B2, F, Same.refl _, r.mono s1 ky⟩
theorem it_tpl (h : EvX (rTpl r) te Γ Γ1 xs) : ItX r (iTup K te) Γ Γ1 xs := fun A σ H B F R q => h A σ H B F _ fun v H' B' F' s k => by
  obtain ⟨p, o, rfl, hp, vs, rfl, kp⟩ := k
  refine ⟨p, rfl, ⟨vs, SqT.of (F'.bh _ _ hp)⟩, q _ H' B' F' s ⟨by rw [← Paired.len kp]; exact F'.sz _ _ (F'.bh _ _ hp), fun H2 B2 s1 s2 => ?_, fun i H2 B2 s1 s2 hi => ?_, fun i x H2 B2 v H3 s1 s2 hx hy A σ Γ F => ?_⟩⟩
  · exact ⟨vs, SqT.of (s2 _ _ (s1 _ _ hp)), by rw [Paired.len kp]; exact Nat.le_refl _⟩
  · obtain ⟨y, hy⟩ : ∃ y, vs[i]? = some y := ⟨_, List.getElem?_eq_getElem (by rw [Paired.len kp]; exact hi)⟩
    exact ⟨vs, y, SqT.of (s2 _ _ (s1 _ _ hp)), hy⟩
  · obtain ⟨rfl, hv⟩ := hy
    obtain ⟨y, hy, ky⟩ := Paired.getR kp hx
    have e := hv vs (SqT.of (s2 _ _ (s1 _ _ hp)))
    rw [hy] at e; cases e
    exact ⟨B2, F, Same.refl _, r.mono s1 ky⟩
/-- lo, lo + 1, .. -/
def rng (lo : Int) (n : Nat) : List Int := (List.range n).map fun (i : Nat) => lo + (i : Int)
theorem rng_len (lo : Int) (n : Nat) : (rng lo n).length = n := by unfold rng; rw [List.length_map, List.length_range]
theorem rng_get {lo : Int} {n i : Nat} {x : Int} (h : (rng lo n)[i]? = some x) : i < n ∧ x = lo + (i : Int) := by
  unfold rng at h
  rw [List.getElem?_map] at h
  cases e : (List.range n)[i]? with
  | none => rw [e] at h; cases h
  | some j =>
    rw [e] at h
    have hl : i < n := by have := (List.getElem?_eq_some_iff.mp e).1; rwa [List.length_range] at this
    rw [List.getElem?_range hl] at e
    cases e; cases h
    exact ⟨hl, rfl⟩
theorem yl_rng {Bx : Hp} {lo : Int} {n : Nat} (hn : n ≤ 1000000) : Yl Bx (Itr lo n) rInt (rng lo n) := ⟨by rw [rng_len]; exact Nat.le_trans hn (by decide), fun H B _ _ => by rw [rng_len]; exact Nat.le_refl _, fun i H B _ _ hi => by rw [rng_len] at hi; exact hi, fun i x H B v H' _ _ hx hy A σ Γ F => by
  obtain ⟨rfl, e⟩ := hy
  exact ⟨B, F, Same.refl _, by rw [(rng_get hx).2]; exact e⟩⟩
/-- range(j) -/
def pyRng (j : Int) : Option (List Int) := if -(2 ^ 62) ≤ j ∧ j ≤ 1000000 then some (rng 0 j.toNat) else none
def pyRng2 (i j : Int) : Option (List Int) := if (-(2 ^ 62) ≤ i ∧ i < 2 ^ 62 ∧ -(2 ^ 62) ≤ j ∧ j < 2 ^ 62) ∧ j - i ≤ 1000000 then some (rng i (j - i).toNat) else none
theorem it_rng1 {ta : TA} {j : Int} {l : List Int} (h : EvW (w1 rInt) ta Γ Γ1 j) (e : pyRng j = some l) : ItX rInt (iRng1 ta) Γ Γ1 l := fun A σ H B F R q => h A σ H B F _ fun vs H' B' F' s k => by
  obtain ⟨v, rfl, rfl⟩ := k
  unfold pyRng at e
  split at e
  · rename_i hj
    cases e
    exact ⟨j, rfl, hj.1, by omega, q _ H' B' F' s (yl_rng (by omega))⟩
  · cases e
theorem it_rng2 {ta : TA} {i j : Int} {l : List Int} (h : EvW (wC rInt (w1 rInt)) ta Γ Γ1 (i, j)) (e : pyRng2 i j = some l) : ItX rInt (iRng2 ta) Γ Γ1 l := fun A σ H B F R q => h A σ H B F _ fun vs H' B' F' s k => by
  obtain ⟨v, t, rfl, rfl, u, rfl, rfl⟩ := k
  unfold pyRng2 at e
  split at e
  · rename_i hj
    cases e
    exact ⟨i, j, rfl, hj.1, q _ H' B' F' s (yl_rng (by omega))⟩
  · cases e
/-- a text's signs -/
def sgn (z : Str) : List Str := z.cps.toList.map fun c => (⟨#[c]⟩ : Str)
def pySgn (z : Str) : Option (List Str) := if z.length ≤ 1000000 then some (sgn z) else none
theorem it_str {z : Str} {l : List Str} (h : EvX rStr te Γ Γ1 z) (e : pySgn z = some l) : ItX rStr (iStr te) Γ Γ1 l := fun A σ H B F R q => h A σ H B F _ fun v H' B' F' s k => by
  unfold pySgn at e
  split at e <;> cases e
  rename_i hz
  refine ⟨z, k, q _ H' B' F' s ⟨by unfold sgn; rw [List.length_map, Array.length_toList]; exact Nat.le_trans hz (by decide), fun H2 B2 _ _ => ?_, fun i H2 B2 _ _ hi => ?_, fun i x H2 B2 v H3 _ _ hx hy A σ Γ F => ?_⟩⟩
  · unfold sgn; rw [List.length_map]; first | exact rfl | exact Nat.le_refl _ | (simp [Its, Str.length])
  · unfold sgn at hi; rw [List.length_map] at hi; simpa [Its, Str.length] using hi
  · unfold sgn at hx
    rw [List.getElem?_map] at hx
    obtain ⟨rfl, hv⟩ := hy
    obtain ⟨c, hc, ev⟩ := hv
    have hc' : z.cps.toList[i]? = some c := by first | exact hc | simpa using hc
    rw [hc'] at hx
    cases hx
    exact ⟨B2, F, Same.refl _, ev⟩
/-! ### targets -/
theorem tg_name {j : Nat} : TgX (gName j) r [j] Γ (fun x => Γ.set j (.imm r x)) := fun A σ H B v x F k Q q => q _ (F.set k) (by rw [List.length_set]) fun n hn => by
  rw [List.getElem?_set_ne (fun e => hn (by rw [e]; exact List.mem_singleton.mpr rfl))]
/-- a tuple's parts -/
def TgW {α : Type} (g : TGs) (w : Rw α) (vs : List Nat) (Γ : List Sl) (Γf : α → List Sl) : Prop := ∀ (A : Amb) (σ : L2.St) (H B : Hp) (us : List V) (x : α), Frm A σ H B Γ → w.rel B us x → ∀ Q : L2.St → Hp → Prop,
  (∀ σ', Frm A σ' H B (Γf x) → σ'.length = σ.length → (∀ k, k ∉ vs → σ'[k]? = σ[k]?) → Q σ' H) → g us σ H Q
theorem tw_1 {g : TG} {vs : List Nat} {Γf : α → List Sl} (h : TgX g r vs Γ Γf) : TgW (gCons g gNil) (w1 r) vs Γ Γf := fun A σ H B us x F k Q q => by
  obtain ⟨v, rfl, k⟩ := k
  exact ⟨v, [], rfl, h A σ H B v x F k _ fun σ' F' l d => ⟨rfl, q σ' F' l d⟩⟩
theorem tw_C {g : TG} {gs : TGs} {w : Rw β} {vs ws : List Nat} {Γf : α → List Sl} {Γg : α → β → List Sl} (h : TgX g r vs Γ Γf) (hr : ∀ x, TgW gs w ws (Γf x) (Γg x)) : TgW (gCons g gs) (wC r w) (vs ++ ws) Γ (fun x => Γg x.1 x.2) := fun A σ H B us x F k Q q => by
  obtain ⟨v, t, rfl, k1, k2⟩ := k
  exact ⟨v, t, rfl, h A σ H B v x.1 F k1 _ fun σ' F' l d => hr x.1 A σ' H B t x.2 F' k2 _ fun σ2 F2 l2 d2 => q σ2 F2 (l2.trans l) fun k hk =>
    (d2 k fun z => hk (List.mem_append_right _ z)).trans (d k fun z => hk (List.mem_append_left _ z))⟩
theorem tg_tup {g : TGs} {n m : Nat} {w : Rw α} [i : WLen w m] {vs : List Nat} {Γf : α → List Sl} (h : TgW g w vs Γ Γf) (e : m = n := by rfl) : TgX (gTup K n g) (rTup w) vs Γ Γf := fun A σ H B v x F k Q q => by
  obtain ⟨p, us, rfl, hp, kw⟩ := ob_tup F.bh k
  exact ⟨p, us, rfl, SqT.of hp, (i.len kw).trans e, h A σ H B us x F kw Q q⟩
theorem nx_asgT {A : Amb} {D : Ends} {g : TG} {vs : List Nat} {Γf : α → List Sl} {a : α} (h : EvX r te Γ Γ1 a) (hg : TgX g r vs Γ1 Γf) (k : Nx A D.nx (Γf a)) : Nx A (tAsg te g D) Γ := fun σ H B F => h A σ H B F _ fun v H' B' F' _ q =>
  hg A σ H' B' v a F' q _ fun σ' F2 _ _ => k σ' H' B' F2

/-! ### for -/
def Amb.and (A : Amb) (Bx : Hp) : Amb := ⟨A.B0, A.H0, A.m, fun B => A.φ B ∧ Same Bx B, fun B B' s h => ⟨A.up B B' s h.1, h.2.trans s⟩⟩
theorem Post.and {A : Amb} {H B Bx : Hp} (P : Post A H B) (s : Same Bx B) : Post (A.and Bx) H B := ⟨P.bh, P.b0, P.keep, P.out, P.alive, P.sub, P.mh, ⟨P.ph, s⟩, P.sz⟩
theorem Post.unand {A : Amb} {H B Bx : Hp} (P : Post (A.and Bx) H B) : Post A H B := ⟨P.bh, P.b0, P.keep, P.out, P.alive, P.sub, P.mh, P.ph.1, P.sz⟩
theorem Frm.and {A : Amb} {σ : L2.St} {H B Bx : Hp} {Γ : List Sl} (F : Frm A σ H B Γ) (s : Same Bx B) : Frm (A.and Bx) σ H B Γ := ⟨F.post.and s, F.len, fun i s e => F.sl i s e, F.ds⟩
theorem Frm.unand {A : Amb} {σ : L2.St} {H B Bx : Hp} {Γ : List Sl} (F : Frm (A.and Bx) σ H B Γ) : Frm A σ H B Γ := ⟨F.post.unand, F.len, fun i s e => F.sl i s e, F.ds⟩
/-- what a body must do: from s with the step st -/
structure Conts {ρ ς : Type} (A : Amb) (ψ : ρ → Hp → Hp → V → Prop) (D : Ends) (mk : ς → List Sl) (st : Step ρ ς) : Prop where
  nx : ∀ s, st = .nx s → Nx A D.nx (mk s)
  ct : ∀ s, st = .nx s → Nx A D.ct (mk s)
  bk : ∀ s, st = .brk s → Nx A D.bk (mk s)
  rt : ∀ b, st = .ret b → Rt A ψ b D.rt
theorem nx_for {A : Amb} {ψ : ρ → Hp → Hp → V → Prop} {wi : TI} {g : TG} {tb : TS} {D : Ends} {vs : List Nat} (f : α → ς → Option (Step ρ ς)) (mk : ς → List Sl) {Γf : α → ς → List Sl} {s0 : ς} {R0 : Step ρ ς}
    (hi : ItX r wi Γ Γ1 xs) (e : forL f xs s0 = some R0) (h0 : ∀ A' : Amb, A'.m = A.m → Nx A' (Fin A' (mk s0)) Γ1)
    (hg : ∀ s, TgX g r vs (mk s) (fun x => Γf x s))
    (hb : ∀ (A' : Amb) (D' : Ends) (x : α) (s : ς) (st : Step ρ ς), A'.m = A.m → f x s = some st → Conts A' ψ D' mk st → Nx A' (tb D') (Γf x s))
    (hr : ∀ b, R0 = .ret b → Rt A ψ b D.rt) (hd : ∀ s, R0 = .nx s → Nx A D.nx (mk s)) : Nx A (tFor wi g tb D) Γ := fun σ H B F => by
  refine hi A σ H B F _ fun J H1 B1 F1 s1 Y => ?_
  refine ⟨fun i m σ H => m = xs.length - i ∧ i ≤ xs.length ∧ ∃ B s, Frm (A.and B1) σ H B (mk s) ∧ forL f (xs.drop i) s = some R0, ?_, ?_⟩
  · obtain ⟨B2, F2⟩ := h0 (A.and B1) rfl σ H1 B1 (F1.and (Same.refl _))
    exact ⟨_, rfl, Nat.zero_le _, B2, s0, F2, by rw [List.drop_zero]; exact e⟩
  · rintro i m σ2 H2 ⟨rfl, hi, B2, s2, F2, e2⟩
    by_cases hlt : i < xs.length
    · right
      have hx : xs[i]? = some xs[i] := List.getElem?_eq_getElem hlt
      rw [List.drop_eq_getElem_cons hlt] at e2
      refine ⟨Y.go i H2 B2 F2.ph.2 F2.bh hlt, fun σ3 H3 => ∃ s3, Fin (A.and B1) (mk s3) σ3 H3 ∧ forL f (xs.drop (i + 1)) s3 = some R0, fun σ3 H3 ⟨s3, ⟨B3, F3⟩, e3⟩ => ⟨_, by omega, rfl, by omega, B3, s3, F3, e3⟩, fun v H3 hy => ?_⟩
      obtain ⟨B3, F3, s3, k3⟩ := Y.yld i _ H2 B2 v H3 F2.ph.2 F2.bh hx hy (A.and B1) σ2 (mk s2) F2
      refine hg s2 (A.and B1) σ2 H3 B3 v xs[i] F3 k3 _ fun σ4 F4 _ _ => ?_
      unfold forL at e2
      cases q : f xs[i] s2 with
      | none => rw [q] at e2; cases e2
      | some st =>
        rw [q] at e2
        refine hb (A.and B1) _ xs[i] s2 st rfl q ⟨fun s5 z => ?_, fun s5 z => ?_, fun s5 z => ?_, fun b z => ?_⟩ σ4 H3 B3 F4
        · subst z
          exact fun σ5 H5 B5 F5 => ⟨s5, ⟨B5, F5⟩, e2⟩
        · subst z
          exact fun σ5 H5 B5 F5 => ⟨s5, ⟨B5, F5⟩, e2⟩
        · subst z
          exact fun σ5 H5 B5 F5 => hd s5 (Option.some.inj e2).symm σ5 H5 B5 F5.unand
        · subst z
          exact fun H5 B5 v5 P5 k5 => hr b (Option.some.inj e2).symm H5 B5 v5 P5.unand k5
    · left
      have hil : i = xs.length := by omega
      subst hil
      refine ⟨Y.stop H2 B2 F2.ph.2 F2.bh, ?_⟩
      rw [List.drop_length] at e2
      unfold forL at e2
      exact hd s2 (Option.some.inj e2).symm σ2 H2 B2 F2.unand
/-- while, by how many turns are left at most -/
theorem nx_while {A : Amb} {ψ : ρ → Hp → Hp → V → Prop} {tt : TT} {tb : TS} {D : Ends} (c : ς → Option Bool) (f : ς → Option (Step ρ ς)) (mk : ς → List Sl) {s0 : ς} {R0 : Step ρ ς} {n : Nat}
    (e : whL c f n s0 = some R0) (h0 : Nx A (Fin A (mk s0)) Γ) (ht : ∀ s b, c s = some b → EvT tt (mk s) (mk s) b)
    (hb : ∀ (D' : Ends) (s : ς) (st : Step ρ ς), c s = some true → f s = some st → Conts A ψ D' mk st → Nx A (tb D') (mk s))
    (hr : ∀ b, R0 = .ret b → Rt A ψ b D.rt) (hd : ∀ s, R0 = .nx s → Nx A D.nx (mk s)) : Nx A (tWhile tt tb D) Γ := fun σ H B F => by
  refine ⟨fun m σ H => ∃ B s, Frm A σ H B (mk s) ∧ whL c f m s = some R0, ?_, ?_⟩
  · obtain ⟨B1, F1⟩ := h0 σ H B F
    exact ⟨n, B1, s0, F1, e⟩
  · rintro m σ1 H1 ⟨B1, s1, F1, e1⟩
    cases m with
    | zero => cases e1
    | succ m =>
      unfold whL at e1
      cases q : c s1 with
      | none => rw [q] at e1; cases e1
      | some b =>
        rw [q] at e1
        refine ht s1 b q A σ1 H1 B1 F1 _ fun H2 B2 F2 s2 => ?_
        cases b with
        | false => exact hd s1 (Option.some.inj e1).symm σ1 H2 B2 F2
        | true =>
          refine ⟨fun σ3 H3 => ∃ s3, Fin A (mk s3) σ3 H3 ∧ whL c f m s3 = some R0, fun σ3 H3 ⟨s3, ⟨B3, F3⟩, e3⟩ => ⟨m, Nat.lt_succ_self m, B3, s3, F3, e3⟩, ?_⟩
          cases q2 : f s1 with
          | none => rw [q2] at e1; cases e1
          | some st =>
            rw [q2] at e1
            refine hb _ s1 st q q2 ⟨fun s5 z => ?_, fun s5 z => ?_, fun s5 z => ?_, fun b z => ?_⟩ σ1 H2 B2 F2
            · subst z
              exact fun σ5 H5 B5 F5 => ⟨s5, ⟨B5, F5⟩, e1⟩
            · subst z
              exact fun σ5 H5 B5 F5 => ⟨s5, ⟨B5, F5⟩, e1⟩
            · subst z
              exact hd s5 (Option.some.inj e1).symm
            · subst z
              exact hr b (Option.some.inj e1).symm

/-! ### comprehensions -/
theorem Frm.hidset {A : Amb} {σ : L2.St} {H B : Hp} {Γ : List Sl} {p : Addr} {o o' : HO} (F : Frm (A.add p o) σ H B Γ) (h0 : A.H0 p = none) (hm : ¬ A.m p) (sub : Same A.B0 A.H0) (ho : szO o') : Frm (A.add p o') σ (upd H p o') B Γ := by
  have hBp : B p = none := F.out p (by show upd A.H0 p o p ≠ none; rw [upd_same]; simp) (by
    cases q : A.B0 p with
    | none => exact q
    | some u => exact (absurd (sub p u q) (by rw [h0]; simp)))
  have hot : ∀ (i : Nat) (s : Sl), Γ[i]? = some s → ∀ q, celAt s = some q → q ≠ p := fun i s e q hq z => by
    have hh := F.hot e hq
    rcases hh.2.2 with m | m
    · have m' : upd A.H0 p o q = none := m
      rw [z, upd_same] at m'; cases m'
    · rw [z] at m; exact hm m
  refine ⟨⟨fun b u e => ?_, F.b0, fun b u m e => ?_, fun b n z => ?_, fun b n => ?_, fun b u e => ?_, fun b m => ?_, F.ph, F.sz.upd ho⟩, F.len, fun i s e => ?_, F.ds⟩
  · have hb : b ≠ p := fun z => by rw [z, hBp] at e; cases e
    rw [upd_ne hb]; exact F.bh b u e
  · by_cases hb : b = p
    · subst hb
      have e' : upd A.H0 b o' b = some u := e
      rw [upd_same] at e'; rw [upd_same]; exact e'
    · have e' : upd A.H0 p o' b = some u := e
      rw [upd_ne hb] at e'; rw [upd_ne hb]
      exact F.keep b u m (by show upd A.H0 p o b = some u; rw [upd_ne hb]; exact e')
  · by_cases hb : b = p
    · rw [hb]; exact hBp
    · have n' : upd A.H0 p o' b ≠ none := n
      rw [upd_ne hb] at n'
      exact F.out b (by show upd A.H0 p o b ≠ none; rw [upd_ne hb]; exact n') z
  · by_cases hb : b = p
    · subst hb; rw [upd_same]; simp
    · have n' : upd A.H0 p o' b ≠ none := n
      rw [upd_ne hb] at n'; rw [upd_ne hb]
      exact F.alive b (by show upd A.H0 p o b ≠ none; rw [upd_ne hb]; exact n')
  · have hb : b ≠ p := fun z => by rw [z] at e; exact absurd (sub p u e) (by rw [h0]; simp)
    show upd A.H0 p o' b = some u
    rw [upd_ne hb]; exact sub b u e
  · have hb : b ≠ p := fun z => by rw [z] at m; exact hm m
    show upd A.H0 p o' b ≠ none
    rw [upd_ne hb]
    have := F.mh b m
    have t : upd A.H0 p o b ≠ none := this
    rw [upd_ne hb] at t; exact t
  · have h := F.sl i s e
    cases s with
    | no => trivial
    | imm r a => exact h
    | cel q c a =>
      obtain ⟨e1, n, m, u, hu, k⟩ := h
      have hq : q ≠ p := hot i _ e q rfl
      refine ⟨e1, n, ?_, u, by rw [upd_ne hq]; exact hu, k⟩
      rcases m with m | m
      · left
        have m' : upd A.H0 p o q = none := m
        rw [upd_ne hq] at m'
        show upd A.H0 p o' q = none
        rw [upd_ne hq]; exact m'
      · exact .inr m
/-- slots emptied -/
def wipeG (Γ : List Sl) : List Nat → List Sl
  | [] => Γ
  | v :: vs => (wipeG Γ vs).set v .no
theorem Frm.wipe {A : Amb} {σ : L2.St} {H B : Hp} {Γ : List Sl} (F : Frm A σ H B Γ) : ∀ vs : List Nat, Frm A (L2.wipe σ vs) H B (wipeG Γ vs)
  | [] => F
  | v :: vs => by
    have F1 := F.wipe vs
    refine ⟨F1.post, by show ((L2.wipe σ vs).set v none).length = _; unfold wipeG; rw [List.length_set, List.length_set]; exact F1.len, fun i s e => ?_, fun i j p ei ej => ?_⟩
    · unfold wipeG at e
      rcases getset e with ⟨rfl, rfl, _⟩ | ⟨ne, e⟩
      · trivial
      · exact slok_shift (F1.sl i s e) (by show _ = ((L2.wipe σ vs).set v none)[i]?; rw [List.getElem?_set_ne ne])
    · have lo : ∀ {j : Nat}, ((wipeG Γ (v :: vs))[j]?.bind celAt) = some p → ((wipeG Γ vs)[j]?.bind celAt) = some p := fun {j} ej => by
        unfold wipeG at ej
        cases e : ((wipeG Γ vs).set v .no)[j]? with
        | none => rw [e] at ej; cases ej
        | some s =>
          rw [e] at ej
          rcases getset e with ⟨rfl, rfl, _⟩ | ⟨ne, e⟩
          · cases ej
          · rw [e]; exact ej
      exact F1.ds i j p (lo ei) (lo ej)
theorem wipe_get (σ : L2.St) : ∀ (vs : List Nat) (k : Nat), (L2.wipe σ vs)[k]? = if k ∈ vs then (if k < σ.length then some none else none) else σ[k]?
  | [], k => by simp [L2.wipe]
  | v :: vs, k => by
    show ((L2.wipe σ vs).set v none)[k]? = _
    by_cases e : v = k
    · subst e
      rw [List.getElem?_set, if_pos rfl, if_pos (List.mem_cons_self), L2.wipe_length]
    · rw [List.getElem?_set_ne e, wipe_get σ vs k]
      have : (k ∈ v :: vs) ↔ k ∈ vs := by
        rw [List.mem_cons]; exact ⟨fun h => h.resolve_left fun z => e z.symm, .inr⟩
      simp only [this]
theorem wipe_same {σ σ' : L2.St} {vs : List Nat} (hl : σ'.length = σ.length) (h : ∀ k, k ∉ vs → σ'[k]? = σ[k]?) : L2.wipe σ' vs = L2.wipe σ vs := by
  apply List.ext_getElem?
  intro k
  rw [wipe_get, wipe_get, hl]
  by_cases hk : k ∈ vs
  · rw [if_pos hk, if_pos hk]
  · rw [if_neg hk, if_neg hk]; exact h k hk
theorem wipe_wipe {σ σ' : L2.St} {vs : List Nat} (hl : σ'.length = (L2.wipe σ vs).length) (h : ∀ k, k ∉ vs → σ'[k]? = (L2.wipe σ vs)[k]?) : L2.wipe σ' vs = L2.wipe σ vs :=
  wipe_same (by rw [hl, L2.wipe_length]) fun k hk => by rw [h k hk, wipe_get, if_neg hk]
theorem Frm.unwipe {A : Amb} {σ : L2.St} {H B : Hp} {Γ : List Sl} {vs : List Nat} (F : Frm A (L2.wipe σ vs) H B Γ) (hv : wipeG Γ vs = Γ) : Frm A σ H B Γ := by
  have no : ∀ (ws : List Nat) (k : Nat) (s : Sl), k ∈ ws → (wipeG Γ ws)[k]? = some s → s = .no := by
    intro ws
    induction ws with
    | nil => intro k s hk; cases hk
    | cons v ws ih =>
      intro k s hk e
      unfold wipeG at e
      rcases getset e with ⟨rfl, rfl, _⟩ | ⟨ne, e⟩
      · rfl
      · exact ih k s ((List.mem_cons.mp hk).resolve_left fun z => ne z.symm) e
  refine ⟨F.post, by rw [← F.len, L2.wipe_length], fun i s e => ?_, F.ds⟩
  by_cases hi : i ∈ vs
  · have := no vs i s hi (by rw [hv]; exact e)
    subst this; trivial
  · exact slok_shift (F.sl i s e) (by rw [wipe_get, if_neg hi])
/-- [e for x in xs if t], the state of the frame's own objects threaded -/
theorem ec_lcS {wi : TI} {g : TG} {tt : TT} {te : TE} {ws vs : List Nat} (f : α → ς → Option (Option β × ς)) (mk : ς → List Sl) {Γf : α → ς → List Sl} {s0 s1 : ς} {ys : List β}
    (hi : ItX r wi Γ Γ1 xs) (e : compS f xs s0 = some (ys, s1)) (h0 : ∀ A' : Amb, Nx A' (Fin A' (mk s0)) Γ1) (hv : ∀ s, wipeG (mk s) vs = mk s) (hg : ∀ s, TgX g r ws (mk s) (fun x => Γf x s)) (hw : ∀ k, k ∈ ws → k ∈ vs) (hm : ∀ x s, wipeG (Γf x s) vs = mk s)
    (hb : ∀ (x : α) (s : ς) (o : Option β) (s' : ς), f x s = some (o, s') → ∃ s2, EvT tt (Γf x s) (Γf x s2) o.isSome ∧ (∀ y, o = some y → EvX rb te (Γf x s2) (Γf x s') y) ∧ (o = none → s2 = s')) :
    EvC (cLst rb) (tLc wi g tt te vs) Γ (mk s1) ys := fun A σ H B F Q q => by
  refine hi A σ H B F _ fun J H1 B1 F1 sB1 Y => fun D hD => ?_
  obtain ⟨B2, F2⟩ := h0 (A.and B1) σ H1 B1 (F1.and (Same.refl _))
  have h0D : A.H0 D = none := F1.H0none hD
  have hmD : ¬ A.m D := fun m => F.mh D m h0D
  have F3 := F2.wipe vs
  rw [hv] at F3
  have F4 := F3.fresh (o := .lst []) hD (Nat.zero_le _)
  refine ⟨fun i m H => m = xs.length - i ∧ i ≤ xs.length ∧ ∃ B s acc dn rest, Frm ((A.and B1).add D (.lst acc)) (L2.wipe σ vs) H B (mk s) ∧ Paired (rb.rel B) acc dn ∧ acc.length ≤ i ∧ compS f (xs.drop i) s = some (rest, s1) ∧ dn ++ rest = ys, ?_, ?_⟩
  · exact ⟨_, rfl, Nat.zero_le _, B2, s0, [], [], ys, F4, .nil, Nat.le_refl _, by rw [List.drop_zero]; exact e, rfl⟩
  · rintro i m H2 ⟨rfl, hil, B3, s2, acc, dn, rest, F5, pa, hacc, e2, ed⟩
    by_cases hlt : i < xs.length
    · right
      have hx : xs[i]? = some xs[i] := List.getElem?_eq_getElem hlt
      rw [List.drop_eq_getElem_cons hlt] at e2
      refine ⟨Y.go i H2 B3 F5.ph.2 F5.bh hlt, fun H3 => ∃ B s acc dn rest, Frm ((A.and B1).add D (.lst acc)) (L2.wipe σ vs) H3 B (mk s) ∧ Paired (rb.rel B) acc dn ∧ acc.length ≤ i + 1 ∧ compS f (xs.drop (i + 1)) s = some (rest, s1) ∧ dn ++ rest = ys, fun H3 h3 => ⟨_, by omega, rfl, by omega, h3⟩, fun v H3 hy => ?_⟩
      obtain ⟨B4, F6, sB4, k4⟩ := Y.yld i _ H2 B3 v H3 F5.ph.2 F5.bh hx hy _ _ _ F5
      refine hg s2 _ _ H3 B4 v xs[i] F6 k4 _ fun σ4 F7 hl4 d4 => ⟨wipe_wipe hl4 fun k hk => d4 k fun z => hk (hw k z), ?_⟩
      have hwp := wipe_wipe hl4 fun k hk => d4 k fun z => hk (hw k z)
      unfold compS at e2
      cases q2 : f xs[i] s2 with
      | none => rw [q2] at e2; cases e2
      | some os =>
        obtain ⟨o, s'⟩ := os
        rw [q2] at e2
        obtain ⟨s3, hT, hE, hN⟩ := hb _ _ _ _ q2
        refine hT _ _ _ _ F7 _ fun H5 B5 F8 sB5 => ?_
        cases o with
        | none =>
          have F9 := F8.wipe vs
          rw [hm, hwp] at F9
          exact ⟨B5, s3, acc, dn, rest, F9, Paired.monoR (sB4.trans sB5) pa, by omega, by rw [hN rfl]; exact e2, ed⟩
        | some y =>
          refine hE y rfl _ _ _ _ F8 _ fun u H6 B6 F9 sB6 k6 => ?_
          have hid := F9.hid (A := A.and B1) h0D hmD
          refine ⟨acc, hid, Nat.lt_of_lt_of_le (Nat.lt_of_le_of_lt hacc hlt) Y.len, ?_⟩
          have F10 := F9.wipe vs
          rw [hm, hwp] at F10
          have hlen : (acc ++ [u]).length ≤ sizeLine := by rw [List.length_append, List.length_singleton]; exact Nat.le_trans (by omega) Y.len
          have F11 := F10.hidset (A := A.and B1) (o' := .lst (acc ++ [u])) h0D hmD F.sub hlen
          dsimp only at e2
          cases q3 : compS f (xs.drop (i + 1)) s' with
          | none => rw [q3] at e2; cases e2
          | some z =>
            obtain ⟨r3, s4⟩ := z
            rw [q3] at e2
            cases e2
            exact ⟨B6, s', acc ++ [u], dn ++ [y], r3, F11, Paired.app (Paired.monoR ((sB4.trans sB5).trans sB6) pa) (.cons k6 .nil), by rw [List.length_append, List.length_singleton]; omega, q3, by rw [← ed, List.append_assoc]; rfl⟩
    · left
      have hil : i = xs.length := by omega
      subst hil
      refine ⟨Y.stop H2 B3 F5.ph.2 F5.bh, ?_⟩
      rw [List.drop_length] at e2
      unfold compS at e2
      cases e2
      have F6 := F5.unwipe (hv _)
      have F7 : Frm ((A.add D (.lst acc)).and B1) σ H2 B3 _ := F6
      refine q D (.lst acc) H2 B3 F7.unand h0D (sB1.trans F5.ph.2) ⟨acc, rfl, ?_⟩
      rw [List.append_nil] at ed
      rw [← ed]; exact pa
theorem compS_L (f : α → Option (Option β)) : ∀ {xs : List α} {ys : List β}, compL f xs = some ys → compS (fun x (_ : Unit) => (f x).map fun o => (o, ())) xs () = some (ys, ())
  | [], ys, h => by unfold compL at h; cases h; rfl
  | x :: xs, ys, h => by
    unfold compL at h
    unfold compS
    cases q : f x with
    | none => rw [q] at h; cases h
    | some o =>
      rw [q] at h
      cases o with
      | none => exact compS_L f h
      | some y =>
        cases q2 : compL f xs with
        | none => rw [q2] at h; cases h
        | some zs =>
          rw [q2] at h
          cases h
          have := compS_L f q2
          dsimp only [Option.map_some]
          rw [this]
theorem ec_lc {wi : TI} {g : TG} {tt : TT} {te : TE} {ws vs : List Nat} (f : α → Option (Option β)) {Γf : α → List Sl} {ys : List β}
    (hi : ItX r wi Γ Γ1 xs) (e : compL f xs = some ys) (hg : TgX g r ws (wipeG Γ1 vs) Γf) (hw : ∀ k, k ∈ ws → k ∈ vs) (hv : wipeG Γ1 vs = Γ1) (hm : ∀ x, wipeG (Γf x) vs = Γ1)
    (hb : ∀ (x : α) (o : Option β), f x = some o → EvT tt (Γf x) (Γf x) o.isSome ∧ (∀ y, o = some y → EvX rb te (Γf x) (Γf x) y)) : EvC (cLst rb) (tLc wi g tt te vs) Γ Γ1 ys :=
  ec_lcS (ς := Unit) _ (fun _ => Γ1) (Γf := fun x _ => Γf x) hi (compS_L f e) (fun A' => nx_fin) (fun _ => hv) (fun _ => by rw [hv] at hg; exact hg) hw (fun x _ => hm x) fun x s o s' h => by
    cases q : f x with
    | none => simp [q] at h
    | some o' =>
      simp [q] at h
      subst h
      exact ⟨s, (hb x o' q).1, fun y hy => (hb x o' q).2 y hy, fun _ => rfl⟩
/-- no test -/
theorem et_yes {Γ : List Sl} : EvT tYes Γ Γ true := fun A σ H B F Q q => q H B F (Same.refl _)
end
end G

set_option maxHeartbeats 4000000
/-! # G: built-ins, the frame's own objects -/
namespace G
open PySem PySem.Spec PyProof.Rows L2
section
variable {α β γ ρ ς : Type} {r ra : Rp α} {rb : Rp β} {c : Cl α} {te ta tb : TE} {Γ Γ1 Γ2 Γ3 : List Sl} {xs : List α} {K : PySem.W.Frag} {a : α} {b : β} {w : Rw α} {p : Addr} {i : Nat}
/-- a list that the program was handed -/
def rScr (K : PySem.W.Frag) : Rp (List Int) := ⟨fun H v ns => ∃ a, v = .ref a ∧ SqL K H a (ns.map V.int), fun s ⟨a, e, h⟩ => ⟨a, e, s.seq h⟩⟩
/-! ### partial operations -/
def pyMod (i j : Int) : Option Int := if 0 < j then some (i % j) else none
def pyDiv (i j : Int) : Option Int := if 0 < j ∧ j.natAbs.log2 < 9000 then some (i / j) else none
def pyMul (i j : Int) : Option Int := if (-(2 ^ 64) < i ∧ i < 2 ^ 64) ∨ (-(2 ^ 64) < j ∧ j < 2 ^ 64) then some (i * j) else none
def pyPow (i j : Int) : Option Int := if 0 ≤ j ∧ j ≤ 1000000 ∧ i.natAbs < 2 ^ 64 then some (i ^ j.toNat) else none
def pyLenS (z : Str) : Option Int := if z.length ≤ sizeLine then some (z.length : Int) else none
def pyAddS (x y : Str) : Option Str := if x.length + y.length ≤ sizeLine then some (x ++ y) else none
def pyIxS (z : Str) (i : Int) : Option Str := if z.length ≤ sizeLine then (atI z.cps.toList i).map fun c => (⟨#[c]⟩ : Str) else none
def pySlS (z : Str) (lo hi : Option Int) : Option Str := if z.length ≤ sizeLine then some (Txt.slice z lo hi) else none
def pyInSg (x z : Str) : Option Bool := match x.cps.toList with
  | [c] => some (decide (c ∈ z.cps.toList))
  | _ => none
theorem ev_modP {i j k : Int} (ha : EvX rInt ta Γ Γ1 i) (hb : EvX rInt tb Γ1 Γ2 j) (e : pyMod i j = some k) : EvX rInt (tOp (rI (fun _ j => 0 < j) fun i j => .int (i % j)) ta tb) Γ Γ2 k := by
  unfold pyMod at e; split at e <;> cases e
  exact ev_mod ha hb (by assumption)
theorem ev_divP {i j k : Int} (ha : EvX rInt ta Γ Γ1 i) (hb : EvX rInt tb Γ1 Γ2 j) (e : pyDiv i j = some k) : EvX rInt (tOp (rI CDivW fun i j => .int (i / j)) ta tb) Γ Γ2 k := by
  unfold pyDiv at e; split at e <;> cases e
  exact ev_divW ha hb (by assumption)
theorem ev_mulP {i j k : Int} (ha : EvX rInt ta Γ Γ1 i) (hb : EvX rInt tb Γ1 Γ2 j) (e : pyMul i j = some k) : EvX rInt (tOp (rI CMul fun i j => .int (i * j)) ta tb) Γ Γ2 k := by
  unfold pyMul at e; split at e <;> cases e
  exact ev_mul ha hb (by assumption)
theorem ev_powP {i j k : Int} (ha : EvX rInt ta Γ Γ1 i) (hb : EvX rInt tb Γ1 Γ2 j) (e : pyPow i j = some k) : EvX rInt (tOp (rI CPow fun i j => .int (i ^ j.toNat)) ta tb) Γ Γ2 k := by
  unfold pyPow at e; split at e <;> cases e
  exact ev_pow ha hb (by assumption)
theorem ev_addS {x y z : Str} (ha : EvX rStr ta Γ Γ1 x) (hb : EvX rStr tb Γ1 Γ2 y) (e : pyAddS x y = some z) : EvX rStr (tOp (fun x y H Q => ∃ i j, x = .str i ∧ y = .str j ∧ i.length + j.length ≤ sizeLine ∧ Q (.str (i ++ j)) H) ta tb) Γ Γ2 z := by
  unfold pyAddS at e; split at e <;> cases e
  exact ev_op ha hb fun H B u v _ ku kv Q q => ⟨x, y, ku, kv, by assumption, q _ rfl⟩
theorem ev_ixS {z c : Str} {i : Int} (ha : EvX rStr ta Γ Γ1 z) (hb : EvX rInt tb Γ1 Γ2 i) (e : pyIxS z i = some c) : EvX rStr (tOp rIxS ta tb) Γ Γ2 c := by
  unfold pyIxS at e; split at e
  · rename_i hz
    cases q : atI z.cps.toList i with
    | none => rw [q] at e; cases e
    | some n =>
      rw [q] at e; cases e
      exact ev_op ha hb fun H B u v _ ku kv Q k => ⟨z, i, n, ku, kv, hz, q, k _ rfl⟩
  · cases e
theorem sg_of {x : Str} {c : Nat} (h : x.cps.toList = [c]) : x = ⟨#[c]⟩ := by
  cases x with
  | mk cps => simp only at h; congr 1; exact Array.toList_inj.mp h
theorem ev_inSg {x z : Str} {b : Bool} (ha : EvX rStr ta Γ Γ1 x) (hb : EvX rStr tb Γ1 Γ2 z) (e : pyInSg x z = some b) : EvX rBool (tOp (fun x y H Q => ∃ (c : Nat) (z : Str), x = .str ⟨#[c]⟩ ∧ y = .str z ∧ Q (.bl (decide (c ∈ z.cps.toList))) H) ta tb) Γ Γ2 b := by
  unfold pyInSg at e; split at e
  · rename_i c hc
    cases e
    exact ev_op ha hb fun H B u v _ ku kv Q k => ⟨c, z, by rw [ku, sg_of hc], kv, k _ rfl⟩
  · cases e
theorem ev_ninSg {x z : Str} {b : Bool} (ha : EvX rStr ta Γ Γ1 x) (hb : EvX rStr tb Γ1 Γ2 z) (e : pyInSg x z = some b) : EvX rBool (tOp (fun x y H Q => ∃ (c : Nat) (z : Str), x = .str ⟨#[c]⟩ ∧ y = .str z ∧ Q (.bl (!decide (c ∈ z.cps.toList))) H) ta tb) Γ Γ2 (!b) := by
  unfold pyInSg at e; split at e
  · rename_i c hc
    cases e
    exact ev_op ha hb fun H B u v _ ku kv Q k => ⟨c, z, by rw [ku, sg_of hc], kv, k _ rfl⟩
  · cases e
/-! ### slices -/
def EvO (t : TO) (Γ Γ' : List Sl) (o : Option Int) : Prop := ∀ (A : Amb) (σ : L2.St) (H B : Hp), Frm A σ H B Γ → ∀ Q : Option Int → Hp → Prop, (∀ H' B', Frm A σ H' B' Γ' → Same B B' → Q o H') → t σ H Q
theorem eo_none : EvO tNoPart Γ Γ none := fun A σ H B F Q q => q H B F (Same.refl _)
theorem eo_some {j : Int} (h : EvX rInt te Γ Γ1 j) : EvO (tPart te) Γ Γ1 (some j) := fun A σ H B F Q q => h A σ H B F _ fun v H' B' F' s k => ⟨j, k, q H' B' F' s⟩
theorem ev_slS {z y : Str} {lo hi : Option Int} {tl th : TO} (h : EvX rStr te Γ Γ1 z) (hl : EvO tl Γ1 Γ2 lo) (hh : EvO th Γ2 Γ3 hi) (e : pySlS z lo hi = some y) : EvX rStr (L2.tSl C8.rSlX te tl th) Γ Γ3 y := by
  unfold pySlS at e; split at e <;> cases e
  exact fun A σ H B F Q q => h A σ H B F _ fun v H1 B1 F1 s1 k1 => hl A σ H1 B1 F1 _ fun H2 B2 F2 s2 => hh A σ H2 B2 F2 _ fun H3 B3 F3 s3 => ⟨z, k1, by assumption, q _ H3 B3 F3 ((s1.trans s2).trans s3) rfl⟩
def cut {α : Type} (xs : List α) (lo hi : Option Int) : List α := (xs.drop (HT.sIx xs.length 0 lo)).take (HT.sIx xs.length xs.length hi - HT.sIx xs.length 0 lo)
theorem paired_cut {F : V → α → Prop} {vs : List V} {lo hi : Option Int} (h : Paired F vs xs) : Paired F (cutV vs lo hi) (cut xs lo hi) := by
  unfold cutV cut
  rw [Paired.len h]
  exact Paired.takeN _ (Paired.dropN _ h)
theorem cut_len (lo hi : Option Int) (vs : List V) : (cutV vs lo hi).length ≤ vs.length := by
  unfold cutV
  rw [List.length_take, List.length_drop]; omega
theorem ec_slL {lo hi : Option Int} {tl th : TO} (h : EvX (rLst r) te Γ Γ1 xs) (hl : EvO tl Γ1 Γ2 lo) (hh : EvO th Γ2 Γ3 hi) : EvC (cLst r) (L2.tSl (rSlL K) te tl th) Γ Γ3 (cut xs lo hi) :=
  fun A σ H B F Q q => h A σ H B F _ fun v H1 B1 F1 s1 k1 => hl A σ H1 B1 F1 _ fun H2 B2 F2 s2 => hh A σ H2 B2 F2 _ fun H3 B3 F3 s3 => by
    obtain ⟨a, vs, rfl, ha, pv⟩ := ob_lst F3.bh ((rLst r).mono (s2.trans s3) k1)
    exact ⟨a, vs, rfl, SqL.of ha, fun l hl => ec_fresh (c := cLst r) (o := .lst (cutV vs lo hi)) F3 hl (Nat.le_trans (cut_len lo hi vs) (F3.sz _ _ ha)) (fun p o H2 B2 F2 n2 s4 k2 => q p o H2 B2 F2 n2 (((s1.trans s2).trans s3).trans s4) k2) ⟨_, rfl, paired_cut pv⟩⟩
/-! ### built-ins of one argument -/
theorem ev_B1 {R : List V → Hp → VK → Prop} (h : EvX ra ta Γ Γ1 a) (k : ∀ (H B : Hp) (u : V), Sz H → Same B H → ra.rel B u a → ∀ Q : VK, (∀ o, rb.rel B o b → Q o H) → R [u] H Q) : EvX rb (tCB R (tCons ta tNil)) Γ Γ1 b := fun A σ H B F Q q =>
  h A σ H B F _ fun v H1 B1 F1 s1 k1 => k H1 B1 v F1.sz F1.bh k1 Q fun o ko => q o H1 B1 F1 s1 ko
theorem ec_B1 {R : List V → Hp → VK → Prop} {cb : Cl β} (h : EvX ra ta Γ Γ1 a) (k : ∀ (H B : Hp) (u : V), Sz H → Same B H → ra.rel B u a → ∀ Q : VK, (∀ p o, H p = none → szO o → cb.ok B o b → Q (.ref p) (upd H p o)) → R [u] H Q) : EvC cb (tCB R (tCons ta tNil)) Γ Γ1 b := fun A σ H B F Q q =>
  h A σ H B F _ fun v H1 B1 F1 s1 k1 => k H1 B1 v F1.sz F1.bh k1 Q fun p o hp ho ko => q p o _ B1 (F1.fresh hp ho) (F1.H0none hp) s1 ko
abbrev RLen (K : PySem.W.Frag) : List V → Hp → VK → Prop := fun xs H Q => ∃ p ys, xs = [.ref p] ∧ (SqL K H p ys ∨ SqT K H p ys) ∧ Q (.int ys.length) H
theorem ev_lenL (h : EvX (rLst r) ta Γ Γ1 xs) : EvX rInt (tCB (RLen K) (tCons ta tNil)) Γ Γ1 (xs.length : Int) := ev_B1 h fun H B u _ s k Q q => by
  obtain ⟨p, vs, rfl, hp, kv⟩ := ob_lst s k
  exact ⟨p, vs, rfl, .inl (SqL.of hp), q _ (by rw [Paired.len kv]; rfl)⟩
theorem ev_lenT (h : EvX (rTpl r) ta Γ Γ1 xs) : EvX rInt (tCB (RLen K) (tCons ta tNil)) Γ Γ1 (xs.length : Int) := ev_B1 h fun H B u _ s k Q q => by
  obtain ⟨p, vs, rfl, hp, kv⟩ := ob_tpl s k
  exact ⟨p, vs, rfl, .inr (SqT.of hp), q _ (by rw [Paired.len kv]; rfl)⟩
theorem ev_lenC {ns : List Int} (h : EvX (rScr K) ta Γ Γ1 ns) : EvX rInt (tCB (RLen K) (tCons ta tNil)) Γ Γ1 (ns.length : Int) := ev_B1 h fun H B u _ s k Q q => by
  obtain ⟨p, rfl, hp⟩ := k
  exact ⟨p, _, rfl, .inl (s.seq hp), q _ (by rw [List.length_map]; rfl)⟩
theorem ev_lenS {z : Str} {n : Int} (h : EvX rStr ta Γ Γ1 z) (e : pyLenS z = some n) : EvX rInt (tCB (fun xs H Q => ∃ z, xs = [.str z] ∧ z.length ≤ sizeLine ∧ Q (.int z.length) H) (tCons ta tNil)) Γ Γ1 n := by
  unfold pyLenS at e; split at e <;> cases e
  exact ev_B1 h fun H B u _ s k Q q => ⟨z, by rw [k], by assumption, q _ rfl⟩
theorem ev_int1 {j : Int} (h : EvX rInt ta Γ Γ1 j) : EvX rInt (tCB (fun xs H Q => (∃ i, xs = [.int i] ∧ Q (.int i) H) ∨ ∃ k, xs = [.bl k] ∧ Q (.int (if k then 1 else 0)) H) (tCons ta tNil)) Γ Γ1 j := ev_B1 h fun H B u _ s k Q q => .inl ⟨j, by rw [k], q _ rfl⟩
abbrev RList (K : PySem.W.Frag) : List V → Hp → VK → Prop := fun xs H Q => ∃ p ys, xs = [.ref p] ∧ (SqL K H p ys ∨ SqT K H p ys) ∧ ∀ l, H l = none → Q (.ref l) (upd H l (.lst ys))
theorem ec_listL (h : EvX (rLst r) ta Γ Γ1 xs) : EvC (cLst r) (tCB (RList K) (tCons ta tNil)) Γ Γ1 xs := ec_B1 h fun H B u z s k Q q => by
  obtain ⟨p, vs, rfl, hp, kv⟩ := ob_lst s k
  exact ⟨p, vs, rfl, .inl (SqL.of hp), fun l hl => q l _ hl (show vs.length ≤ sizeLine from z p _ hp) ⟨vs, rfl, kv⟩⟩
theorem ec_listT (h : EvX (rTpl r) ta Γ Γ1 xs) : EvC (cLst r) (tCB (RList K) (tCons ta tNil)) Γ Γ1 xs := ec_B1 h fun H B u z s k Q q => by
  obtain ⟨p, vs, rfl, hp, kv⟩ := ob_tpl s k
  exact ⟨p, vs, rfl, .inr (SqT.of hp), fun l hl => q l _ hl (show vs.length ≤ sizeLine from z p _ hp) ⟨vs, rfl, kv⟩⟩
theorem paired_ints : ∀ (ns : List Int) (B : Hp), Paired (rInt.rel B) (ns.map V.int) ns
  | [], _ => .nil
  | n :: ns, B => .cons rfl (paired_ints ns B)
def pyScr (ns : List Int) : Option (List Int) := if ns.length ≤ 100000 then some ns else none
theorem ec_listC {ns l : List Int} (h : EvX (rScr K) ta Γ Γ1 ns) (e : pyScr ns = some l) : EvC (cLst rInt) (tCB (RList K) (tCons ta tNil)) Γ Γ1 l := by
  unfold pyScr at e; split at e <;> cases e
  rename_i hl
  exact ec_B1 h fun H B u z s k Q q => by
    obtain ⟨p, rfl, hp⟩ := k
    exact ⟨p, _, rfl, .inl (s.seq hp), fun l hl => q l _ hl (by show (ns.map V.int).length ≤ _; rw [List.length_map]; exact Nat.le_trans (by assumption) (by decide)) ⟨_, rfl, paired_ints ns B⟩⟩
theorem ev_ixC {ns : List Int} {j v : Int} (ha : EvX (rScr K) ta Γ Γ1 ns) (hb : EvX rInt tb Γ1 Γ2 j) (e : atI ns j = some v) : EvX rInt (tOp (rIxL K) ta tb) Γ Γ2 v :=
  ev_op ha hb fun H B u w s ku kw Q q => by
    obtain ⟨p, rfl, hp⟩ := ku
    obtain ⟨o, ho, ko⟩ := atI_rel (paired_ints ns B) e
    exact ⟨p, _, j, o, rfl, kw, s.seq hp, ho, q o ko⟩
theorem ec_tupL (h : EvX (rLst r) ta Γ Γ1 xs) : EvC (cTpl r) (tCB (fun xs H Q => ∃ p ys, xs = [.ref p] ∧ ((SqL K H p ys ∧ ∀ l, H l = none → Q (.ref l) (upd H l (.tup ys))) ∨ (SqT K H p ys ∧ Q (.ref p) H))) (tCons ta tNil)) Γ Γ1 xs := ec_B1 h fun H B u z s k Q q => by
  obtain ⟨p, vs, rfl, hp, kv⟩ := ob_lst s k
  exact ⟨p, vs, rfl, .inl ⟨SqL.of hp, fun l hl => q l _ hl (show vs.length ≤ sizeLine from z p _ hp) ⟨vs, rfl, kv⟩⟩⟩
theorem ev_tupT (h : EvX (rTpl r) ta Γ Γ1 xs) : EvX (rTpl r) (tCB (fun xs H Q => ∃ p ys, xs = [.ref p] ∧ ((SqL K H p ys ∧ ∀ l, H l = none → Q (.ref l) (upd H l (.tup ys))) ∨ (SqT K H p ys ∧ Q (.ref p) H))) (tCons ta tNil)) Γ Γ1 xs := ev_B1 h fun H B u _ s k Q q => by
  obtain ⟨p, vs, e, hp, kv⟩ := ob_tpl s k
  exact ⟨p, vs, by rw [e], .inr ⟨SqT.of hp, by rw [← e]; exact q _ k⟩⟩
theorem ev_allL {bs : List Bool} (h : EvX (rLst rBool) ta Γ Γ1 bs) : EvX rBool (tCB (rAll K) (tCons ta tNil)) Γ Γ1 (bs.all id) := ev_B1 h fun H B u _ s k Q q => by
  obtain ⟨p, vs, rfl, hp, kv⟩ := ob_lst s k
  exact ⟨p, bs, rfl, by rw [← Paired.mapEq (fun a b h => h) kv]; exact SqL.of hp, q _ rfl⟩
/-! ### the frame's own objects -/
theorem cel_at {A : Amb} {σ : L2.St} {H B : Hp} (F : Frm A σ H B Γ) (h : Γ[i]? = some (.cel p c a)) : σ[i]? = some (some (V.ref p)) ∧ ∃ o, H p = some o ∧ c.ok B o a := by
  obtain ⟨e, _, _, o, ho, k⟩ := F.sl i _ h
  exact ⟨e, o, ho, k⟩
/-- an item of the frame's own list of known form -/
theorem ev_celR {k : Nat} {f : α → β} (h : Γ[i]? = some (.cel p (cHls w) a)) (g : Acc w k rb f) : EvX rb (tOp (rIxL K) (tVar i) (tC (.int (k : Int)))) Γ Γ (f a) := fun A σ H B F Q q => by
  obtain ⟨e, o, ho, vs, rfl, kw⟩ := cel_at F h
  obtain ⟨u, hu, ku⟩ := g B vs a kw
  exact ⟨_, e, p, vs, (k : Int), u, rfl, rfl, SqL.of ho, atI_nat hu, q u H B F (Same.refl _) ku⟩
/-- such an item is stored -/
def Upd {α β : Type} (w : Rw α) (k : Nat) (r : Rp β) (f : α → β → α) : Prop := ∀ B vs a v b, w.rel B vs a → r.rel B v b → k < vs.length ∧ w.rel B (vs.set k v) (f a b)
theorem upd1 : Upd (w1 ra) 0 ra (fun _ b => b) := fun B vs a v b ⟨u, e, _⟩ k => ⟨by rw [e]; exact Nat.zero_lt_one, v, by rw [e]; rfl, k⟩
theorem upd0 {w : Rw β} : Upd (wC ra w) 0 ra (fun a b => (b, a.2)) := fun B vs a v b ⟨u, t, e, _, q⟩ k => ⟨by rw [e, List.length_cons]; omega, v, t, by rw [e]; rfl, k, q⟩
theorem updS {w : Rw β} {rc : Rp γ} {k : Nat} {f : β → γ → β} (h : Upd w k rc f) : Upd (wC ra w) (k + 1) rc (fun a b => (a.1, f a.2 b)) := fun B vs a v b ⟨u, t, e, q1, q2⟩ kv => by
  obtain ⟨h1, h2⟩ := h B t a.2 v b q2 kv
  exact ⟨by rw [e, List.length_cons]; omega, u, t.set k v, by rw [e]; rfl, q1, h2⟩
theorem nx_setR {A : Amb} {D : Ends} {k : Nat} {f : α → β → α} (h : EvX rb te Γ Γ1 b) (hi : Γ1[i]? = some (.cel p (cHls w) a)) (g : Upd w k rb f) (n : Nx A D.nx (Γ1.set i (.cel p (cHls w) (f a b)))) : Nx A (tAsg te (gSub (tVar i) (tC (.int (k : Int))) rSetL) D) Γ := fun σ H B F =>
  h A σ H B F _ fun v H1 B1 F1 s1 k1 => by
    obtain ⟨e, o, ho, vs, rfl, kw⟩ := cel_at F1 hi
    obtain ⟨hk, kw'⟩ := g B1 vs a v b kw k1
    refine ⟨_, e, p, vs, (k : Int), k, rfl, rfl, ho, ?_, ?_⟩
    · unfold ixN; rw [if_pos (by omega), if_pos (by omega)]; simp
    · exact n σ _ B1 (F1.write hi (c' := cHls w) (o' := .lst (vs.set k v)) ⟨_, rfl, kw'⟩ (by show (vs.set k v).length ≤ _; rw [List.length_set]; exact F1.sz _ _ ho))
end
end G

set_option maxHeartbeats 4000000
/-! # G: how mirrors are written; small words -/
namespace G
open PySem PySem.Spec PyProof.Rows L2
section
variable {α β γ ρ ς τ : Type}
def bindO (e : Option α) (k : α → Option β) : Option β := match e with
  | none => none
  | some x => k x
def letO (e : α) (k : α → Option β) : Option β := k e
def iteO (c : Bool) (x y : Option β) : Option β := match c with
  | true => x
  | false => y
def stepO (R : Step ρ ς) (k : ς → Option ρ) : Option ρ := match R with
  | .ret b => some b
  | .nx s => k s
  | .brk _ => none
def stepL (R : Step ρ ς) (k : ς → Option (Step ρ τ)) : Option (Step ρ τ) := match R with
  | .ret b => some (.ret b)
  | .nx s => k s
  | .brk _ => none
theorem bindO_some {e : Option α} {k : α → Option β} {b : β} (h : bindO e k = some b) : ∃ x, e = some x ∧ k x = some b := by
  cases e with
  | none => cases h
  | some x => exact ⟨x, rfl, h⟩
theorem letO_some {e : α} {k : α → Option β} {b : β} (h : letO e k = some b) : ∃ x, x = e ∧ k x = some b := ⟨e, rfl, h⟩
theorem iteO_t {c : Bool} {x y : Option β} {b : Option β} (hc : c = true) (h : iteO c x y = b) : x = b := by subst hc; exact h
theorem iteO_f {c : Bool} {x y : Option β} {b : Option β} (hc : c = false) (h : iteO c x y = b) : y = b := by subst hc; exact h
theorem stepO_ret {b b' : ρ} {k : ς → Option ρ} (h : stepO (.ret b) k = some b') : b = b' := Option.some.inj h
theorem stepO_nx {s : ς} {k : ς → Option ρ} {b : Option ρ} (h : stepO (.nx s) k = b) : k s = b := h
theorem stepL_ret {b : ρ} {k : ς → Option (Step ρ τ)} {st : Step ρ τ} (h : stepL (.ret b) k = some st) : st = .ret b := (Option.some.inj h).symm
theorem stepL_nx {s : ς} {k : ς → Option (Step ρ τ)} {b : Option (Step ρ τ)} (h : stepL (.nx s) k = b) : k s = b := h
@[simp] theorem bindO_s (x : α) (k : α → Option β) : bindO (some x) k = k x := rfl
@[simp] theorem bindO_n (k : α → Option β) : bindO none k = none := rfl
@[simp] theorem letO_s (x : α) (k : α → Option β) : letO x k = k x := rfl
@[simp] theorem iteO_T (x y : Option β) : iteO true x y = x := rfl
@[simp] theorem iteO_F (x y : Option β) : iteO false x y = y := rfl
@[simp] theorem stepO_N (s : ς) (k : ς → Option ρ) : stepO (.nx s) k = k s := rfl
@[simp] theorem stepO_R (b : ρ) (k : ς → Option ρ) : stepO (.ret b) k = some b := rfl
@[simp] theorem stepL_N (s : ς) (k : ς → Option (Step ρ τ)) : stepL (.nx s) k = k s := rfl
@[simp] theorem stepL_R (b : ρ) (k : ς → Option (Step ρ τ)) : stepL (.ret b) k = some (.ret b) := rfl
end
section
variable {α β γ ρ ς : Type} {r : Rp α} {rb : Rp β} {c : Cl α} {te ta : TE} {tt : TT} {Γ Γ1 : List Sl} {a a' : α} {b b' : Bool} {A : Amb} {P : L2.St → Hp → Prop} {D : Ends} {i : Nat} {p : Addr} {K : PySem.W.Frag} {xs : List α}
theorem et_to (h : EvT tt Γ Γ1 b) (e : b = b') : EvT tt Γ Γ1 b' := e ▸ h
theorem ec_to (h : EvC c te Γ Γ1 a) (e : a = a') : EvC c te Γ Γ1 a' := e ▸ h
theorem nx_go {σ : L2.St} {H B : Hp} (F : Frm A σ H B Γ) (h : Nx A P Γ) : P σ H := h σ H B F
/-- the datum of the frame's own object by another name -/
theorem nx_cel (h : Γ[i]? = some (.cel p c a)) (e : a = a') (k : Nx A P (Γ.set i (.cel p c a'))) : Nx A P Γ := by
  subst e
  have : Γ.set i (.cel p c a) = Γ := by
    obtain ⟨hi, q⟩ := List.getElem?_eq_some_iff.mp h
    rw [← q, List.set_getElem_self]
  rw [this] at k; exact k
theorem Frm.recast {σ : L2.St} {H B : Hp} (F : Frm A σ H B Γ) (i : Nat) {s s' : Sl} (h : Γ[i]? = some s) (hc : celAt s = none) (hc' : celAt s' = none) (k : ∀ σ B, SlOk A σ H B i s → SlOk A σ H B i s') : Frm A σ H B (Γ.set i s') := by
  refine ⟨F.post, by rw [List.length_set]; exact F.len, fun j u e => ?_, fun j l q ej ek => ?_⟩
  · rcases getset e with ⟨rfl, rfl, hl⟩ | ⟨ne, e⟩
    · exact k _ _ (F.sl _ _ h)
    · exact F.sl j u e
  · have lo : ∀ {j : Nat}, ((Γ.set i s')[j]?.bind celAt) = some q → (Γ[j]?.bind celAt) = some q := fun {j} ej => by
      cases e : (Γ.set i s')[j]? with
      | none => rw [e] at ej; cases ej
      | some u =>
        rw [e] at ej
        have ej' : celAt u = some q := ej
        rcases getset e with ⟨_, z, _⟩ | ⟨ne, e⟩
        · rw [z, hc'] at ej'; cases ej'
        · rw [e]; exact ej'
    exact F.ds j l q (lo ej) (lo ek)
theorem nx_toOpt (i : Nat) (n : NN r) (h : Γ[i]? = some (.imm r a)) (k : Nx A P (Γ.set i (.imm (rOpt r) (some a)))) : Nx A P Γ := fun σ H B F => k σ H B (F.recast i h rfl rfl fun σ B ⟨v, e, q⟩ => ⟨v, e, q, n _ _ _ q⟩)
theorem nx_toNone {u : Unit} (i : Nat) (h : Γ[i]? = some (.imm rNon u)) (k : Nx A P (Γ.set i (.imm (rOpt r) none))) : Nx A P Γ := fun σ H B F => k σ H B (F.recast i h rfl rfl fun σ B ⟨v, e, q⟩ => ⟨v, e, q⟩)
/-- a script's walk -/
theorem it_scr {ns : List Int} (h : EvX (rScr K) te Γ Γ1 ns) (hz : ns.length ≤ 100000) : ItX rInt (iList K te) Γ Γ1 ns := fun A σ H B F R q => h A σ H B F _ fun v H' B' F' s k => by
  obtain ⟨p, rfl, hp⟩ := k
  refine ⟨p, rfl, ⟨_, F'.bh.seq hp⟩, q _ H' B' F' s ⟨Nat.le_trans hz (by decide), fun H2 B2 s1 s2 => ?_, fun i H2 B2 s1 s2 hi => ?_, fun i x H2 B2 v H3 s1 s2 hx hy A σ Γ F => ?_⟩⟩
  · exact ⟨_, s2.seq (s1.seq hp), by rw [List.length_map]; exact Nat.le_refl _⟩
  · exact ⟨_, .int ns[i], s2.seq (s1.seq hp), by rw [List.getElem?_map, List.getElem?_eq_getElem hi]; rfl⟩
  · obtain ⟨rfl, hv⟩ := hy
    have e := hv _ (s2.seq (s1.seq hp))
    rw [List.getElem?_map, hx] at e
    cases e
    exact ⟨B2, F, Same.refl _, rfl⟩
end
/-! ### a new object handed back -/
def SpC {α β : Type} (w : Rw α) (c : Cl β) (m : α → Option β) : Sp := fun vs H Q _ => ∃ B a b, Sz H ∧ Same B H ∧ w.rel B vs a ∧ m a = some b ∧ ∀ p o H' B', Post ((amb0 B H).add p o) H' B' → H p = none → c.ok B' o b → Q (.ref p) H'
section
variable {α β γ : Type} {w : Rw α} {c : Cl β} {A : Amb} {Γ Γ1 : List Sl} {te : TE} {D : Ends} {K : PySem.W.Frag}
/-- what the caller knows of a new object -/
def RtC (A : Amb) (c : Cl β) (b : β) (rt : VK) : Prop := ∀ p o H' B', Post (A.add p o) H' B' → A.H0 p = none → c.ok B' o b → rt (.ref p) H'
theorem nx_retC {a b : β} (h : EvC c te Γ Γ1 a) (e : some a = some b) (k : RtC A c b D.rt) : Nx A (tRet te D) Γ := fun σ H B F => h A σ H B F _ fun p o H' B' F' n _ q => k p o H' B' F'.post n (by cases e; exact q)
theorem Frm.afterC {σ : L2.St} {H H' B B' : Hp} {p : Addr} {o : HO} (F : Frm A σ H B Γ) (P : Post ((amb0 B H).add p o) H' B') (hp : H p = none) : Frm (A.add p o) σ H' B' Γ := by
  have kp : ∀ q u, H q = some u → H' q = some u := fun q u e => P.keep q u (fun z => z) (by show upd H p o q = some u; rw [upd_ne (ne_of_none e hp)]; exact e)
  have al : ∀ q, H q ≠ none → H' q ≠ none := fun q n => by
    cases e : H q with
    | none => exact absurd e n
    | some u => rw [kp q u e]; simp
  have ou : ∀ q, H q ≠ none → B q = none → B' q = none := fun q n z => P.out q (by
    have hq : q ≠ p := fun e => n (by rw [e]; exact hp)
    show upd H p o q ≠ none; rw [upd_ne hq]; exact n) z
  have bb : Same B B' := P.b0
  have h0 := F.H0none hp
  refine ⟨⟨P.bh, fun q u e => bb q u (F.b0 q u e), fun q u m e => ?_, fun q n z => ?_, fun q n => ?_, fun q u e => ?_, fun q m => ?_, A.up _ _ bb F.ph, P.sz⟩, F.len, fun i s e => ?_, F.ds⟩
  · by_cases hq : q = p
    · subst hq
      have e' : upd A.H0 q o q = some u := e
      rw [upd_same] at e'
      cases e'
      exact P.keep q o (fun z => z) upd_same
    · have e' : upd A.H0 p o q = some u := e
      rw [upd_ne hq] at e'
      exact kp q u (F.keep q u m e')
  · by_cases hq : q = p
    · subst hq
      refine P.out q (by show upd H q o q ≠ none; rw [upd_same]; simp) ?_
      show B q = none
      cases e : B q with
      | none => rfl
      | some u => have := F.bh q u e; rw [hp] at this; cases this
    · have n' : upd A.H0 p o q ≠ none := n
      rw [upd_ne hq] at n'
      exact ou q (F.alive q n') (F.out q n' z)
  · by_cases hq : q = p
    · subst hq
      rw [P.keep q o (fun z => z) upd_same]; simp
    · have n' : upd A.H0 p o q ≠ none := n
      rw [upd_ne hq] at n'
      exact al q (F.alive q n')
  · have hq : q ≠ p := fun z => by rw [z] at e; exact absurd (F.sub p u e) (by rw [h0]; simp)
    show upd A.H0 p o q = some u
    rw [upd_ne hq]; exact F.sub q u e
  · have := F.mh q m
    have hq : q ≠ p := fun z => this (by rw [z]; exact h0)
    show upd A.H0 p o q ≠ none
    rw [upd_ne hq]; exact this
  · have hh := fun z => F.hot e (p := z)
    have h := F.sl i s e
    cases s with
    | no => trivial
    | imm r a => obtain ⟨v, e, k⟩ := h; exact ⟨v, e, r.mono bb k⟩
    | cel q c a =>
      obtain ⟨e1, n, m, u, hu, k⟩ := h
      have hq : q ≠ p := fun z => by rw [z, hp] at hu; cases hu
      refine ⟨e1, ou q (by rw [hu]; simp) n, ?_, u, kp q u hu, c.mono bb k⟩
      rcases m with m | m
      · exact .inl (by show upd A.H0 p o q = none; rw [upd_ne hq]; exact m)
      · exact .inr m
theorem ec_call {m : α → Option β} {a : α} {b : β} {E : XK} {ta : TA} (h : EvW w ta Γ Γ1 a) (e : m a = some b) : EvC c (tCall (SpC w c m) [] E ta) Γ Γ1 b := fun A σ H B F Q q => h A σ H B F _ fun vs H1 B1 F1 s1 k1 => by
  rw [List.append_nil]
  exact ⟨B1, a, b, F1.sz, F1.bh, k1, e, fun p o H2 B2 P hp k => q p o H2 B2 (F1.afterC P hp) (F1.H0none hp) (s1.trans P.b0) k⟩
end
/-- the sizes of what is tracked are known to whoever runs -/
theorem sz_of_hok {P : Program} {w : World} {H : Hp} {h : Heap} (x : HOk P w H h) : Sz H := fun p o e => by
  have k := x p o e
  cases o with
  | lst xs => exact k.1
  | tup xs => exact k.1
  | dK kvs => exact k.1
  | dT kvs => exact k.1
  | _ => trivial
theorem pss_sz {X : Cx} {st : List Stmt} {t : TS} (h : PSs X st t) : PSs X st (fun D σ H => Sz H → t D σ H) := ⟨fun pins s σ H D I q => h.run pins s σ H D I (q (sz_of_hok I.hok))⟩
/-- as SpP, the sizes not asked for -/
def SpL {α β : Type} (w : Rw α) (r : Rp β) (m : α → Option β) : Sp := fun vs H Q _ => ∃ B a b, Same B H ∧ w.rel B vs a ∧ m a = some b ∧ Rt (amb0 B H) (psi r) b Q
end G

set_option maxHeartbeats 4000000
/-! # G: a statement with more behind it -/
namespace G
open PySem PySem.Spec PyProof.Rows L2
section
variable {α β γ ρ ς : Type} {r ra : Rp α} {rb : Rp β} {c : Cl α} {cc : Cl γ} {w : Rw α} {te : TE} {tt : TT} {t t' u : TS} {D : Ends} {A : Amb} {Γ Γ1 Γ2 M : List Sl} {a : α} {b : β} {i : Nat} {K : PySem.W.Frag} {P : L2.St → Hp → Prop} {ψ : ρ → Hp → Hp → V → Prop} {p : Addr}
theorem sq_next (h : Nx A (u D) Γ) : Nx A (tSeq tNext u D) Γ := h
theorem sq_brk (h : Nx A D.bk Γ) : Nx A (tSeq tBreak u D) Γ := h
theorem sq_cont (h : Nx A D.ct Γ) : Nx A (tSeq tCont u D) Γ := h
theorem sq_asg (h : EvX r te Γ Γ1 a) (k : Nx A (u D) (Γ1.set i (.imm r a))) : Nx A (tSeq (tAsg te (gName i)) u D) Γ := nx_asg (D := { D with nx := u D }) h k
theorem sq_asgC (h : EvC c te Γ Γ1 a) (k : ∀ p, ¬ A.m p → Nx A (u D) (Γ1.set i (.cel p c a))) : Nx A (tSeq (tAsg te (gName i)) u D) Γ := nx_asgC (D := { D with nx := u D }) h k
theorem sq_if {b : Bool} (h : EvT tt Γ Γ1 b) (h1 : b = true → Nx A (t { D with nx := u D }) Γ1) (h2 : b = false → Nx A (t' { D with nx := u D }) Γ1) : Nx A (tSeq (tIfS tt t t') u D) Γ := nx_if (D := { D with nx := u D }) h h1 h2
theorem sq_drop (h : EvX r te Γ Γ1 a) (k : Nx A (u D) Γ1) : Nx A (tSeq (tDrop te) u D) Γ := nx_drop (D := { D with nx := u D }) h k
theorem sq_ret {b : α} (h : EvX r te Γ Γ1 a) (e : some a = some b) (k : Rt A (psi r) b D.rt) : Nx A (tSeq (tRet te) u D) Γ := nx_ret (D := { D with nx := u D }) h e k
theorem sq_retS {st : γ} {b : α × γ} (h : EvX r te Γ Γ1 a) (hi : Γ1[i]? = some (.cel p cc st)) (e : some (a, st) = some b) (k : Rt A (psiS p cc r) b D.rt) : Nx A (tSeq (tRet te) u D) Γ := nx_retS (D := { D with nx := u D }) h hi e k
theorem sq_retC {a b : α} (h : EvC c te Γ Γ1 a) (e : some a = some b) (k : RtC A c b D.rt) : Nx A (tSeq (tRet te) u D) Γ := nx_retC (D := { D with nx := u D }) h e k
theorem sq_asgT {g : TG} {vs : List Nat} {Γf : α → List Sl} (h : EvX r te Γ Γ1 a) (hg : TgX g r vs Γ1 Γf) (k : Nx A (u D) (Γf a)) : Nx A (tSeq (tAsg te g) u D) Γ := nx_asgT (D := { D with nx := u D }) h hg k
theorem sq_setR {k : Nat} {f : α → β → α} (h : EvX rb te Γ Γ1 b) (hi : Γ1[i]? = some (.cel p (cHls w) a)) (g : Upd w k rb f) (n : Nx A (u D) (Γ1.set i (.cel p (cHls w) (f a b)))) : Nx A (tSeq (tAsg te (gSub (tVar i) (tC (.int (k : Int))) rSetL)) u D) Γ := nx_setR (D := { D with nx := u D }) h hi g n
theorem sq_for {wi : TI} {g : TG} {tb : TS} {vs : List Nat} {xs : List α} (f : α → ς → Option (Step ρ ς)) (mk : ς → List Sl) {Γf : α → ς → List Sl} {s0 : ς} {R0 : Step ρ ς}
    (hi : ItX r wi Γ Γ1 xs) (e : forL f xs s0 = some R0) (h0 : ∀ A' : Amb, A'.m = A.m → Nx A' (Fin A' (mk s0)) Γ1)
    (hg : ∀ s, TgX g r vs (mk s) (fun x => Γf x s))
    (hb : ∀ (A' : Amb) (D' : Ends) (x : α) (s : ς) (st : Step ρ ς), A'.m = A.m → f x s = some st → Conts A' ψ D' mk st → Nx A' (tb D') (Γf x s))
    (hr : ∀ b, R0 = .ret b → Rt A ψ b D.rt) (hd : ∀ s, R0 = .nx s → Nx A (u D) (mk s)) : Nx A (tSeq (tFor wi g tb) u D) Γ := nx_for (D := { D with nx := u D }) f mk hi e h0 hg hb hr hd
end
end G

set_option maxHeartbeats 4000000
/-! # G: objects of own classes, errors -/
namespace G
open PySem PySem.Spec PyProof.Rows L2
section
variable {α β γ ρ ς ε : Type} {r ra : Rp α} {rb : Rp β} {rc : Rp γ} {te ta tb : TE} {Γ Γ1 Γ2 : List Sl} {K : PySem.W.Frag} {a : α} {b : β} {w : Rw α} {C : Addr} {names : List Str}
/-- an instance of the class at C, its attributes in the order of their storing -/
def cIns {α : Type} (C : Addr) (names : List Str) (w : Rw α) : Cl α := ⟨fun H o a => ∃ dx vs, o = .ins C dx (names.zip vs) ∧ vs.length = names.length ∧ w.rel H vs a, fun s ⟨dx, vs, e, l, h⟩ => ⟨dx, vs, e, l, w.mono s h⟩⟩
def rIns {α : Type} (C : Addr) (names : List Str) (w : Rw α) : Rp α := rOb (cIns C names w)
theorem zip_lookup : ∀ {names : List Str} {vs : List V} {k : Nat} {nm : Str} {v : V}, names.Nodup → names[k]? = some nm → vs[k]? = some v → (names.zip vs).lookup nm = some v
  | [], _, _, _, _, _, h, _ => by simp at h
  | _ :: _, [], _, _, _, _, _, h => by simp at h
  | n :: ns, u :: us, 0, nm, v, _, h1, h2 => by
    simp at h1 h2; subst h1; subst h2
    simp [List.lookup]
  | n :: ns, u :: us, k + 1, nm, v, nd, h1, h2 => by
    have h1' : ns[k]? = some nm := by simpa using h1
    have h2' : us[k]? = some v := by simpa using h2
    have hne : nm ≠ n := fun e => (List.nodup_cons.mp nd).1 (by rw [← e]; exact List.mem_of_getElem? h1')
    show List.lookup nm ((n, u) :: ns.zip us) = some v
    have e : (nm == n) = false := beq_eq_false_iff_ne.mpr hne
    simp only [List.lookup, e]
    exact zip_lookup (List.nodup_cons.mp nd).2 h1' h2'
theorem zip_none : ∀ {names : List Str} {vs : List V} {nm : Str}, nm ∉ names → (names.zip vs).lookup nm = none
  | [], _, _, _ => by simp
  | _ :: _, [], _, _ => by simp
  | n :: ns, u :: us, nm, h => by
    show List.lookup nm ((n, u) :: ns.zip us) = none
    have e : (nm == n) = false := beq_eq_false_iff_ne.mpr fun e => h (by rw [e]; exact List.mem_cons_self)
    simp only [List.lookup, e]
    exact zip_none fun z => h (List.mem_cons_of_mem _ z)
theorem putF_zip : ∀ {names : List Str} {vs : List V} {nm : Str} {v : V}, nm ∉ names → vs.length = names.length → putF nm v (names.zip vs) = (names ++ [nm]).zip (vs ++ [v])
  | [], [], _, _, _, _ => rfl
  | [], _ :: _, _, _, _, h => by cases h
  | _ :: _, [], _, _, _, h => by cases h
  | n :: ns, u :: us, nm, v, h, l => by
    show (if n = nm then (n, v) :: ns.zip us else (n, u) :: putF nm v (ns.zip us)) = (n, u) :: (ns ++ [nm]).zip (us ++ [v])
    rw [if_neg fun e => h (by rw [e]; exact List.mem_cons_self), putF_zip (fun z => h (List.mem_cons_of_mem _ z)) (by simpa using l)]
theorem ob_ins {B H : Hp} {u : V} (s : Same B H) (h : (rIns C names w).rel B u a) : ∃ p dx vs, u = .ref p ∧ H p = some (.ins C dx (names.zip vs)) ∧ vs.length = names.length ∧ w.rel B vs a := by
  obtain ⟨p, o, e, hp, dx, vs, rfl, l, k⟩ := h
  exact ⟨p, dx, vs, e, s _ _ hp, l, k⟩
theorem ev_fld {k : Nat} {nm : Str} {f : α → β} (h : EvX (rIns C names w) te Γ Γ1 a) (g : Acc w k rb f) (hk : names[k]? = some nm) (nd : names.Nodup) (c : Cls K C) (na : NoAttr K C nm) : EvX rb (tFld K te nm) Γ Γ1 (f a) := fun A σ H B F Q q =>
  h A σ H B F _ fun v H1 B1 F1 s1 k1 => by
    obtain ⟨p, dx, vs, rfl, hp, l, kw⟩ := ob_ins F1.bh k1
    obtain ⟨u, hu, ku⟩ := g B1 vs a kw
    exact ⟨p, C, dx, _, u, rfl, hp, c, na, zip_lookup nd hk hu, q u H1 B1 F1 s1 ku⟩
theorem ev_celFld {i : Nat} {p : Addr} {k : Nat} {nm : Str} {f : α → β} (h : Γ[i]? = some (.cel p (cIns C names w) a)) (g : Acc w k rb f) (hk : names[k]? = some nm) (nd : names.Nodup) (c : Cls K C) (na : NoAttr K C nm) : EvX rb (tFld K (tVar i) nm) Γ Γ (f a) := fun A σ H B F Q q => by
  obtain ⟨e, o, ho, dx, vs, rfl, l, kw⟩ := cel_at F h
  obtain ⟨u, hu, ku⟩ := g B vs a kw
  exact ⟨_, e, p, C, dx, _, u, rfl, ho, c, na, zip_lookup nd hk hu, q u H B F (Same.refl _) ku⟩
/-- one attribute more -/
def Snoc {α β γ : Type} (w : Rw α) (r : Rp β) (w' : Rw γ) (f : α → β → γ) : Prop := ∀ B vs a v b, w.rel B vs a → r.rel B v b → w'.rel B (vs ++ [v]) (f a b)
theorem snoc0 : Snoc w0 ra (w1 ra) (fun _ b => b) := fun B vs a v b h k => ⟨v, by rw [show vs = [] from h]; rfl, k⟩
theorem snoc1 : Snoc (w1 ra) rb (wC ra (w1 rb)) (fun a b => (a, b)) := fun B vs a v b ⟨u, e, h⟩ k => ⟨u, [v], by rw [e]; rfl, h, v, rfl, k⟩
theorem snocC {w : Rw β} {w' : Rw ς} {f : β → γ → ς} (s : Snoc w rc w' f) : Snoc (wC ra w) rc (wC ra w') (fun a b => (a.1, f a.2 b)) := fun B vs a v b ⟨u, t, e, h, g⟩ k => ⟨u, t ++ [v], by rw [e]; rfl, h, s B t a.2 v b g k⟩
theorem sq_fld {A : Amb} {D : Ends} {u : TS} {i : Nat} {p : Addr} {nm : Str} {w' : Rw γ} {f : α → β → γ} (h : EvX rb te Γ Γ1 b) (hi : Γ1[i]? = some (.cel p (cIns C names w) a)) (sn : Snoc w rb w' f) (nn : nm ∉ names) (hl : names.length < 900) (c : Cls K C) (na : NoAttr K C nm)
    (k : Nx A (u D) (Γ1.set i (.cel p (cIns C (names ++ [nm]) w') (f a b)))) : Nx A (tSeq (sFld K (tVar i) te nm) u D) Γ := fun σ H B F => h A σ H B F _ fun v H1 B1 F1 s1 k1 => by
  obtain ⟨e, o, ho, dx, vs, rfl, l, kw⟩ := cel_at F1 hi
  refine ⟨_, e, p, C, dx, _, rfl, ho, c, na, by rw [List.length_zip]; omega, ?_⟩
  exact k σ _ B1 (F1.write hi (c' := cIns C (names ++ [nm]) w') (o' := .ins C dx (putF nm v (names.zip vs))) ⟨dx, vs ++ [v], by rw [putF_zip nn l], by rw [List.length_append, List.length_append, l]; rfl, sn B1 vs a v b kw k1⟩ trivial)
end

/-! ### errors -/
inductive Res (ε β : Type) where
  | ok (b : β)
  | er (e : ε)
def resO {ε β γ : Type} (x : Res ε β) (k : β → Option (Res ε γ)) : Option (Res ε γ) := match x with
  | .ok b => k b
  | .er e => some (.er e)
@[simp] theorem resO_ok {ε β γ : Type} (b : β) (k : β → Option (Res ε γ)) : resO (.ok b) k = k b := rfl
@[simp] theorem resO_er {ε β γ : Type} (e : ε) (k : β → Option (Res ε γ)) : resO (.er e) k = some (.er e) := rfl
/-- how an error of ε lies: its class, its dict's address -/
abbrev ER (ε : Type) := Hp → Value → Option Addr → ε → Prop
def ErAt {α : Type} (H : Hp) (cls : Value) (d : Option Addr) (C : Addr) (names : List Str) (w : Rw α) (a : α) : Prop :=
  cls = .ref C ∧ ∃ dd fs vs, d = some dd ∧ H dd = some (.xd fs) ∧ w.rel H vs a ∧ ∀ (k : Nat) (nm : Str), names[k]? = some nm → fs.lookup nm = vs[k]?
def RtE {ε : Type} (A : Amb) (R : ER ε) (e : ε) (E : XK) : Prop := ∀ cls d H' B', Post A H' B' → R B' cls d e → E cls d H'
def SpX {ε α β : Type} (R : ER ε) (w : Rw α) (r : Rp β) (m : α → Option (Res ε β)) : Sp := fun vs H Q E => ∃ B a x, Sz H ∧ Same B H ∧ w.rel B vs a ∧ m a = some x ∧ (∀ b, x = .ok b → Rt (amb0 B H) (psi r) b Q) ∧ ∀ e, x = .er e → RtE (amb0 B H) R e E
/-- what an __init__ leaves -/
def RtI {β : Type} (A : Amb) (p : Addr) (c : Cl β) (b : β) (Q : VK) : Prop := ∀ H' B', Post A H' B' → (∃ o, H' p = some o ∧ c.ok B' o b) → Q .non H'
def SpI {ε α β : Type} (R : ER ε) (C : Addr) (w : Rw α) (c : Cl β) (m : α → Option (Res ε β)) : Sp := fun vs H Q E => ∃ p dx vs' B a x, vs = .ref p :: vs' ∧ H p = some (.ins C dx []) ∧ B p = none ∧ Sz H ∧ Same B H ∧ w.rel B vs' a ∧ m a = some x ∧
  (∀ b, x = .ok b → RtI (ambS B H p) p c b Q) ∧ ∀ e, x = .er e → RtE (ambS B H p) R e E
/-- an error's __init__: its arguments are stored, one or two -/
def SpE1 (C : Addr) (nm : Str) : Sp := fun vs H Q _ => ∃ a v, vs = [.ref a, v] ∧ H a = some (exo a C none) ∧ ∀ dx, H dx = none → dx ≠ a → Q .non (upd (upd H dx (exd dx [(nm, v)])) a (exo a C (some dx)))
def SpE2 (C : Addr) (n1 n2 : Str) : Sp := fun vs H Q _ => ∃ a v u, vs = [.ref a, v, u] ∧ H a = some (exo a C none) ∧ ∀ dx, H dx = none → dx ≠ a → Q .non (upd (upd H dx (exd dx [(n2, u), (n1, v)])) a (exo a C (some dx)))
section
variable {P : Program} {w : World} {K : PySem.W.Frag} {mg : Str → Option Value} {base : Heap}
/-- the body «self.nm = nm» -/
theorem okE1 {f C : Addr} {fd : FuncData} {st : Stmt} {N : List Str} {qual nm p1 : Str} {pos1 pos2 pos3 pos4 : Pos} (F : Fun K "__init__" qual st f fd) (S : FnScope N ["self", p1] (defScope st)) (T : OexC K C) (na : PySem.W.findIn K (.ref C) nm = some none)
    (hb : defBody st = [.Assign [.Attribute (.Name "self" pos1) nm pos2] (.Name p1 pos3) pos4]) (h0 : N[0]? = some ("self" : Str)) (h1 : N[1]? = some p1) (v0 : Vis (defScope st) ("self" : Str)) (v1 : Vis (defScope st) p1)
    (d0 : (p1 == ("__debug__" : Str)) = false) (d1 : (p1 == ("__classdict__" : Str)) = false) (hl : N.length = 2) : FnOk P w K mg base CX0 1 f fd ["self", p1] (SpE1 C nm) := by
  refine F.ok S (fun vs H Q E h => ?_) (fun cdv A outer s H vs Q E hr h => ?_)
  · obtain ⟨a, v, rfl, _⟩ := h; rfl
  · obtain ⟨a, v, rfl, ha, k⟩ := h
    rw [hb]
    refine ⟨_, pss_one (ps_ost (pe_var (i := 0) h0 v0) (pe_var (i := 1) h1 v1 d0 d1)), ?_⟩
    have hN : L2.start N [.ref a, v] = [some (.ref a), some v] := by
      unfold L2.start; simp [hl]
    rw [hN]
    exact ⟨v, rfl, _, rfl, a, C, rfl, T, na, .inl ⟨ha, fun dx n ne => k dx n ne⟩⟩
end
theorem upd_comm {H : Hp} {a b : Addr} {o u : HO} (h : a ≠ b) : upd (upd H a o) b u = upd (upd H b u) a o := by
  funext c; unfold upd
  by_cases h1 : c = b
  · by_cases h2 : c = a
    · exact absurd (h2.symm.trans h1) h
    · rw [if_pos h1, if_neg h2, if_pos h1]
  · rw [if_neg h1]
    by_cases h2 : c = a
    · rw [if_pos h2, if_pos h2]
    · rw [if_neg h2, if_neg h2, if_neg h1]
theorem del_made {H : Hp} {a dx : Addr} {o1 o2 o3 o4 : HO} (ha : H a = none) (ne : dx ≠ a) : upd (del (upd (upd (upd H a o1) dx o2) a o3) a) dx o4 = upd H dx o4 := by
  funext c
  by_cases h1 : c = dx
  · rw [h1, upd_same, upd_same]
  · rw [upd_ne h1, upd_ne h1]
    by_cases h2 : c = a
    · rw [h2, del_same, ha]
    · rw [del_ne h2, upd_ne h2, upd_ne h1, upd_ne h2]
section
variable {α β γ ρ ς ε : Type} {r ra : Rp α} {rb : Rp β} {te : TE} {ta : TA} {Γ Γ1 Γ2 : List Sl} {K : PySem.W.Frag} {a : α} {b : β} {w : Rw α} {C : Addr} {A : Amb} {D : Ends} {u : TS} {R : ER ε} {E : XK}
theorem Frm.plus {σ : L2.St} {H B : Hp} {p : Addr} {o : HO} (F : Frm A σ H B Γ) (hp : H p = none) (ho : szO o) : Frm A σ (upd H p o) (upd B p o) Γ := (F.fresh hp ho).adopt (F.H0none hp) F.sub F.mh
/-- raise C(x): one argument -/
theorem sq_raise1 {nm : Str} {W : WX} {e : ε} (h : EvX r te Γ Γ1 a) (k : RtE A R e E) (hR : ∀ B cls d, ErAt B cls d C [nm] (w1 r) a → R B cls d e) (hW : ∀ cls d σ H, E cls d H → W cls d σ H) :
    Nx A (tSeq (fun _ σ H => tMkO C (SpE1 C nm) [] (tCons te tNil) σ H fun cls d H' => W cls d σ H') u D) Γ := fun σ H B F => h A σ H B F _ fun v H1 B1 F1 s1 k1 => by
  refine ⟨by show 1 ≤ 1000; decide, fun x hx => ⟨x, v, rfl, upd_same, fun dx n ne => ⟨rfl, dx, [(nm, v)], upd_same, ?_, ?_, ?_⟩⟩⟩
  · rw [upd_ne ne, upd_same]
  · rw [upd_ne ne] at n; exact n
  · have n1 : H1 dx = none := by rw [upd_ne ne] at n; exact n
    rw [del_made hx ne]
    refine hW _ _ _ _ (k _ _ _ _ (F1.plus (o := .xd [(nm, v)]) n1 trivial).post (hR _ _ _ ⟨rfl, dx, [(nm, v)], [v], rfl, upd_same, ⟨v, rfl, ?_⟩, fun j m hj => ?_⟩))
    · exact r.mono (fun b o q => by rw [upd_ne (ne_of_none (F1.bh b o q) n1)]; exact q) k1
    · cases j with
      | zero => simp at hj; subst hj; simp [List.lookup]
      | succ j => simp at hj
end
/-! ### a call that may raise -/
/-- an expression with two ends; W is what is wished of an error -/
def EvR {ε α : Type} (R : ER ε) (r : Rp α) (te : (L2.St → XK) → TE) (Γ Γ' : List Sl) (x : Res ε α) : Prop := ∀ (A : Amb) (σ : L2.St) (H B : Hp), Frm A σ H B Γ → ∀ (E : L2.St → XK) (Q : VK),
  (∀ b, x = .ok b → ∀ v H' B', Frm A σ H' B' Γ' → Same B B' → r.rel B' v b → Q v H') → (∀ e, x = .er e → ∀ cls d H' B', Frm A σ H' B' Γ' → Same B B' → R B' cls d e → E σ cls d H') → te E σ H Q
/-- C(e, ..) whose __init__ may raise, within a try -/
def tMakeS (C : Addr) (sp : Sp) (E : L2.St → XK) (t : TA) : TE := fun σ H Q => t σ H fun vs H1 => ∀ x dx, H1 x = none → H1 dx = none → dx ≠ x →
  sp (.ref x :: vs) (upd (upd H1 dx (.own x)) x (.ins C dx [])) (fun v H2 => v = .non ∧ Q (.ref x) H2) (E σ)
section
variable {X : Cx} {CX : CXT} {k : Nat} {f C : Addr} {fd : FuncData} {ps : List Str} {sp : Sp} {E : L2.St → XK} {x : Str} {p pos : Pos} {e : Expr} {es : List Expr} {t : TA}
theorem run_makeS {pins : List (Addr × Obj)} {σ : L2.St} {H : Hp} {s : Shared} {Q : VK} {us : List Value} {vs : List V} (M : Mk X.K C f) (F : FnOk X.prog X.w X.K X.mg X.base CX k f fd ps sp) (hr : Room (k + 1) X.A) (hb : Binds X.K fd ps [])
    (hx : ∀ (pins : List (Addr × Obj)) (H' : Hp) (s : Shared) (e : Value) (s' : Shared), Inv X pins σ H' s → CX X.stack H' s (E σ) e s' → X.xe e s') (I : Inv X pins σ H s) (r : Vals vs us)
    (h : ∀ x dx, H x = none → H dx = none → dx ≠ x → sp (.ref x :: vs) (upd (upd H dx (.own x)) x (.ins C dx [])) (fun v H2 => v = .non ∧ Q (.ref x) H2) (E σ)) :
    wpAny (model X.prog X.w) X.A (call (.ref C) us) (EP X pins σ Q) X.xe s := by
  have hq := h (s.heap.objs.size + 1) s.heap.objs.size (I.hok.fresh (Nat.le_succ _)) (I.hok.fresh (Nat.le_refl _)) (Nat.ne_of_lt (Nat.lt_succ_self _))
  have I2 := Inv.made (C := C) I
  have r2 : Vals (V.ref (s.heap.objs.size + 1) :: vs) (Value.ref (s.heap.objs.size + 1) :: us) := .cons rfl r
  have hl : (Value.ref (s.heap.objs.size + 1) :: us).length = ps.length := by
    have e := r2.length
    rw [F.len _ _ _ _ hq] at e
    exact e.symm
  have bb := hb _ (Value.ref (s.heap.objs.size + 1) :: us) I2.kIn (by rw [List.append_nil]; exact hl)
  rw [List.append_nil] at bb
  refine wpAny_call (make_map (f := f) I.kIn M.makes M.init (beq_iff_eq.mp M.fn) (codeAny_mono (F.run _ X.stack _ _ ⟨Value.ref (s.heap.objs.size + 1) :: us, []⟩ (Value.ref (s.heap.objs.size + 1) :: us) _ _ (E σ) (hr.make C us [])
    (I2.env0.make C us []) bb r2 hq) fun r s' hq' => ?_))
  cases r with
  | error e => exact hx pins _ _ e s' I2 hq'
  | ok fl =>
    cases fl with
    | ret u =>
      obtain ⟨v, H2, os2, bare2, un2, hok2, rv, ev, q2⟩ := hq'
      subst ev
      exact ⟨rv, .ref (s.heap.objs.size + 1), H2, I2.call' (ch := []) os2 un2 hok2 bare2 (fun b z => absurd z (by simp)), rfl, q2⟩
    | next => exact False.elim hq'
    | brk => exact False.elim hq'
    | cont => exact False.elim hq'
theorem pe_makeS (M : Mk X.K C f) (F : FnOk X.prog X.w X.K X.mg X.base CX k f fd ps sp) (hr : Room (k + 1) X.A) (hg : Gl X x) (hm : X.mg x = some (.ref C)) (hb : Binds X.K fd ps [])
    (hx : ∀ σ, PassesAt CX X σ (E σ)) (ha : PA X (e :: es) t) (hdb : (x == ("__debug__" : Str)) = false := by decide) (he : starEach (e :: es) X.env = (false, eval e X.env) :: starEach es X.env := by rfl) (hpl : (backTo pos (starEach es X.env)).any (·.1) = false := by rfl) :
    PE X (.Call (.Name x p) (e :: es) [] pos) (tMakeS C sp E t) := by
  refine ⟨fun pins s σ H Q I h => ?_⟩
  refine wpAny_Call_Name_kw (ld_glob I hg hm ?_ hdb)
  refine PySem.W.callWith_K (h₀ := X.base) I.ok.mod.kin M.kp (thn (ha.run pos pins s σ H _ I h) fun us s1 ⟨vs, H1, I1, r, q⟩ => ⟨I1.kIn, ?_⟩) he hpl
  exact run_makeS M F hr hb (fun pins H' s e s' I' c => hx σ pins H' s e s' I' c) I1 r q
end
section
variable {α β γ ρ ς ε : Type} {r ra : Rp α} {rb : Rp β} {ta : TA} {Γ Γ1 Γ2 : List Sl} {K : PySem.W.Frag} {a : α} {b : β} {w : Rw α} {C : Addr} {names : List Str} {A : Amb} {D : Ends} {u : TS} {R : ER ε}
/-- what an object is, behind its making -/
theorem made_frame {σ : L2.St} {H B : Hp} {x dx : Addr} (F : Frm A σ H B Γ) (hx : H x = none) (hd : H dx = none) (ne : dx ≠ x) {H' B' : Hp}
    (P : Post (ambS (upd B dx (.own x)) (upd (upd H dx (.own x)) x (.ins C dx [])) x) H' B') {o : HO} (ho : H' x = some o) : Frm (A.add x o) σ H' B' Γ := by
  have kp : ∀ q u, H q = some u → H' q = some u := fun q u e => P.keep q u (fun (z : q = x) => by rw [z, hx] at e; cases e) (by
    show upd (upd H dx (.own x)) x (.ins C dx []) q = some u
    rw [upd_ne (ne_of_none e hx), upd_ne (ne_of_none e hd)]; exact e)
  have bdx : B dx = none := by
    cases e : B dx with
    | none => rfl
    | some u => have := F.bh dx u e; rw [hd] at this; cases this
  have bb : Same B B' := fun q u e => P.b0 q u (by show upd B dx (.own x) q = some u; rw [upd_ne (ne_of_none e bdx)]; exact e)
  have nout : ∀ q, H q ≠ none → B q = none → B' q = none := fun q n z => by
    have q1 : q ≠ x := fun e => n (by rw [e]; exact hx)
    have q2 : q ≠ dx := fun e => n (by rw [e]; exact hd)
    exact P.out q (by show upd (upd H dx (.own x)) x (.ins C dx []) q ≠ none; rw [upd_ne q1, upd_ne q2]; exact n) (by show upd B dx (.own x) q = none; rw [upd_ne q2]; exact z)
  have al : ∀ q, H q ≠ none → H' q ≠ none := fun q n => by
    cases e : H q with
    | none => exact absurd e n
    | some u => rw [kp q u e]; simp
  have h0 := F.H0none hx
  have bx : B' x = none := P.out x (by show upd (upd H dx (.own x)) x (.ins C dx []) x ≠ none; rw [upd_same]; simp) (by
    show upd B dx (.own x) x = none
    rw [upd_ne (Ne.symm ne)]
    cases e : B x with
    | none => rfl
    | some u => have := F.bh x u e; rw [hx] at this; cases this)
  refine ⟨⟨P.bh, fun q u e => bb q u (F.b0 q u e), fun q u m e => ?_, fun q n z => ?_, fun q n => ?_, fun q u e => ?_, fun q m => ?_, A.up _ _ bb F.ph, P.sz⟩, F.len, fun i s e => ?_, F.ds⟩
  · by_cases hq : q = x
    · subst hq
      have e' : upd A.H0 q o q = some u := e
      rw [upd_same] at e'
      cases e'; exact ho
    · have e' : upd A.H0 x o q = some u := e
      rw [upd_ne hq] at e'
      exact kp q u (F.keep q u m e')
  · by_cases hq : q = x
    · rw [hq]; exact bx
    · have n' : upd A.H0 x o q ≠ none := n
      rw [upd_ne hq] at n'
      exact nout q (F.alive q n') (F.out q n' z)
  · by_cases hq : q = x
    · rw [hq, ho]; simp
    · have n' : upd A.H0 x o q ≠ none := n
      rw [upd_ne hq] at n'
      exact al q (F.alive q n')
  · have hq : q ≠ x := fun z => by rw [z] at e; exact absurd (F.sub x u e) (by rw [h0]; simp)
    show upd A.H0 x o q = some u
    rw [upd_ne hq]; exact F.sub q u e
  · have := F.mh q m
    have hq : q ≠ x := fun z => this (by rw [z]; exact h0)
    show upd A.H0 x o q ≠ none
    rw [upd_ne hq]; exact this
  · have h := F.sl i s e
    have hh := fun z => F.hot e (p := z)
    cases s with
    | no => trivial
    | imm r a => obtain ⟨v, e, k⟩ := h; exact ⟨v, e, r.mono bb k⟩
    | cel q c a =>
      obtain ⟨e1, n, m, u, hu, k⟩ := h
      have hq : q ≠ x := fun z => by rw [z, hx] at hu; cases hu
      refine ⟨e1, nout q (by rw [hu]; simp) n, ?_, u, kp q u hu, c.mono bb k⟩
      rcases m with m | m
      · exact .inl (by show upd A.H0 x o q = none; rw [upd_ne hq]; exact m)
      · exact .inr m
theorem made_pre {σ : L2.St} {H B : Hp} {x dx : Addr} (F : Frm A σ H B Γ) (hx : H x = none) (hd : H dx = none) (ne : dx ≠ x) :
    Sz (upd (upd H dx (.own x)) x (.ins C dx [])) ∧ Same (upd B dx (.own x)) (upd (upd H dx (.own x)) x (.ins C dx [])) ∧ (upd B dx (.own x)) x = none ∧ Same B (upd B dx (.own x)) := by
  have bx : B x = none := by
    cases e : B x with
    | none => rfl
    | some u => have := F.bh x u e; rw [hx] at this; cases this
  have bdx : B dx = none := by
    cases e : B dx with
    | none => rfl
    | some u => have := F.bh dx u e; rw [hd] at this; cases this
  refine ⟨(F.sz.upd (o := .own x) trivial).upd (o := .ins C dx []) trivial, fun q u e => ?_, by rw [upd_ne (Ne.symm ne)]; exact bx, fun q u e => by rw [upd_ne (ne_of_none e bdx)]; exact e⟩
  by_cases hq : q = dx
  · subst hq
    rw [upd_same] at e; cases e
    rw [upd_ne ne, upd_same]
  · rw [upd_ne hq] at e
    rw [upd_ne (ne_of_none (F.bh q u e) hx), upd_ne hq]; exact F.bh q u e
/-- a class is called; its __init__ may raise -/
theorem er_make {wb : Rw β} {m : α → Option (Res ε β)} {x : Res ε β} (hmono : ∀ {H H' cls d e}, Same H H' → R H cls d e → R H' cls d e) (h : EvW w ta Γ Γ1 a) (e : m a = some x) :
    EvR R (rIns C names wb) (fun E => tMakeS C (SpI R C w (cIns C names wb) m) E ta) Γ Γ1 x := fun A σ H B F E Q qo qe => h A σ H B F _ fun vs H1 B1 F1 s1 k1 => by
  intro y dy hy hd ne
  obtain ⟨p1, p2, p3, p4⟩ := made_pre (C := C) F1 hy hd ne
  refine ⟨y, dy, vs, upd B1 dy (.own y), a, x, rfl, upd_same, p3, p1, p2, w.mono p4 k1, e, fun b hb H2 B2 P ⟨o, ho, k⟩ => ⟨rfl, ?_⟩, fun er he cls d H2 B2 P k => ?_⟩
  · have F2 := made_frame (A := A) F1 hy hd ne P ho
    have n0 := F1.H0none hy
    have F3 := F2.adopt n0 F1.sub F1.mh
    have hB2 : B2 y = none := P.out y (by show upd (upd H1 dy (.own y)) y (.ins C dy []) y ≠ none; rw [upd_same]; simp) p3
    have s3 : Same B2 (upd B2 y o) := fun q u e => by rw [upd_ne (ne_of_none e hB2)]; exact e
    exact qo b hb _ _ _ F3 (s1.trans (p4.trans (P.b0.trans s3))) ⟨y, o, rfl, upd_same, (cIns C names wb).mono s3 k⟩
  · -- the object is let go: it is forgotten among what is hidden
    have hox : ∃ o, H2 y = some o := by
      cases q : H2 y with
      | none => exact absurd q (P.alive y (by show upd (upd H1 dy (.own y)) y (.ins C dy []) y ≠ none; rw [upd_same]; simp))
      | some o => exact ⟨o, rfl⟩
    obtain ⟨o, ho⟩ := hox
    exact qe er he cls d _ _ ((made_frame (A := A) F1 hy hd ne P ho).drop (F1.H0none hy) F1.sub F1.mh) (s1.trans (p4.trans P.b0)) k
end
end G

set_option maxHeartbeats 4000000
/-! # G: more words: in, ==, +, append, enumerate -/
namespace G
open PySem PySem.Spec PyProof.Rows L2
section
variable {α β γ ρ ς ε : Type} {r ra : Rp α} {rb : Rp β} {c : Cl α} {te ta tb : TE} {Γ Γ1 Γ2 : List Sl} {K : PySem.W.Frag} {a x : α} {b : β} {w : Rw α} {xs ys zs : List α} {i : Nat} {p : Addr} {A : Amb} {D : Ends} {u : TS}
/-! ### in -/
structure Fl {α : Type} [DecidableEq α] (r : Rp α) extends Sc r where
  fl : ∀ a, flatV (val a) = true
  eq : ∀ a b, eqV (val a) (val b) = decide (a = b)
theorem bq_int (i j : Int) : (i == j) = decide (i = j) := by by_cases h : i = j <;> simp [h]
theorem bq_str (i j : Str) : (i == j) = decide (i = j) := by by_cases h : i = j <;> simp [h]
theorem bq_bool (i j : Bool) : (i == j) = decide (i = j) := by cases i <;> cases j <;> rfl
def fl_int : Fl rInt := { scInt with fl := fun _ => rfl, eq := bq_int }
def fl_str : Fl rStr := { scStr with fl := fun _ => rfl, eq := bq_str }
def fl_bool : Fl rBool := { scBool with fl := fun _ => rfl, eq := bq_bool }
theorem Fl.vals [DecidableEq α] (f : Fl r) {B : Hp} {vs : List V} (h : Paired (r.rel B) vs xs) : vs = xs.map f.val := Paired.mapEq (fun _ _ k => f.ok k) h
theorem Fl.inv [DecidableEq α] (f : Fl r) (a : α) : ∀ xs : List α, inV (f.val a) (xs.map f.val) = decide (a ∈ xs)
  | [] => rfl
  | x :: xs => by
    have ih := f.inv a xs
    unfold inV at ih ⊢
    rw [List.map_cons, List.any_cons, ih, f.eq]
    by_cases h : x = a
    · subst h; simp
    · have h' : ¬ a = x := fun e => h e.symm
      by_cases h2 : a ∈ xs <;> simp [h, h', h2]
theorem Fl.allf [DecidableEq α] (f : Fl r) : ∀ xs : List α, (xs.map f.val).all flatV = true
  | [] => rfl
  | x :: xs => by rw [List.map_cons, List.all_cons, f.fl, f.allf xs]; rfl
theorem rin_of [DecidableEq α] (f : Fl r) {H B : Hp} {v : V} {vs : List V} {q : Addr} (neg : Bool) (hs : SqL K H q vs ∨ SqT K H q vs) (hv : r.rel B v a) (hp : Paired (r.rel B) vs xs) {Q : VK} (k : Q (.bl (if neg then !decide (a ∈ xs) else decide (a ∈ xs))) H) : rIn K neg v (.ref q) H Q := by
  rw [f.ok hv]
  refine ⟨q, vs, rfl, hs, f.fl a, by rw [f.vals hp]; exact f.allf xs, ?_⟩
  rw [f.vals hp, f.inv]; exact k
theorem ev_inL [DecidableEq α] (f : Fl r) (ha : EvX r ta Γ Γ1 a) (hb : EvX (rLst r) tb Γ1 Γ2 xs) : EvX rBool (tOp (rIn K false) ta tb) Γ Γ2 (decide (a ∈ xs)) := ev_op ha hb fun H B u v s ku kv Q q => by
  obtain ⟨p, vs, rfl, hp, k⟩ := ob_lst s kv
  exact rin_of f false (.inl (SqL.of hp)) ku k (q _ rfl)
theorem ev_ninL [DecidableEq α] (f : Fl r) (ha : EvX r ta Γ Γ1 a) (hb : EvX (rLst r) tb Γ1 Γ2 xs) : EvX rBool (tOp (rIn K true) ta tb) Γ Γ2 (!decide (a ∈ xs)) := ev_op ha hb fun H B u v s ku kv Q q => by
  obtain ⟨p, vs, rfl, hp, k⟩ := ob_lst s kv
  exact rin_of f true (.inl (SqL.of hp)) ku k (q _ rfl)
theorem ev_inT [DecidableEq α] (f : Fl r) (ha : EvX r ta Γ Γ1 a) (hb : EvX (rTpl r) tb Γ1 Γ2 xs) : EvX rBool (tOp (rIn K false) ta tb) Γ Γ2 (decide (a ∈ xs)) := ev_op ha hb fun H B u v s ku kv Q q => by
  obtain ⟨p, vs, rfl, hp, k⟩ := ob_tpl s kv
  exact rin_of f false (.inr (SqT.of hp)) ku k (q _ rfl)
theorem ev_ninT [DecidableEq α] (f : Fl r) (ha : EvX r ta Γ Γ1 a) (hb : EvX (rTpl r) tb Γ1 Γ2 xs) : EvX rBool (tOp (rIn K true) ta tb) Γ Γ2 (!decide (a ∈ xs)) := ev_op ha hb fun H B u v s ku kv Q q => by
  obtain ⟨p, vs, rfl, hp, k⟩ := ob_tpl s kv
  exact rin_of f true (.inr (SqT.of hp)) ku k (q _ rfl)
theorem cel_lst {A : Amb} {σ : L2.St} {H B : Hp} (F : Frm A σ H B Γ) (h : Γ[i]? = some (.cel p (cLst r) xs)) : σ[i]? = some (some (V.ref p)) ∧ ∃ vs, H p = some (.lst vs) ∧ Paired (r.rel B) vs xs := by
  obtain ⟨e, o, ho, vs, rfl, k⟩ := cel_at F h
  exact ⟨e, vs, ho, k⟩
theorem ev_inCel [DecidableEq α] (ha : EvX r ta Γ Γ1 a) (hi : Γ1[i]? = some (.cel p (cLst r) xs)) (f : Fl r) : EvX rBool (tOp (rIn K false) ta (tVar i)) Γ Γ1 (decide (a ∈ xs)) := fun A σ H B F Q q => ha A σ H B F _ fun v H' B' F' s k => by
  obtain ⟨e, vs, hp, kp⟩ := cel_lst F' hi
  exact ⟨_, e, rin_of f false (.inl (SqL.of hp)) k kp (q _ H' B' F' s rfl)⟩
theorem ev_ninCel [DecidableEq α] (ha : EvX r ta Γ Γ1 a) (hi : Γ1[i]? = some (.cel p (cLst r) xs)) (f : Fl r) : EvX rBool (tOp (rIn K true) ta (tVar i)) Γ Γ1 (!decide (a ∈ xs)) := fun A σ H B F Q q => ha A σ H B F _ fun v H' B' F' s k => by
  obtain ⟨e, vs, hp, kp⟩ := cel_lst F' hi
  exact ⟨_, e, rin_of f true (.inl (SqL.of hp)) k kp (q _ H' B' F' s rfl)⟩
/-! ### a list of the frame's own -/
theorem ev_lenCel (hi : Γ[i]? = some (.cel p (cLst r) xs)) : EvX rInt (tCB (RLen K) (tCons (tVar i) tNil)) Γ Γ (xs.length : Int) := fun A σ H B F Q q => by
  obtain ⟨e, vs, hp, kp⟩ := cel_lst F hi
  exact ⟨_, e, p, vs, rfl, .inl (SqL.of hp), by rw [Paired.len kp]; exact q _ H B F (Same.refl _) rfl⟩
theorem ev_ixCel {j : Int} (hi : Γ[i]? = some (.cel p (cLst r) xs)) (hi1 : Γ1[i]? = some (.cel p (cLst r) xs)) (hb : EvX rInt tb Γ Γ1 j) (e : atI xs j = some a) : EvX r (tOp (rIxL K) (tVar i) tb) Γ Γ1 a := fun A σ H B F Q q => by
  obtain ⟨e1, vs, hp, kp⟩ := cel_lst F hi
  refine ⟨_, e1, hb A σ H B F _ fun v H' B' F' s k => ?_⟩
  obtain ⟨e2, vs2, hp2, kp2⟩ := cel_lst F' hi1
  obtain ⟨o, ho, ko⟩ := atI_rel kp2 e
  exact ⟨p, vs2, j, o, rfl, k, SqL.of hp2, ho, q o H' B' F' s ko⟩
def pyApp (xs : List α) (a : α) : Option (List α) := if xs.length < 1000000 then some (xs ++ [a]) else none
theorem sq_app {rx : Rp γ} {x0 : List γ} (h : EvX r te Γ Γ1 a) (hi0 : Γ[i]? = some (.cel p (cLst rx) x0)) (hi : Γ1[i]? = some (.cel p (cLst r) xs)) (e : pyApp xs a = some ys) (k : Nx A (u D) (Γ1.set i (.cel p (cLst r) ys))) :
    Nx A (tSeq (tDrop (tBM K "list" rAppend (tVar i) (tCons te tNil))) u D) Γ := fun σ H B F => by
  unfold pyApp at e
  split at e
  · rename_i hl
    cases e
    obtain ⟨e1, vs, hp, kp⟩ := cel_lst F hi0
    refine ⟨_, e1, .inl ⟨rfl, vs, SqL.of hp⟩, h A σ H B F _ fun v H1 B1 F1 s1 k1 => ?_⟩
    obtain ⟨e2, vs2, hp2, kp2⟩ := cel_lst F1 hi
    have hz : vs2.length < sizeLine := by rw [Paired.len kp2]; exact Nat.lt_of_lt_of_le hl (by decide)
    refine ⟨p, vs2, v, rfl, rfl, hp2, hz, k σ _ B1 (F1.write hi (c' := cLst r) (o' := .lst (vs2 ++ [v])) ⟨_, rfl, Paired.app kp2 (.cons k1 .nil)⟩ (by show (vs2 ++ [v]).length ≤ sizeLine; rw [List.length_append, List.length_singleton]; omega))⟩
  · cases e
/-! ### + -/
def pyCat (xs ys : List α) : Option (List α) := if xs.length + ys.length ≤ 1000000 then some (xs ++ ys) else none
theorem ec_cat (ha : EvX (rLst r) ta Γ Γ1 xs) (hb : EvX (rLst r) tb Γ1 Γ2 ys) (e : pyCat xs ys = some zs) : EvC (cLst r) (tOp rCat ta tb) Γ Γ2 zs := by
  unfold pyCat at e
  split at e
  · rename_i hl
    cases e
    refine ev_opC ha hb fun H B u v z s ku kv Q q => ?_
    obtain ⟨p, vs, rfl, hp, k⟩ := ob_lst s ku
    obtain ⟨p2, ws, rfl, hp2, k2⟩ := ob_lst s kv
    have hz : vs.length + ws.length ≤ sizeLine := by rw [Paired.len k, Paired.len k2]; exact Nat.le_trans hl (by decide)
    exact ⟨p, p2, vs, ws, rfl, rfl, hp, hp2, hz, fun l hl => q l _ hl (by show (vs ++ ws).length ≤ sizeLine; rw [List.length_append]; exact hz) ⟨_, rfl, Paired.app k k2⟩⟩
  · cases e
/-! ### enumerate -/
def enumF {α : Type} (n : Nat) : List α → List (Int × α)
  | [] => []
  | a :: xs => (((n : Nat) : Int), a) :: enumF (n + 1) xs
def enumL {α : Type} (xs : List α) : List (Int × α) := enumF 0 xs
theorem enumF_len : ∀ (xs : List α) (n : Nat), (enumF n xs).length = xs.length
  | [], _ => rfl
  | _ :: xs, n => by show (enumF (n + 1) xs).length + 1 = _; rw [enumF_len xs]; rfl
theorem enumF_get : ∀ {xs : List α} {n i : Nat} {y : Int × α}, (enumF n xs)[i]? = some y → ∃ a, xs[i]? = some a ∧ y = (((n + i : Nat) : Int), a)
  | [], _, _, _, h => by cases h
  | a :: xs, n, 0, y, h => by
    have h' : (((n : Nat) : Int), a) = y := by simpa [enumF] using h
    exact ⟨a, rfl, h'.symm⟩
  | a :: xs, n, i + 1, y, h => by
    have h' : (enumF (n + 1) xs)[i]? = some y := by simpa [enumF] using h
    obtain ⟨b, h1, h2⟩ := enumF_get h'
    refine ⟨b, by simpa using h1, ?_⟩
    rw [h2, show n + 1 + i = n + (i + 1) by omega]
theorem enumL_len (xs : List α) : (enumL xs).length = xs.length := enumF_len xs 0
theorem it_enum (h : EvX (rLst r) te Γ Γ1 xs) : ItX (rTup (wC rInt (w1 r))) (iEnum K (tCons te tNil)) Γ Γ1 (enumL xs) := fun A σ H B F R q => h A σ H B F _ fun v H' B' F' s k => by
  obtain ⟨p, o, rfl, hp, vs, rfl, kp⟩ := k
  refine ⟨p, vs, rfl, SqL.of (F'.bh _ _ hp), q _ H' B' F' s ⟨by rw [enumL_len, ← Paired.len kp]; exact F'.sz _ _ (F'.bh _ _ hp), fun H2 B2 s1 s2 => ?_, fun i H2 B2 s1 s2 hi => ?_, fun i x H2 B2 v H3 s1 s2 hx hy A σ Γ F => ?_⟩⟩
  · exact ⟨vs, SqL.of (s2 _ _ (s1 _ _ hp)), by rw [enumL_len, Paired.len kp]; exact Nat.le_refl _⟩
  · rw [enumL_len] at hi
    obtain ⟨y, hy⟩ : ∃ y, vs[i]? = some y := ⟨_, List.getElem?_eq_getElem (by rw [Paired.len kp]; exact hi)⟩
    exact ⟨vs, y, SqL.of (s2 _ _ (s1 _ _ hp)), hy⟩
  · obtain ⟨T, y', rfl, hT, rfl, hv⟩ := hy
    obtain ⟨a, ha, rfl⟩ := enumF_get hx
    obtain ⟨y2, hy', ky⟩ := Paired.getR kp ha
    have e := (hv vs (SqL.of (s2 _ _ (s1 _ _ hp)))).symm
    rw [hy'] at e; obtain rfl := Option.some.inj e
    have hB : B2 T = none := by
      cases q : B2 T with
      | none => rfl
      | some u => have := F.bh T u q; rw [hT] at this; cases this
    have s' : Same B2 (upd B2 T (.tup [.int (i : Nat), y'])) := fun b u e => by rw [upd_ne (ne_of_none e hB)]; exact e
    refine ⟨_, F.plus (o := .tup [.int (i : Nat), y']) hT (by show 2 ≤ sizeLine; decide), s', T, _, rfl, upd_same, _, rfl, .int (i : Nat), [y'], rfl, ?_, y', rfl, r.mono s' (r.mono s1 ky)⟩
    show V.int (i : Nat) = V.int ((0 + i : Nat) : Int)
    rw [Nat.zero_add]
end
end G

set_option maxHeartbeats 4000000
/-! # G: try; classes that are made; methods; data that are compared -/
namespace G
open PySem PySem.Spec PyProof.Rows L2
/-! ### try -/
/-- the suite is told where its reading is told -/
def tSui (X : Cx) (st : List Stmt) : Addr → Value → Option Addr → TS := fun a cls d D σ H => ∃ t : TS, (∀ (oe : Obj) (pn : List (Addr × Obj)), Zc cls d oe → (∃ vs, oe.data = .fields vs) → PSs (X.suite a ((a, oe) :: pn)) st t) ∧ t D σ H
def tBod (X : Cx) (st : List Stmt) (W : WX) : TS := fun D σ H => ∃ t : TS, (∀ (pn : List (Addr × Obj)) (xe : Value → Shared → Prop), Takes (X.tr pn xe) W → PassesOwn (model X.prog X.w) X.A X.env xe → PSs (X.tr pn xe) st t) ∧ t D σ H
section
variable {X : Cx} {x n : Str} {c : Value} {i : Nat} {body suite : List Stmt} {b₀ : Stmt} {np pos pos' : Pos} {Wout : WX}
theorem ps_tryG (hs : X.stack = X.env :: X.outer) (hf : X.env.frame = some X.env.locals) (hN : X.N.Nodup) (hi : X.N[i]? = some n) (hln : X.env.kindOf n = some .local) (hc : Names X x c) (tk : Takes X Wout) :
    PS X (.Try body [.ExceptHandler (some (.Name x np)) (some n) (b₀ :: suite) pos'] [] [] pos) (fun D σ H => tBod X body (wAs X.K c i (tSui X (b₀ :: suite)) Wout D) D σ H) :=
  ps_try_as (tb := fun W => tBod X body W) (ts := tSui X (b₀ :: suite)) hs hf hN hi hln hc tk
    (fun W pn xe tk' po => ⟨fun pins s σ H D I ⟨t, ht, q⟩ => (ht pn xe tk' po).run pins s σ H D I q⟩)
    (fun a oe cls d pn hz hf' => ⟨fun pins s σ H D I ⟨t, ht, q⟩ => (ht oe pn hz hf').run pins s σ H D I q⟩)
end
section
variable {α β γ ρ ς ε ε' : Type} {r ra : Rp α} {rb : Rp β} {rc : Rp γ} {te tb : TE} {ta : TA} {Γ Γ1 Γ2 : List Sl} {K : PySem.W.Frag} {a : α} {b : β} {w : Rw α} {C : Addr} {names : List Str} {A : Amb} {D : Ends} {u : TS} {R : ER ε} {i : Nat}
def resX {ε β γ : Type} (x : Res ε β) (k : β → Option γ) (l : ε → Option γ) : Option γ := match x with
  | .ok b => k b
  | .er e => l e
@[simp] theorem resX_ok (b : β) (k : β → Option γ) (l : ε → Option γ) : resX (.ok b) k l = k b := rfl
@[simp] theorem resX_er (e : ε) (k : β → Option γ) (l : ε → Option γ) : resX (.er e) k l = l e := rfl
/-- what goes on with an error -/
def NxE (W : WX) (A : Amb) (Γ : List Sl) (R : ER ε) (e : ε) : Prop := ∀ cls d σ H B, Frm A σ H B Γ → R B cls d e → W cls d σ H
theorem sq_asgR {W : WX} {tf : (L2.St → XK) → TE} {x : Res ε α} {k : α → Option γ} {l : ε → Option γ} {z : γ} (h : EvR R r tf Γ Γ1 x) (e : resX x k l = some z)
    (ko : ∀ y, k y = some z → Nx A (u D) (Γ1.set i (.imm r y))) (ke : ∀ y, l y = some z → NxE W A Γ1 R y) : Nx A (tSeq (tAsg (tf (WE W)) (gName i)) u D) Γ := fun σ H B F =>
  h A σ H B F _ _ (fun b hb v H' B' F' _ q => ko b (by rw [hb] at e; exact e) _ _ _ (F'.set q)) (fun y hy cls d H' B' F' _ q => ke y (by rw [hy] at e; exact e) _ _ _ _ _ F' q)
theorem sq_dropR {W : WX} {tf : (L2.St → XK) → TE} {x : Res ε α} {k : α → Option γ} {l : ε → Option γ} {z : γ} (h : EvR R r tf Γ Γ1 x) (e : resX x k l = some z)
    (ko : ∀ y, k y = some z → Nx A (u D) Γ1) (ke : ∀ y, l y = some z → NxE W A Γ1 R y) : Nx A (tSeq (tDrop (tf (WE W))) u D) Γ := fun σ H B F =>
  h A σ H B F _ _ (fun b hb v H' B' F' _ q => ko b (by rw [hb] at e; exact e) _ _ _ F') (fun y hy cls d H' B' F' _ q => ke y (by rw [hy] at e; exact e) _ _ _ _ _ F' q)
theorem sq_try {X : Cx} {st : List Stmt} {W : Ends → WX} {t : TS} (hb : ∀ (pn : List (Addr × Obj)) (xe : Value → Shared → Prop), Takes (X.tr pn xe) (W { D with nx := u D }) → PassesOwn (model X.prog X.w) X.A X.env xe → PSs (X.tr pn xe) st t)
    (h : Nx A (t { D with nx := u D }) Γ) : Nx A (tSeq (fun D σ H => tBod X st (W D) D σ H) u D) Γ := fun σ H B F => ⟨t, hb, h σ H B F⟩
/-- the error in a suite -/
def rExc (p : Addr) (d : Option Addr) (C : Addr) (names : List Str) (w : Rw α) : Rp α := ⟨fun H v x => v = .ref p ∧ ErAt H (.ref C) d C names w x, fun s ⟨e, h1, dd, fs, vs, h2, h3, h4, h5⟩ => ⟨e, h1, dd, fs, vs, h2, s _ _ h3, w.mono s h4, h5⟩⟩
theorem ev_xf {p : Addr} {d : Option Addr} {k : Nat} {nm : Str} {f : α → β} (h : EvX (rExc p d C names w) te Γ Γ1 a) (g : Acc w k rb f) (hk : names[k]? = some nm) : EvX rb (tXf p (.ref C) d C nm te) Γ Γ1 (f a) := fun A σ H B F Q q =>
  h A σ H B F _ fun v H1 B1 F1 s1 ⟨e, _, dd, fs, vs, h2, h3, h4, h5⟩ => by
    obtain ⟨y, hy, ky⟩ := g B1 vs a h4
    exact ⟨e, rfl, dd, fs, y, h2, F1.bh _ _ h3, by rw [h5 k nm hk, hy], q y H1 B1 F1 s1 ky⟩
theorem Frm.unset {σ : L2.St} {H B : Hp} (F : Frm A σ H B Γ) (i : Nat) : Frm A (σ.set i none) H B (Γ.set i .no) := by
  have G := F.forget i
  refine ⟨G.post, by rw [List.length_set]; exact G.len, fun j s e => ?_, G.ds⟩
  have h := G.sl j s e
  by_cases hj : i = j
  · subst hj
    rcases getset e with ⟨_, rfl, _⟩ | ⟨ne, _⟩
    · trivial
    · exact absurd rfl ne
  · cases s with
    | no => trivial
    | imm r a => obtain ⟨v, e', q⟩ := h; exact ⟨v, by rw [List.getElem?_set_ne hj]; exact e', q⟩
    | cel q c a => obtain ⟨e', q⟩ := h; exact ⟨by rw [List.getElem?_set_ne hj]; exact e', q⟩
theorem nx_unset {P : L2.St → Hp → Prop} (h : Nx A P (Γ.set i .no)) : Nx A (fun σ H => P (σ.set i none) H) Γ := fun σ H B F => h _ _ _ (F.unset i)
theorem nx_unsetE {D : Ends} (h : Nx A D.nx (Γ.set i .no)) : Nx A ({ nx := fun σ' H' => D.nx (σ'.set i none) H', rt := D.rt, bk := fun σ' H' => D.bk (σ'.set i none) H', ct := fun σ' H' => D.ct (σ'.set i none) H' } : Ends).nx Γ := nx_unset h
/-- an error of the class at C reaches «except C as n» -/
theorem nxe_as {X : Cx} {st : List Stmt} {c : Value} {Wout : WX} {e : α} (hx : PySem.W.exmOne K (.ref C) c = some true)
    (k : ∀ (p : Addr) (d : Option Addr), ∃ t : TS, (∀ (oe : Obj) (pn : List (Addr × Obj)), Zc (.ref C) d oe → (∃ vs, oe.data = .fields vs) → PSs (X.suite p ((p, oe) :: pn)) st t) ∧
      Nx A (t { nx := fun σ' H' => D.nx (σ'.set i none) H', rt := D.rt, bk := fun σ' H' => D.bk (σ'.set i none) H', ct := fun σ' H' => D.ct (σ'.set i none) H' }) (Γ.set i (.imm (rExc p d C names w) e))) :
    NxE (wAs K c i (tSui X st) Wout D) A Γ (fun B cls d x => ErAt B cls d C names w x) e := fun cls d σ H B F he => by
  obtain ⟨rfl, h⟩ := id he
  refine ⟨true, hx, fun _ p hp => ?_, fun q => Bool.noConfusion q⟩
  obtain ⟨t, h1, h2⟩ := k p d
  exact ⟨t, h1, h2 _ _ _ (F.set ⟨rfl, he⟩)⟩
abbrev erC (C : Addr) (names : List Str) (w : Rw α) : ER α := fun B cls d x => ErAt B cls d C names w x
/-- one of two kinds of errors -/
abbrev erS (R1 : ER ε) (R2 : ER ε') : ER (ε ⊕ ε') := fun B cls d x => match x with
  | .inl a => R1 B cls d a
  | .inr b => R2 B cls d b
theorem erC_mono {H H' : Hp} {cls : Value} {d : Option Addr} {e : α} (s : Same H H') (h : erC C names w H cls d e) : erC C names w H' cls d e := by
  obtain ⟨h1, dd, fs, vs, h2, h3, h4, h5⟩ := h
  exact ⟨h1, dd, fs, vs, h2, s _ _ h3, w.mono s h4, h5⟩
theorem erS_mono {R1 : ER ε} {R2 : ER ε'} (h1 : ∀ {H H' : Hp} {cls d e}, Same H H' → R1 H cls d e → R1 H' cls d e) (h2 : ∀ {H H' : Hp} {cls d e}, Same H H' → R2 H cls d e → R2 H' cls d e) {H H' : Hp} {cls : Value} {d : Option Addr} {e : ε ⊕ ε'} (s : Same H H') (h : erS R1 R2 H cls d e) : erS R1 R2 H' cls d e := by
  cases e with
  | inl a => exact h1 s h
  | inr b => exact h2 s h
theorem sq_asgMk {W : WX} {wb : Rw β} {m : α → Option (Res ε β)} {x : Res ε β} {k : β → Option γ} {l : ε → Option γ} {z : γ} (hmono : ∀ {H H' : Hp} {cls d e}, Same H H' → R H cls d e → R H' cls d e) (h : EvW w ta Γ Γ1 a) (e : m a = some x) (q : resX x k l = some z)
    (ko : ∀ y, k y = some z → Nx A (u D) (Γ1.set i (.imm (rIns C names wb) y))) (ke : ∀ y, l y = some z → NxE W A Γ1 R y) : Nx A (tSeq (tAsg (tMakeS C (SpI R C w (cIns C names wb) m) (WE W) ta) (gName i)) u D) Γ :=
  sq_asgR (tf := fun E => tMakeS C (SpI R C w (cIns C names wb) m) E ta) (er_make hmono h e) q ko ke
/-! ### a class whose __init__ does not raise -/
def SpJ {α β : Type} (C : Addr) (w : Rw α) (c : Cl β) (m : α → Option β) : Sp := fun vs H Q E => ∃ p dx vs' B a b, vs = .ref p :: vs' ∧ H p = some (.ins C dx []) ∧ B p = none ∧ Sz H ∧ Same B H ∧ w.rel B vs' a ∧ m a = some b ∧ RtI (ambS B H p) p c b Q
theorem ev_make {wb : Rw β} {m : α → Option β} {E : XK} (h : EvW w ta Γ Γ1 a) (e : m a = some b) : EvX (rIns C names wb) (tMake C (SpJ C w (cIns C names wb) m) [] E ta) Γ Γ1 b := fun A σ H B F Q q => h A σ H B F _ fun vs H1 B1 F1 s1 k1 => by
  intro y dy hy hd ne
  obtain ⟨p1, p2, p3, p4⟩ := made_pre (C := C) F1 hy hd ne
  refine ⟨y, dy, vs, upd B1 dy (.own y), a, b, by rw [List.append_nil], upd_same, p3, p1, p2, w.mono p4 k1, e, fun H2 B2 P ⟨o, ho, k⟩ => ⟨rfl, ?_⟩⟩
  have F2 := made_frame (A := A) F1 hy hd ne P ho
  have F3 := F2.adopt (F1.H0none hy) F1.sub F1.mh
  have hB2 : B2 y = none := P.out y (by show upd (upd H1 dy (.own y)) y (.ins C dy []) y ≠ none; rw [upd_same]; simp) p3
  have s3 : Same B2 (upd B2 y o) := fun q u e => by rw [upd_ne (ne_of_none e hB2)]; exact e
  exact q _ _ _ F3 (s1.trans (p4.trans (P.b0.trans s3))) ⟨y, o, rfl, upd_same, (cIns C names wb).mono s3 k⟩
/-! ### methods -/
theorem ins_no {vs : List V} {nm : Str} (hn : nm ∉ names) : (names.zip vs).lookup nm = none := zip_none hn
theorem ev_meth {w' : Rw β} {m : α × β → Option γ} {E : XK} {nm : Str} {z : γ} (h : EvX (rIns C names w) te Γ Γ1 a) (hb : EvW w' ta Γ1 Γ2 b) (e : m (a, b) = some z) (hn : nm ∉ names) :
    EvX rc (tMeth C nm (SpP (wC (rIns C names w) w') rc m) [] E te ta) Γ Γ2 z := fun A σ H B F Q q => h A σ H B F _ fun v H1 B1 F1 s1 k1 => by
  obtain ⟨p, dx, vs, rfl, hp, l, kw⟩ := ob_ins F1.bh k1
  refine ⟨p, dx, _, rfl, hp, ins_no hn, hb A σ H1 B1 F1 _ fun us H2 B2 F2 s2 k2 => ?_⟩
  rw [List.append_nil]
  exact ⟨B2, (a, b), z, F2.sz, F2.bh, ⟨_, us, rfl, (rIns C names w).mono s2 k1, k2⟩, e, fun H3 B3 v3 P k3 => q v3 H3 B3 (F2.after P) ((s1.trans s2).trans P.b0) k3⟩
theorem ec_meth {w' : Rw β} {c : Cl γ} {m : α × β → Option γ} {E : XK} {nm : Str} {z : γ} (h : EvX (rIns C names w) te Γ Γ1 a) (hb : EvW w' ta Γ1 Γ2 b) (e : m (a, b) = some z) (hn : nm ∉ names) :
    EvC c (tMeth C nm (SpC (wC (rIns C names w) w') c m) [] E te ta) Γ Γ2 z := fun A σ H B F Q q => h A σ H B F _ fun v H1 B1 F1 s1 k1 => by
  obtain ⟨p, dx, vs, rfl, hp, l, kw⟩ := ob_ins F1.bh k1
  refine ⟨p, dx, _, rfl, hp, ins_no hn, hb A σ H1 B1 F1 _ fun us H2 B2 F2 s2 k2 => ?_⟩
  rw [List.append_nil]
  exact ⟨B2, (a, b), z, F2.sz, F2.bh, ⟨_, us, rfl, (rIns C names w).mono s2 k1, k2⟩, e, fun q2 o H3 B3 P hq k3 => q q2 o H3 B3 (F2.afterC P hq) (F2.H0none hq) ((s1.trans s2).trans P.b0) k3⟩
theorem ev_meth0 {m : α → Option γ} {E : XK} {nm : Str} {z : γ} (h : EvX (rIns C names w) te Γ Γ1 a) (e : m a = some z) (hn : nm ∉ names) :
    EvX rc (tMeth C nm (SpP (w1 (rIns C names w)) rc m) [] E te tNil) Γ Γ1 z := fun A σ H B F Q q => h A σ H B F _ fun v H1 B1 F1 s1 k1 => by
  obtain ⟨p, dx, vs, rfl, hp, l, kw⟩ := ob_ins F1.bh k1
  exact ⟨p, dx, _, rfl, hp, ins_no hn, B1, a, z, F1.sz, F1.bh, ⟨_, rfl, k1⟩, e, fun H3 B3 v3 P k3 => q v3 H3 B3 (F1.after P) (s1.trans P.b0) k3⟩
theorem ec_meth0 {c : Cl γ} {m : α → Option γ} {E : XK} {nm : Str} {z : γ} (h : EvX (rIns C names w) te Γ Γ1 a) (e : m a = some z) (hn : nm ∉ names) :
    EvC c (tMeth C nm (SpC (w1 (rIns C names w)) c m) [] E te tNil) Γ Γ1 z := fun A σ H B F Q q => h A σ H B F _ fun v H1 B1 F1 s1 k1 => by
  obtain ⟨p, dx, vs, rfl, hp, l, kw⟩ := ob_ins F1.bh k1
  exact ⟨p, dx, _, rfl, hp, ins_no hn, B1, a, z, F1.sz, F1.bh, ⟨_, rfl, k1⟩, e, fun q2 o H3 B3 P hq k3 => q q2 o H3 B3 (F1.afterC P hq) (F1.H0none hq) (s1.trans P.b0) k3⟩
/-! ### isinstance, the answer known -/
def TyR (K : PySem.W.Frag) (r : Rp α) (t : Value) : Prop := ∀ H v a, r.rel H v a → TyX K H v t
theorem ev_isi {t v : Value} {c : V} {k : Bool} (h : EvX r te Γ Γ1 a) (ty : TyR K r t) (hc : ClsV c v) (kit : PySem.W.kitOne K t v = some k) : EvX rBool (tCB (rIsi K) (tCons te (tCons (tC c) tNil))) Γ Γ1 k := fun A σ H B F Q q =>
  h A σ H B F _ fun x H1 B1 F1 s1 k1 => ⟨x, c, t, v, k, rfl, hc, ty _ _ _ (r.mono F1.bh k1), kit, q _ _ _ F1 s1 rfl⟩
theorem ty_bool : TyR K rBool (.type "bool") := fun H v a h => by rw [show v = _ from h]; exact .base (.bl _)
theorem ty_int : TyR K rInt (.type "int") := fun H v a h => by rw [show v = _ from h]; exact .base (.int _)
theorem ty_str : TyR K rStr (.type "str") := fun H v a h => by rw [show v = _ from h]; exact .base (.str _)
theorem ty_non : TyR K rNon (.type "NoneType") := fun H v a h => by rw [show v = _ from h]; exact .base .non
theorem ty_lst : TyR K (rOb (cLst r)) (.type "list") := fun H v a ⟨p, o, e, hp, vs, eo, k⟩ => by subst e; subst eo; exact .base (.lst hp)
theorem ty_hls : TyR K (rOb (cHls w)) (.type "list") := fun H v a ⟨p, o, e, hp, vs, eo, k⟩ => by subst e; subst eo; exact .base (.lst hp)
theorem ty_tpl : TyR K (rOb (cTpl r)) (.type "tuple") := fun H v a ⟨p, o, e, hp, vs, eo, k⟩ => by subst e; subst eo; exact .base (.tup hp)
theorem ty_tup : TyR K (rOb (cTup w)) (.type "tuple") := fun H v a ⟨p, o, e, hp, vs, eo, k⟩ => by subst e; subst eo; exact .base (.tup hp)
theorem nn_ins : NN (rIns C names w) := nn_ob
end
/-! ### data of any shape -/
theorem Same.seqT {K : PySem.W.Frag} {H H' : Hp} {a : Addr} {xs : List V} (e : Same H H') (h : SqT K H a xs) : SqT K H' a xs := by
  rcases h with (h | ⟨o, h⟩) | h
  · exact .inl (.inl (e _ _ h))
  · exact .inl (.inr ⟨o, e _ _ h⟩)
  · exact .inr h
mutual
theorem dp_mono {K : PySem.W.Frag} {H H' : Hp} (s : Same H H') : ∀ (d : PyData) (v : V), Dp K H v d → Dp K H' v d
  | .none, _, h => by cases h; exact .non
  | .bool b, _, h => by cases h; exact .bl b
  | .int i, _, h => by cases h; exact .int i
  | .str x, _, h => by cases h; exact .str x
  | .list ds, _, h => by
    cases h with
    | lst hs ha => exact .lst (s.seq hs) (dpAll_mono s ds _ ha)
  | .tuple ds, _, h => by
    cases h with
    | tup hs ha => exact .tup (Same.seqT s hs) (dpAll_mono s ds _ ha)
  | .dict _, _, h => by cases h
theorem dpAll_mono {K : PySem.W.Frag} {H H' : Hp} (s : Same H H') : ∀ (ds : List PyData) (vs : List V), DpAll K H vs ds → DpAll K H' vs ds
  | [], _, h => by cases h; exact .nil
  | d :: ds, _, h => by
    cases h with
    | cons h1 h2 => exact .cons (dp_mono s d _ h1) (dpAll_mono s ds _ h2)
end
def rDyn (K : PySem.W.Frag) : Rp PyData := ⟨fun H v d => Dp K H v d, fun s h => dp_mono s _ _ h⟩
def Da {α : Type} (K : PySem.W.Frag) (r : Rp α) (f : α → PyData) : Prop := ∀ H v a, r.rel H v a → Dp K H v (f a)
def DaW {α : Type} (K : PySem.W.Frag) (w : Rw α) (f : α → List PyData) : Prop := ∀ H vs a, w.rel H vs a → DpAll K H vs (f a)
def dOpt {α : Type} (f : α → PyData) : Option α → PyData
  | none => .none
  | some a => f a
def dLst {α : Type} (f : α → PyData) (xs : List α) : PyData := .list (xs.map f)
def dTpl {α : Type} (f : α → PyData) (xs : List α) : PyData := .tuple (xs.map f)
def dTup {α : Type} (f : α → List PyData) (a : α) : PyData := .tuple (f a)
def dHls {α : Type} (f : α → List PyData) (a : α) : PyData := .list (f a)
def dw0 : Unit → List PyData := fun _ => []
def dw1 {α : Type} (f : α → PyData) (a : α) : List PyData := [f a]
def dwC {α β : Type} (f : α → PyData) (g : β → List PyData) (a : α × β) : List PyData := f a.1 :: g a.2
def dNon : Unit → PyData := fun _ => .none
def dId : PyData → PyData := fun d => d
section
variable {α β γ : Type} {K : PySem.W.Frag} {r ra : Rp α} {rb : Rp β} {w : Rw α} {wb : Rw β} {f : α → PyData} {g : β → PyData} {fw : α → List PyData} {gw : β → List PyData} {Γ Γ1 Γ2 : List Sl} {te ta tb : TE} {x : α} {y : β}
theorem da_int : Da K rInt PyData.int := fun H v a h => by rw [show v = _ from h]; exact .int a
theorem da_str : Da K rStr PyData.str := fun H v a h => by rw [show v = _ from h]; exact .str a
theorem da_bool : Da K rBool PyData.bool := fun H v a h => by rw [show v = _ from h]; exact .bl a
theorem da_non : Da K rNon dNon := fun H v a h => by rw [show v = _ from h]; exact .non
theorem da_dyn : Da K (rDyn K) dId := fun H v a h => h
theorem da_opt (h : Da K r f) : Da K (rOpt r) (dOpt f) := fun H v a k => by
  cases a with
  | none => rw [show v = _ from k]; exact .non
  | some a => exact h H v a k.1
theorem dp_all (h : Da K r f) {H : Hp} : ∀ {vs : List V} {xs : List α}, Paired (r.rel H) vs xs → DpAll K H vs (xs.map f)
  | _, _, .nil => .nil
  | _, _, .cons q t => .cons (h _ _ _ q) (dp_all h t)
theorem da_lst (h : Da K r f) : Da K (rOb (cLst r)) (dLst f) := fun H v a ⟨p, o, e, hp, vs, eo, k⟩ => by
  subst e; subst eo
  exact .lst (SqL.of hp) (dp_all h k)
theorem da_tpl (h : Da K r f) : Da K (rOb (cTpl r)) (dTpl f) := fun H v a ⟨p, o, e, hp, vs, eo, k⟩ => by
  subst e; subst eo
  exact .tup (SqT.of hp) (dp_all h k)
theorem da_tup (h : DaW K w fw) : Da K (rOb (cTup w)) (dTup fw) := fun H v a ⟨p, o, e, hp, vs, eo, k⟩ => by
  subst e; subst eo
  exact .tup (SqT.of hp) (h _ _ _ k)
theorem da_hls (h : DaW K w fw) : Da K (rOb (cHls w)) (dHls fw) := fun H v a ⟨p, o, e, hp, vs, eo, k⟩ => by
  subst e; subst eo
  exact .lst (SqL.of hp) (h _ _ _ k)
theorem daw_0 : DaW K w0 dw0 := fun H vs a h => by rw [show vs = [] from h]; exact .nil
theorem daw_1 (h : Da K r f) : DaW K (w1 r) (dw1 f) := fun H vs a ⟨v, e, k⟩ => by rw [e]; exact .cons (h _ _ _ k) .nil
theorem daw_C (h : Da K r f) (hw : DaW K wb gw) : DaW K (wC r wb) (dwC f gw) := fun H vs a ⟨v, t, e, k, k2⟩ => by rw [e]; exact .cons (h _ _ _ k) (hw _ _ _ k2)
theorem ev_dyn (d : Da K r f) (h : EvX r te Γ Γ1 x) : EvX (rDyn K) te Γ Γ1 (f x) := fun A σ H B F Q q => h A σ H B F Q fun v H' B' F' s k => q v H' B' F' s (d _ _ _ k)
theorem nn_dyn_tup {K : PySem.W.Frag} : True := trivial
def pyEq (d e : PyData) : Option Bool := if SeqAt.shaped d = true ∧ SeqAt.shaped e = true then some (PyData.eqv d e) else none
theorem ev_eqD {b : Bool} (da : Da K ra f) (db : Da K rb g) (ha : EvX ra ta Γ Γ1 x) (hb : EvX rb tb Γ1 Γ2 y) (e : pyEq (f x) (g y) = some b) : EvX rBool (tOp (rEqD K) ta tb) Γ Γ2 b := by
  unfold pyEq at e
  split at e
  · rename_i hs
    cases e
    exact ev_op ha hb fun H B u v s ku kv Q q => ⟨_, _, dp_mono s _ _ (da _ _ _ ku), dp_mono s _ _ (db _ _ _ kv), hs.1, hs.2, q _ rfl⟩
  · cases e
theorem ev_neD {b : Bool} (da : Da K ra f) (db : Da K rb g) (ha : EvX ra ta Γ Γ1 x) (hb : EvX rb tb Γ1 Γ2 y) (e : pyEq (f x) (g y) = some b) : EvX rBool (tOp (rNeD K) ta tb) Γ Γ2 (!b) := by
  unfold pyEq at e
  split at e
  · rename_i hs
    cases e
    exact ev_op ha hb fun H B u v s ku kv Q q => ⟨_, _, dp_mono s _ _ (da _ _ _ ku), dp_mono s _ _ (db _ _ _ kv), hs.1, hs.2, q _ rfl⟩
  · cases e
end
end G

set_option maxHeartbeats 4000000
/-! # G: len(set(..)) -/
namespace G
open PySem PySem.Spec PyProof.Rows L2
/-- the different ones, in the order of coming -/
def dst {α : Type} [DecidableEq α] (xs : List α) : List α := xs.foldl (fun l x => if x ∈ l then l else l ++ [x]) []
section
variable {κ : Type} [DecidableEq κ]
theorem dst_app (xs : List κ) (x : κ) : dst (xs ++ [x]) = if x ∈ dst xs then dst xs else dst xs ++ [x] := by
  unfold dst
  rw [List.foldl_append]
  rfl
theorem mem_dstF {x : κ} : ∀ (xs l : List κ), x ∈ xs.foldl (fun l x => if x ∈ l then l else l ++ [x]) l ↔ x ∈ l ∨ x ∈ xs
  | [], l => by simp
  | y :: ys, l => by
    rw [List.foldl_cons, mem_dstF ys]
    by_cases h : y ∈ l
    · rw [if_pos h, List.mem_cons]
      exact ⟨fun q => q.elim .inl fun q => .inr (.inr q), fun q => q.elim .inl fun q => q.elim (fun e => .inl (e ▸ h)) .inr⟩
    · rw [if_neg h, List.mem_append, List.mem_singleton, List.mem_cons, or_assoc]
theorem mem_dst {x : κ} {xs : List κ} : x ∈ dst xs ↔ x ∈ xs := by
  unfold dst
  rw [mem_dstF]
  simp
theorem dst_le : ∀ xs : List κ, (dst xs).length ≤ xs.length := fun xs => by
  suffices h : ∀ (ys l : List κ), (ys.foldl (fun l x => if x ∈ l then l else l ++ [x]) l).length ≤ l.length + ys.length by simpa [dst] using h xs []
  intro ys
  induction ys with
  | nil => intro l; simp
  | cons y ys ih =>
    intro l
    rw [List.foldl_cons]
    refine Nat.le_trans (ih _) ?_
    rw [List.length_cons]
    split
    · omega
    · rw [List.length_append, List.length_singleton]; omega
variable {prog : Program} {w : World} {knd : KeyKind prog w κ} {A : Around} {R : Result → Shared → Prop} {E : Value → Shared → Prop} {it : Addr} {fp wr : List Addr} {Gg : Array GenState → Array GenState → Prop} {n : Nat} {P : Nat → Value → Prop} {St : Nat → Shared → Prop} {z : Shared}
/-- what is walked goes into the set at D -/
theorem fill_loop (W : WalksS prog w A.in1 it fp wr Gg n P St) (D : Addr) (hD : D ∉ fp) (ks : List κ) (hn : ks.length = n) (hb : n < 2000)
    (hv : ∀ (i : Nat) (v : Value), P i v → ∃ k, ks[i]? = some k ∧ knd.is k v = true ∧ v.scannable = true) : ∀ (m i : Nat) (z : Shared), n - i = m → i ≤ n → St i z →
      z.heap.SetOf knd D (fun x => decide (x ∈ ks.take i)) (dst (ks.take i)).length →
      (∀ z2, Moved (D :: wr) Gg z z2 → z2.heap.SetOf knd D (fun x => decide (x ∈ ks)) (dst ks).length → R (.ok (.ret .none)) z2) →
      codeAny (model prog w) A (.builtin "set.update.loop" ⟨[.ref D, .ref it], []⟩) R z := by
  have hw : D ∉ wr := fun q => hD (W.sub _ q)
  have up : ∀ b ∈ wr, b ∈ D :: wr := fun b q => List.mem_cons_of_mem D q
  have mv : ∀ {g g2 : Heap} {S : κ → Bool} {c : Nat}, (∀ o, g.get? D = some o → g2.get? D = some o) → g.SetOf knd D S c → g2.SetOf knd D S c := fun k ⟨o, es, ep, t, ho, r⟩ => ⟨o, es, ep, t, k o ho, r⟩
  intro m
  induction m with
  | zero =>
    intro i z e le st so fin
    have e2 : i = n := by omega
    subst e2
    refine codeAny_builtin PyProof.Rows.F.entry_set_update_loop ?_
    rw [Around.under_plainId (A := A) PyProof.Rows.F.plain_set_update_loop _]
    show wpAny _ A.in1 (pyNext (.ref it) >>= _) _ _ z
    refine wpAny_bind (W.done z _ _ st fun z2 m2 => ?_)
    show wpAny _ A.in1 (ret Value.none) _ _ z2
    have so2 := mv (m2.heap D · hw) so
    rw [List.take_of_length_le (by omega)] at so2
    exact wpAny_pure (fin z2 (m2.mono up) so2)
  | succ m ih =>
    intro i z e le st so fin
    have lt : i < n := by omega
    refine codeAny_builtin PyProof.Rows.F.entry_set_update_loop ?_
    rw [Around.under_plainId (A := A) PyProof.Rows.F.plain_set_update_loop _]
    show wpAny _ A.in1 (pyNext (.ref it) >>= _) _ _ z
    refine wpAny_bind (W.item i z _ _ lt st fun v z2 hP st2 m2 => ?_)
    obtain ⟨k, hk, hkv, hsc⟩ := hv i v hP
    have so2 := mv (m2.heap D · hw) so
    have tk : ks.take (i + 1) = ks.take i ++ [k] := by rw [List.take_add_one, hk]; rfl
    show wpAny _ A.in1 (holding [v] (setAdd D v) >>= _) _ _ z2
    refine wpAny_bind (wpAny_holding ?_)
    unfold setAdd
    refine wpAny_holding (wpAny_bind (knd.pyHash hkv ?_))
    have dl := dst_le (ks.take i)
    have tl : (ks.take i).length ≤ i := by rw [List.length_take]; omega
    refine wpAny_setAddHashed_of (s := { z2 with toks := z2.toks + 1 }) hkv hsc so2 (by unfold scanBound; omega) fun g sb so3 => ?_
    have so4 : g.SetOf knd D (fun x => decide (x ∈ ks.take (i + 1))) (dst (ks.take (i + 1))).length := by
      refine PyProof.Rows.SetOf_congr so3 (fun x => ?_) ?_
      · rw [tk]
        by_cases h1 : x ∈ ks.take i <;> by_cases h2 : x = k <;> simp [h1, h2, List.mem_append]
      · rw [tk, dst_app]
        by_cases h1 : k ∈ ks.take i
        · rw [if_pos (decide_eq_true h1), if_pos (mem_dst.mpr h1)]
        · rw [if_neg (by simpa using h1), if_neg (fun q => h1 (mem_dst.mp q)), List.length_append, List.length_singleton]
    refine wpAny_pure (And.intro (plainId_quiet PyProof.Rows.F.plain_set_update_loop _) (ih (i + 1) _ (by omega) lt (W.frame _ z2 _ _ st2 (Nat.le_succ _) fun b q o ho => (sb.2 b (fun h => hD (h ▸ q))).trans ho) so4 fun z3 m3 so5 => fin z3 ?_ so5))
    exact Moved.trans W.gtrans ((m2.mono up).then_heap (Nat.le_succ _) fun b o q ho => (sb.2 b (fun h => q (h ▸ List.mem_cons_self))).trans ho) m3

set_option maxHeartbeats 8000000 in
theorem set_of_list {p : Addr} {its : Array Value} {ks : List κ} {G : Value → Shared → Prop} (hd : A.handled = none) (hp : z.heap.IsList p its) (hn : ks.length = its.size) (hb : its.size < 2000)
    (hv : ∀ (i : Nat) (v : Value), its[i]? = some v → ∃ k, ks[i]? = some k ∧ knd.is k v = true ∧ v.scannable = true)
    (fin : ∀ (g : Heap) (tk : Nat), g.SetOf knd z.heap.objs.size (fun x => decide (x ∈ ks)) (dst ks).length → (∀ b o, z.heap.get? b = some o → g.get? b = some o) → G (.ref z.heap.objs.size) { z with heap := g, toks := tk }) :
    wpAny (model prog w) A (call (.type "set") [.ref p]) G E z := by
  obtain ⟨mc, mt, m0⟩ := PySem.F.called_set.mro
  have m1 := PySem.F.called_set.made
  have m2 := PySem.F.called_set.sub
  refine wpAny_call (codeAny_of_tree ?_)
  show wpAny _ _ (callAny (.type "set") (_ : Args)) _ _ z
  refine wpAny_pure (And.intro (Code.quiet_builtin _ (by decide +kernel)) (codeAny_builtin PySem.F.entry_type_call ?_))
  rw [Around.under_plain (weight_type_call_type "set" [Value.ref p] ([] : List (Str × Value))) (by rfl)]
  have m3 := PySem.F.called_set.notType
  have m4 := PySem.F.called_set.canCreate
  have m5 := PySem.F.typeCall_set_1 (Value.ref p)
  repeat (any_goals (first | assumption | wp_step))
  let ob : Bool → Obj := fun led => { cls := .type "set", dict := none, data := .set #[] 0 (.fresh 0 0 led) }
  refine codeAny_mono (code_set_new_1 (Value.ref p) (E := E) (Q₁ := fun v z1 => ∃ led : Bool, v = Value.ref z.heap.objs.size ∧ z1 = { z with heap := z.heap.push (ob led) }) fun led => ⟨led, rfl, rfl⟩) fun r0 z1 q0 => ?_
  cases r0 with
  | error e => exact q0
  | ok fl0 =>
    cases fl0 with
    | next => exact q0.elim
    | brk => exact q0.elim
    | cont => exact q0.elim
    | ret v0 =>
      obtain ⟨led, rfl, rfl⟩ := q0
      have at0 : (z.heap.push (ob led)).get? z.heap.objs.size = some (ob led) := Heap.get?_push_size _ rfl
      have ty0 : Shared.TypeIs { z with heap := z.heap.push (ob led) } (.ref z.heap.objs.size) "set" := ⟨_, at0, rfl⟩
      have i1 := PySem.F.called_set.init.lookup
      have i2 := PySem.F.called_set.init.bind (Value.ref z.heap.objs.size)
      repeat (any_goals (first | assumption | wp_step))
      refine codeAny_mono (codeAny_call_builtin (R := wants (fun v z2 => v = .none ∧ ∃ g tk, z2 = { z with heap := g, toks := tk } ∧ g.SetOf knd z.heap.objs.size (fun x => decide (x ∈ ks)) (dst ks).length ∧
          (∀ b o, z.heap.get? b = some o → g.get? b = some o)) E) PySem.F.called_set.init.plain PySem.F.entry_set_init (check_set_init_1 ty0 ?_)) fun r2 z2 q2 => ?_
      · obtain ⟨u0, a0, c0, n0, d0⟩ := hp
        obtain ⟨uc, ud, ux, us⟩ := u0
        simp only at c0 d0
        subst c0; subst d0
        have a1 : (z.heap.push (ob led)).get? p = some { cls := .type "list", dict := ud, data := .seq its n0, slots := us } := Heap.get?_push_of_some _ a0
        have s1 := PySem.F.sub_list_set
        have s2 := PySem.F.sub_list_frozenset
        have s3 : (Value.type "list" == Value.type "dict") = false := by decide
        have l1 : (z.heap.push (ob led)).IsList p its := ⟨_, a1, rfl, n0, rfl⟩
        unfold Builtin.«set.__init__» noKeywords Builtin.Frozenset.updateFrom
        generalize hit : pyIter = itf
        wp_walk
        subst hit
        refine wpAny_pyIter_list l1 (wpAny_bind (wpAny_runValue ?_))
        have pl : p < z.heap.objs.size := Heap.lt_size a0
        have h3 : A.in1.in1.in1.handled = none := by simp [hd]
        have sz1 : (z.heap.push (ob led)).objs.size = z.heap.objs.size + 1 := Heap.size_push ..
        have ne1 : p ≠ (z.heap.push (ob led)).objs.size := by rw [sz1]; exact Nat.ne_of_lt (Nat.lt_succ_of_lt pl)
        have sf : z.heap.objs.size ∉ [(z.heap.push (ob led)).objs.size, p] := fun hm => by
          rw [sz1] at hm
          rcases List.mem_cons.mp hm with e | hm
          · exact Nat.ne_of_lt (Nat.lt_succ_self _) e
          · exact Nat.ne_of_gt pl (List.mem_singleton.mp hm)
        refine fill_loop ((Walks.list h3 _ p ne1 its).toS) z.heap.objs.size sf ks hn hb hv (its.size - 0) 0 _ (by omega) (Nat.zero_le _) ⟨⟨_, Heap.get?_push_size _ rfl, rfl, rfl⟩, l1.push _⟩ ?w0 ?w1
        case w0 =>
          exact PyProof.Rows.SetOf_congr ((PyProof.Rows.setObjOf_fresh (knd := knd) led).setOf (Heap.get?_push_of_some _ at0) (by unfold scanBound; omega)) (fun x => by simp) (by simp [dst])
        case w1 =>
          intro z3 mv st3
          obtain ⟨g3, e3, d3, t3, o3⟩ := z3
          obtain rfl : e3 = z.gens := mv.gens
          obtain rfl : d3 = z.drawn := mv.drawn
          obtain rfl : o3 = z.os := mv.os
          show wpAny _ _ _ _ _ (_ : Shared)
          refine wpAny_pure ?_
          show wpAny _ _ (ret Value.none) _ _ (_ : Shared)
          refine wpAny_pure ⟨rfl, g3, t3, rfl, st3, fun b o hbo => mv.heap b o (fun hm => ?_) (Heap.get?_push_of_some _ (Heap.get?_push_of_some _ hbo))⟩
          have bl := Heap.lt_size hbo
          rcases List.mem_cons.mp hm with e | hm
          · exact Nat.ne_of_lt bl e
          · rw [List.mem_singleton, sz1] at hm; exact Nat.ne_of_lt (Nat.lt_succ_of_lt bl) hm
      · cases r2 with
        | error e => exact q2
        | ok fl2 =>
          cases fl2 with
          | next => exact q2.elim
          | brk => exact q2.elim
          | cont => exact q2.elim
          | ret v2 =>
            obtain ⟨rfl, g2, t2, rfl, st2, kp2⟩ := q2
            repeat (any_goals (first | assumption | wp_step))
            exact fin _ _ st2 kp2

set_option maxHeartbeats 8000000 in
theorem set_of_tuple {p : Addr} {its : Array Value} {ks : List κ} {G : Value → Shared → Prop} (hd : A.handled = none) (hp : z.heap.IsTuple p its) (hn : ks.length = its.size) (hb : its.size < 2000)
    (hv : ∀ (i : Nat) (v : Value), its[i]? = some v → ∃ k, ks[i]? = some k ∧ knd.is k v = true ∧ v.scannable = true)
    (fin : ∀ (g : Heap) (tk : Nat), g.SetOf knd z.heap.objs.size (fun x => decide (x ∈ ks)) (dst ks).length → (∀ b o, z.heap.get? b = some o → g.get? b = some o) → G (.ref z.heap.objs.size) { z with heap := g, toks := tk }) :
    wpAny (model prog w) A (call (.type "set") [.ref p]) G E z := by
  obtain ⟨mc, mt, m0⟩ := PySem.F.called_set.mro
  have m1 := PySem.F.called_set.made
  have m2 := PySem.F.called_set.sub
  refine wpAny_call (codeAny_of_tree ?_)
  show wpAny _ _ (callAny (.type "set") (_ : Args)) _ _ z
  refine wpAny_pure (And.intro (Code.quiet_builtin _ (by decide +kernel)) (codeAny_builtin PySem.F.entry_type_call ?_))
  rw [Around.under_plain (weight_type_call_type "set" [Value.ref p] ([] : List (Str × Value))) (by rfl)]
  have m3 := PySem.F.called_set.notType
  have m4 := PySem.F.called_set.canCreate
  have m5 := PySem.F.typeCall_set_1 (Value.ref p)
  repeat (any_goals (first | assumption | wp_step))
  let ob : Bool → Obj := fun led => { cls := .type "set", dict := none, data := .set #[] 0 (.fresh 0 0 led) }
  refine codeAny_mono (code_set_new_1 (Value.ref p) (E := E) (Q₁ := fun v z1 => ∃ led : Bool, v = Value.ref z.heap.objs.size ∧ z1 = { z with heap := z.heap.push (ob led) }) fun led => ⟨led, rfl, rfl⟩) fun r0 z1 q0 => ?_
  cases r0 with
  | error e => exact q0
  | ok fl0 =>
    cases fl0 with
    | next => exact q0.elim
    | brk => exact q0.elim
    | cont => exact q0.elim
    | ret v0 =>
      obtain ⟨led, rfl, rfl⟩ := q0
      have at0 : (z.heap.push (ob led)).get? z.heap.objs.size = some (ob led) := Heap.get?_push_size _ rfl
      have ty0 : Shared.TypeIs { z with heap := z.heap.push (ob led) } (.ref z.heap.objs.size) "set" := ⟨_, at0, rfl⟩
      have i1 := PySem.F.called_set.init.lookup
      have i2 := PySem.F.called_set.init.bind (Value.ref z.heap.objs.size)
      repeat (any_goals (first | assumption | wp_step))
      refine codeAny_mono (codeAny_call_builtin (R := wants (fun v z2 => v = .none ∧ ∃ g tk, z2 = { z with heap := g, toks := tk } ∧ g.SetOf knd z.heap.objs.size (fun x => decide (x ∈ ks)) (dst ks).length ∧
          (∀ b o, z.heap.get? b = some o → g.get? b = some o)) E) PySem.F.called_set.init.plain PySem.F.entry_set_init (check_set_init_1 ty0 ?_)) fun r2 z2 q2 => ?_
      · obtain ⟨u0, a0, c0, n0, d0⟩ := hp
        obtain ⟨uc, ud, ux, us⟩ := u0
        simp only at c0 d0
        subst c0; subst d0
        have a1 : (z.heap.push (ob led)).get? p = some { cls := .type "tuple", dict := ud, data := .seq its n0, slots := us } := Heap.get?_push_of_some _ a0
        have s1 := PySem.F.sub_tuple_set
        have s2 := PySem.F.sub_tuple_frozenset
        have s3 : (Value.type "tuple" == Value.type "dict") = false := by decide
        have l1 : (z.heap.push (ob led)).IsTuple p its := ⟨_, a1, rfl, n0, rfl⟩
        unfold Builtin.«set.__init__» noKeywords Builtin.Frozenset.updateFrom
        generalize hit : pyIter = itf
        wp_walk
        subst hit
        refine wpAny_pyIter_tuple l1 (wpAny_bind (wpAny_runValue ?_))
        have pl : p < z.heap.objs.size := Heap.lt_size a0
        have h3 : A.in1.in1.in1.handled = none := by simp [hd]
        have sz1 : (z.heap.push (ob led)).objs.size = z.heap.objs.size + 1 := Heap.size_push ..
        have ne1 : p ≠ (z.heap.push (ob led)).objs.size := by rw [sz1]; exact Nat.ne_of_lt (Nat.lt_succ_of_lt pl)
        have sf : z.heap.objs.size ∉ [(z.heap.push (ob led)).objs.size, p] := fun hm => by
          rw [sz1] at hm
          rcases List.mem_cons.mp hm with e | hm
          · exact Nat.ne_of_lt (Nat.lt_succ_self _) e
          · exact Nat.ne_of_gt pl (List.mem_singleton.mp hm)
        refine fill_loop ((Walks.tuple h3 _ p ne1 its).toS) z.heap.objs.size sf ks hn hb hv (its.size - 0) 0 _ (by omega) (Nat.zero_le _) ⟨⟨_, Heap.get?_push_size _ rfl, rfl, rfl⟩, l1.push _⟩ ?w0 ?w1
        case w0 =>
          exact PyProof.Rows.SetOf_congr ((PyProof.Rows.setObjOf_fresh (knd := knd) led).setOf (Heap.get?_push_of_some _ at0) (by unfold scanBound; omega)) (fun x => by simp) (by simp [dst])
        case w1 =>
          intro z3 mv st3
          obtain ⟨g3, e3, d3, t3, o3⟩ := z3
          obtain rfl : e3 = z.gens := mv.gens
          obtain rfl : d3 = z.drawn := mv.drawn
          obtain rfl : o3 = z.os := mv.os
          show wpAny _ _ _ _ _ (_ : Shared)
          refine wpAny_pure ?_
          show wpAny _ _ (ret Value.none) _ _ (_ : Shared)
          refine wpAny_pure ⟨rfl, g3, t3, rfl, st3, fun b o hbo => mv.heap b o (fun hm => ?_) (Heap.get?_push_of_some _ (Heap.get?_push_of_some _ hbo))⟩
          have bl := Heap.lt_size hbo
          rcases List.mem_cons.mp hm with e | hm
          · exact Nat.ne_of_lt bl e
          · rw [List.mem_singleton, sz1] at hm; exact Nat.ne_of_lt (Nat.lt_succ_of_lt bl) hm
      · cases r2 with
        | error e => exact q2
        | ok fl2 =>
          cases fl2 with
          | next => exact q2.elim
          | brk => exact q2.elim
          | cont => exact q2.elim
          | ret v2 =>
            obtain ⟨rfl, g2, t2, rfl, st2, kp2⟩ := q2
            repeat (any_goals (first | assumption | wp_step))
            exact fin _ _ st2 kp2

end
theorem val_str : ∀ {xs : List Str} {us : List Value}, Vals (xs.map V.str) us → ∀ (i : Nat) (v : Value), us[i]? = some v → ∃ x t, xs[i]? = some x ∧ v = .str x t
  | [], _, .nil, i, v, h => by simp at h
  | x :: xs, _, .cons ⟨t, e⟩ r, 0, v, h => ⟨x, t, rfl, by simp at h; rw [← h, e]⟩
  | x :: xs, _, .cons _ r, i + 1, v, h => by
    obtain ⟨y, t, h1, h2⟩ := val_str r i v (by simpa using h)
    exact ⟨y, t, by simpa using h1, h2⟩
/-- len(set(texts)), texts a list or a tuple -/
def tLenSt (K : PySem.W.Frag) (ta : TE) : TE := fun σ H Q => ta σ H fun x H1 => ∃ (l : Addr) (xs : List Str), x = .ref l ∧ (SqL K H1 l (xs.map V.str) ∨ SqT K H1 l (xs.map V.str)) ∧ xs.length ≤ 1000 ∧ Q (.int ((dst xs).length : Nat)) H1
theorem pe_lenSt {X : Cx} {a : Expr} {ta : TE} {p p2 q pos : Pos} (hc : X.calm = true) (hg : Gl X "len") (hm : X.mg "len" = none) (hg2 : Gl X "set") (hm2 : X.mg "set" = none) (ha : PE X a ta)
    (na : starEach [a] X.env = (false, eval a X.env) :: starEach [] X.env := by rfl) : PE X (.Call (.Name "len" p) [.Call (.Name "set" p2) [a] [] q] [] pos) (tLenSt X.K ta) := by
  refine ⟨fun pins s σ H Q I h => Call_ (ld_blt I hg hm boot_len ?_)⟩
  refine PyProof.Rows.callWith_builtin1 (PyProof.Rows.args_cons (Call_ (ld_blt I hg2 hm2 boot_set ?_)) rfl) rfl rfl
  refine PyProof.Rows.callWith_type1 (PyProof.Rows.args_cons (thn (ha.run pins s σ H _ I h) fun v s1 ⟨x, H1, I1, r1, q1⟩ => PyProof.Rows.args_nil ?_) na) na rfl
  obtain ⟨l, xs, rfl, hq, hl, q1⟩ := q1
  cases r1
  have fin : ∀ (g : Heap) (tk : Nat), g.SetOf (PySem.strKind X.prog X.w) s1.heap.objs.size (fun x => decide (x ∈ xs)) (dst xs).length → (∀ b o, s1.heap.get? b = some o → g.get? b = some o) →
      wpAny (model X.prog X.w) X.A (spliced (backTo pos (starEach [] X.env))) (fun vs s₂ => wpAny (model X.prog X.w) X.A (call (.builtin "len") (Value.ref s1.heap.objs.size :: vs)) (EP X pins σ Q) X.xe s₂) X.xe { s1 with heap := g, toks := tk } := fun g tk so kp => by
    refine PyProof.Rows.args_nil ?_
    have dl := dst_le xs
    obtain ⟨o, es, ep, t, ho, hex, hd, _, _, _, hf, hn⟩ := so
    have I2 : Inv X pins σ H1 { s1 with heap := g, toks := tk } := I1.kept fun b o e => kp b o e
    exact call_len_set ho hex hd hf (by rw [hn] <;> omega) ⟨.int ((dst xs).length : Nat), H1, I2.tok _, ⟨_, by rw [hn]⟩, q1⟩
  have hv : ∀ {its : List Value}, Vals (xs.map V.str) its → ∀ (i : Nat) (v : Value), its.toArray[i]? = some v → ∃ k, xs[i]? = some k ∧ (PySem.strKind X.prog X.w).is k v = true ∧ v.scannable = true := fun r i v e => by
    obtain ⟨x, t, h1, rfl⟩ := val_str r i v (by simpa using e)
    exact ⟨x, h1, strKind_is _ _ _ _, rfl⟩
  rcases hq with hq | hq
  · obtain ⟨its, r, pl, hz⟩ := I1.list hq
    have hs : its.toArray.size = xs.length := by rw [List.size_toArray, ← r.length, List.length_map]
    exact set_of_list (I1.ok.hd hc) pl.isList hs.symm (by rw [hs]; omega) (hv r) fin
  · obtain ⟨its, r, pl, hz⟩ := I1.tuple hq
    have hs : its.toArray.size = xs.length := by rw [List.size_toArray, ← r.length, List.length_map]
    exact set_of_tuple (I1.ok.hd hc) pl hs.symm (by rw [hs]; omega) (hv r) fin
section
variable {K : PySem.W.Frag} {te : TE} {Γ Γ1 : List Sl} {xs : List Str} {n : Int}
def pyLenSt (xs : List Str) : Option Int := if xs.length ≤ 1000 then some ((dst xs).length : Nat) else none
theorem ev_lenStL (h : EvX (rLst rStr) te Γ Γ1 xs) (e : pyLenSt xs = some n) : EvX rInt (tLenSt K te) Γ Γ1 n := by
  unfold pyLenSt at e
  split at e
  · rename_i hl
    cases e
    intro A σ H B F Q q
    refine h A σ H B F _ fun v H1 B1 F1 s1 k1 => ?_
    obtain ⟨p, vs, rfl, hp, k⟩ := ob_lst F1.bh k1
    exact ⟨p, xs, rfl, .inl (by rw [show xs.map V.str = vs from (fl_str.vals k).symm]; exact SqL.of hp), hl, q _ _ _ F1 s1 rfl⟩
  · cases e
theorem ev_lenStT (h : EvX (rTpl rStr) te Γ Γ1 xs) (e : pyLenSt xs = some n) : EvX rInt (tLenSt K te) Γ Γ1 n := by
  unfold pyLenSt at e
  split at e
  · rename_i hl
    cases e
    intro A σ H B F Q q
    refine h A σ H B F _ fun v H1 B1 F1 s1 k1 => ?_
    obtain ⟨p, vs, rfl, hp, k⟩ := ob_tpl F1.bh k1
    exact ⟨p, xs, rfl, .inr (by rw [show xs.map V.str = vs from (fl_str.vals k).symm]; exact SqT.of hp), hl, q _ _ _ F1 s1 rfl⟩
  · cases e
end
end G

set_option maxHeartbeats 4000000
/-! # G: rules whose reading names K, for use behind binders -/
namespace G
open PySem PySem.Spec PyProof.Rows L2
section
variable {X : Cx} {K : PySem.W.Frag}
theorem in_seqK (h : X.K = K) : OpR X (compareOp .In) (rIn K false) := by subst h; exact op_in_seq
theorem notIn_seqK (h : X.K = K) : OpR X (compareOp .NotIn) (rIn K true) := by subst h; exact op_notIn_seq
theorem eqDK (h : X.K = K) (hu : X.A.units + 64 < cLine) : OpR X (compareOp .Eq) (rEqD K) := by subst h; exact op_eqD hu
theorem neDK (h : X.K = K) (hu : X.A.units + 64 < cLine) : OpR X (compareOp .NotEq) (rNeD K) := by subst h; exact op_neD hu
theorem ix_listK (h : X.K = K) : IxR X (rIxL K) := by subst h; exact ix_list
theorem ix_tupK (h : X.K = K) : IxR X (rIxT K) := by subst h; exact ix_tup
theorem sl_listK (h : X.K = K) : SlR X (rSlL K) := by subst h; exact sl_list
theorem len_seqK (h : X.K = K) : CallR X (.builtin "len") (RLen K) := by subst h; exact call_len_seq
theorem list_ofK (h : X.K = K) : CallR X (.type "list") (RList K) := by subst h; exact call_list_of
theorem tuple_ofK (h : X.K = K) : CallR X (.type "tuple") (fun xs H Q => ∃ p ys, xs = [.ref p] ∧ ((SqL K H p ys ∧ ∀ l, H l = none → Q (.ref l) (upd H l (.tup ys))) ∨ (SqT K H p ys ∧ Q (.ref p) H))) := by subst h; exact call_tuple_of
theorem allK (h : X.K = K) (hc : X.calm = true) : CallR X (.builtin "all") (rAll K) := by subst h; exact cr_all hc
theorem isiK (h : X.K = K) : CallR X (.builtin "isinstance") (rIsi K) := by subst h; exact call_isi
theorem fldK {e : Expr} {ta : TE} {f : Str} {pos : Pos} (h : X.K = K) (he : PE X e ta) (hb : attributeBase e f X.env (eval e X.env) = eval e X.env) : PE X (.Attribute e f pos) (tFld K ta f) := by subst h; exact pe_fld he hb
theorem pg_tupK {es : List Expr} {k : Nat} {t : TGs} {pos : Pos} (h : X.K = K) (n : Nat) (hc : X.calm = true) (hp : PGs X es t) (hn : (assignEach es X.env).length = n := by rfl) (hst : (assignEach es X.env).findIdx? (·.1) = none := by rfl) : PG X (.Tuple es k pos) (gTup K n t) := by subst h; exact pg_tup hc hp hn hst
theorem lenStK {a : Expr} {ta : TE} {p p2 q pos : Pos} (h : X.K = K) (hc : X.calm = true) (hg : Gl X "len") (hm : X.mg "len" = none) (hg2 : Gl X "set") (hm2 : X.mg "set" = none) (ha : PE X a ta)
    (na : starEach [a] X.env = (false, eval a X.env) :: starEach [] X.env := by rfl) : PE X (.Call (.Name "len" p) [.Call (.Name "set" p2) [a] [] q] [] pos) (tLenSt K ta) := by subst h; exact pe_lenSt hc hg hm hg2 hm2 ha na
/-- an error of the class at S and «except B» -/
theorem exm_of {S B : Addr} {b : Bool} (h0 : PySem.W.subIn K (.ref B) (.type "BaseException") = some true) (h1 : PySem.W.isClsIn K B = true) (h2 : PySem.W.typeIn K (.ref B) = some (.type "type")) (h3 : PySem.W.subIn K (.ref S) (.ref B) = some b) : PySem.W.exmOne K (.ref S) (.ref B) = some b := by
  unfold PySem.W.exmOne PySem.W.kitCls
  have e1 : (PySem.W.subIn K (.ref B) (.type "BaseException") == some true) = true := by rw [h0]; rfl
  have e2 : ((PySem.W.clsIn K B).isSome && PySem.W.typeIn K (.ref B) == some (.type "type")) = true := by
    rw [h2, show (PySem.W.clsIn K B).isSome = true from h1]; rfl
  rw [if_pos e1]
  show (if ((PySem.W.clsIn K B).isSome && PySem.W.typeIn K (.ref B) == some (.type "type")) = true then PySem.W.subIn K (.ref S) (.ref B) else none) = some b
  rw [if_pos e2]
  exact h3
end
end G

set_option maxHeartbeats 4000000
/-! # G: the operators of own classes -/
namespace G
open PySem PySem.Spec PyProof.Rows L2
section
variable {X : Cx} {CX : CXT} {C f : Addr} {fd : FuncData} {ps : List Str} {n : Nat} {sp : Sp} {E : XK} {K : PySem.W.Frag}
theorem room_bool : True := trivial
/-- x in y, y of the class at C -/
def rInO (C : Addr) (sp : Sp) (neg : Bool) (E : XK) : R2 := fun x y H Q => ∃ a dx fs, y = .ref a ∧ H a = some (.ins C dx fs) ∧ sp [y, x] H (fun v H' => ∃ b, v = .bl b ∧ Q (.bl (if neg then !b else b)) H') E
theorem op_inO (hK : X.K = K) (hm : Meth K C "__contains__" f) (F : FnOk X.prog X.w X.K X.mg X.base CX n f fd ps sp) (hr : Room n X.A) (hb : Binds K fd ps []) (hx : Passes CX X E) : OpR X (compareOp .In) (rInO C sp false E) := by
  subst hK
  intro pins s σ H x y v u Q I rx ry h
  obtain ⟨a, dx, fs, rfl, ha, q⟩ := h
  cases (show u = Value.ref a from ry)
  obtain ⟨mA, J, _⟩ := ins_get I.hok ha
  obtain ⟨od, J, _⟩ := J.look
  obtain ⟨m, hF⟩ := I.fr
  refine PySem.W.in_K hF I.ok.mod.kin J hm.at_ hm.fn ?_
  refine wpAny_mono (run_fn (us := [.ref a, v]) (vs := [.ref a, x]) F hr hb .nil hx I (.cons rfl (.cons rx .nil)) (by rw [List.append_nil]; exact q)) (fun w s' z => ?_) fun _ _ e => e
  obtain ⟨z', H', I', rz, b, rfl, qz⟩ := z
  cases (show w = Value.bool b from rz)
  exact wpAny_truthy_bool ⟨.bl b, H', I', rfl, qz⟩
theorem op_ninO (hK : X.K = K) (hm : Meth K C "__contains__" f) (F : FnOk X.prog X.w X.K X.mg X.base CX n f fd ps sp) (hr : Room n X.A) (hb : Binds K fd ps []) (hx : Passes CX X E) : OpR X (compareOp .NotIn) (rInO C sp true E) := by
  subst hK
  intro pins s σ H x y v u Q I rx ry h
  obtain ⟨a, dx, fs, rfl, ha, q⟩ := h
  cases (show u = Value.ref a from ry)
  obtain ⟨mA, J, _⟩ := ins_get I.hok ha
  obtain ⟨od, J, _⟩ := J.look
  obtain ⟨m, hF⟩ := I.fr
  refine PySem.W.notIn_K hF I.ok.mod.kin J hm.at_ hm.fn ?_
  refine wpAny_mono (run_fn (us := [.ref a, v]) (vs := [.ref a, x]) F hr hb .nil hx I (.cons rfl (.cons rx .nil)) (by rw [List.append_nil]; exact q)) (fun w s' z => ?_) fun _ _ e => e
  obtain ⟨z', H', I', rz, b, rfl, qz⟩ := z
  cases (show w = Value.bool b from rz)
  exact wpAny_truthy_bool ⟨.bl (!b), H', I', rfl, qz⟩
/-- x == y, x of the class at C, whose __eq__ gives a bool; y of the type t -/
def rEqO (K : PySem.W.Frag) (C : Addr) (t : Value) (sp : Sp) (E : XK) : R2 := fun x y H Q => ∃ a dx fs, x = .ref a ∧ H a = some (.ins C dx fs) ∧ TyX K H y t ∧ PySem.W.notFirst K C t = true ∧ sp [x, y] H (fun v H' => ∃ b, v = .bl b ∧ Q v H') E
theorem op_eqO {t : Value} (hK : X.K = K) (hm : Meth K C "__eq__" f) (F : FnOk X.prog X.w X.K X.mg X.base CX n f fd ps sp) (hr : Room n X.A) (hb : Binds K fd ps []) (hx : Passes CX X E) : OpR X (compareOp .Eq) (rEqO K C t sp E) := by
  subst hK
  intro pins s σ H x y v u Q I rx ry h
  obtain ⟨a, dx, fs, rfl, ha, ty, nf, q⟩ := h
  cases (show v = Value.ref a from rx)
  obtain ⟨mA, J, _⟩ := ins_get I.hok ha
  obtain ⟨od, J, _⟩ := J.look
  obtain ⟨m, hF⟩ := I.fr
  obtain ⟨P, Z, hP, _⟩ := kit_of I ry ty
  show wpAny _ _ (richCompare .Eq (.ref a) u) _ _ _
  refine PySem.W.cmp_K (op := .Eq) (tb := t) hr.units0 hF I.ok.mod.kin J (Z.ty _ _ I.kIn hP) nf hm.at_ hm.fn ?_
  refine wpAny_mono (run_fn (us := [.ref a, u]) (vs := [.ref a, y]) F hr hb .nil hx I (.cons rfl (.cons ry .nil)) (by rw [List.append_nil]; exact q)) (fun w s' z => ?_) fun _ _ e => e
  obtain ⟨z', H', I', rz, b, rfl, qz⟩ := z
  cases (show w = Value.bool b from rz)
  exact ⟨.bl b, H', I', rfl, qz⟩
/-- x op y, both of the class at C -/
def rBinO (C : Addr) (sp : Sp) (E : XK) : R2 := fun x y H Q => ∃ a dx fs b dy gs, x = .ref a ∧ y = .ref b ∧ H a = some (.ins C dx fs) ∧ H b = some (.ins C dy gs) ∧ sp [x, y] H Q E
theorem op_binO {op : Operator} (hK : X.K = K) (hs : PySem.W.findIn K (.ref C) (PySem.dunder op.info.2) = some (some (.ref f))) (hf : PySem.W.isFn K (.ref f) = true) (sf : PySem.W.selfFirst K C = true) (F : FnOk X.prog X.w X.K X.mg X.base CX n f fd ps sp) (hr : Room n X.A) (hb : Binds K fd ps []) (hx : Passes CX X E) : OpR X (binaryOp op) (rBinO C sp E) := by
  subst hK
  intro pins s σ H x y v u Q I rx ry h
  obtain ⟨a, dx, fs, b, dy, gs, rfl, rfl, ha, hb2, q⟩ := h
  cases (show v = Value.ref a from rx)
  cases (show u = Value.ref b from ry)
  obtain ⟨mA, J, _⟩ := ins_get I.hok ha
  obtain ⟨od, J, _⟩ := J.look
  obtain ⟨mB, J', _⟩ := ins_get I.hok hb2
  obtain ⟨od', J', _⟩ := J'.look
  obtain ⟨m, hF⟩ := I.fr
  refine PySem.W.binop_K hF I.ok.mod.kin J J'.type sf hs hf ?_
  refine wpAny_mono (run_fn (us := [.ref a, .ref b]) (vs := [.ref a, .ref b]) F hr hb .nil hx I (.cons rfl (.cons rfl .nil)) (by rw [List.append_nil]; exact q)) (fun w s' z => ?_) fun _ _ e => e
  obtain ⟨z', H', I', rz, qz⟩ := z
  exact SlX.cmpback rz ⟨z', H', I', rz, qz⟩
end
section
variable {α β γ : Type} {r ra : Rp α} {rb : Rp β} {rc : Rp γ} {te ta tb : TE} {Γ Γ1 Γ2 : List Sl} {K : PySem.W.Frag} {w : Rw α} {C : Addr} {names : List Str} {x : α} {y : β} {E : XK}
theorem ev_inO {m : α × β → Option Bool} {b : Bool} (ha : EvX rb ta Γ Γ1 y) (hb : EvX (rIns C names w) tb Γ1 Γ2 x) (e : m (x, y) = some b) : EvX rBool (tOp (rInO C (SpP (wC (rIns C names w) (w1 rb)) rBool m) false E) ta tb) Γ Γ2 b := fun A σ H B F Q q =>
  ha A σ H B F _ fun u H1 B1 F1 s1 k1 => hb A σ H1 B1 F1 _ fun v H2 B2 F2 s2 k2 => by
    obtain ⟨p, dx, vs, rfl, hp, l, kw⟩ := ob_ins F2.bh k2
    exact ⟨p, dx, _, rfl, hp, B2, (x, y), b, F2.sz, F2.bh, ⟨_, _, rfl, k2, _, rfl, rb.mono s2 k1⟩, e, fun H3 B3 v3 P k3 => ⟨b, k3, q _ H3 B3 (F2.after P) ((s1.trans s2).trans P.b0) rfl⟩⟩
theorem ev_ninO {m : α × β → Option Bool} {b : Bool} (ha : EvX rb ta Γ Γ1 y) (hb : EvX (rIns C names w) tb Γ1 Γ2 x) (e : m (x, y) = some b) : EvX rBool (tOp (rInO C (SpP (wC (rIns C names w) (w1 rb)) rBool m) true E) ta tb) Γ Γ2 (!b) := fun A σ H B F Q q =>
  ha A σ H B F _ fun u H1 B1 F1 s1 k1 => hb A σ H1 B1 F1 _ fun v H2 B2 F2 s2 k2 => by
    obtain ⟨p, dx, vs, rfl, hp, l, kw⟩ := ob_ins F2.bh k2
    exact ⟨p, dx, _, rfl, hp, B2, (x, y), b, F2.sz, F2.bh, ⟨_, _, rfl, k2, _, rfl, rb.mono s2 k1⟩, e, fun H3 B3 v3 P k3 => ⟨b, k3, q _ H3 B3 (F2.after P) ((s1.trans s2).trans P.b0) rfl⟩⟩
theorem ev_eqO {t : Value} {m : α × β → Option Bool} {b : Bool} (ha : EvX (rIns C names w) ta Γ Γ1 x) (hb : EvX rb tb Γ1 Γ2 y) (ty : TyR K rb t) (nf : PySem.W.notFirst K C t = true) (e : m (x, y) = some b) : EvX rBool (tOp (rEqO K C t (SpP (wC (rIns C names w) (w1 rb)) rBool m) E) ta tb) Γ Γ2 b := fun A σ H B F Q q =>
  ha A σ H B F _ fun u H1 B1 F1 s1 k1 => hb A σ H1 B1 F1 _ fun v H2 B2 F2 s2 k2 => by
    have k1' := (rIns C names w).mono s2 k1
    obtain ⟨p, dx, vs, rfl, hp, l, kw⟩ := ob_ins F2.bh k1'
    exact ⟨p, dx, _, rfl, hp, ty _ _ _ (rb.mono F2.bh k2), nf, B2, (x, y), b, F2.sz, F2.bh, ⟨_, _, rfl, k1', _, rfl, k2⟩, e, fun H3 B3 v3 P k3 => ⟨b, k3, q _ H3 B3 (F2.after P) ((s1.trans s2).trans P.b0) k3⟩⟩
theorem ev_binO {m : α × α → Option γ} {z : γ} {x y : α} (ha : EvX (rIns C names w) ta Γ Γ1 x) (hb : EvX (rIns C names w) tb Γ1 Γ2 y) (e : m (x, y) = some z) : EvX rc (tOp (rBinO C (SpP (wC (rIns C names w) (w1 (rIns C names w))) rc m) E) ta tb) Γ Γ2 z := fun A σ H B F Q q =>
  ha A σ H B F _ fun u H1 B1 F1 s1 k1 => hb A σ H1 B1 F1 _ fun v H2 B2 F2 s2 k2 => by
    have k1' := (rIns C names w).mono s2 k1
    obtain ⟨p, dx, vs, rfl, hp, l, kw⟩ := ob_ins F2.bh k1'
    obtain ⟨p2, dx2, vs2, rfl, hp2, l2, kw2⟩ := ob_ins F2.bh k2
    exact ⟨p, dx, _, p2, dx2, _, rfl, rfl, hp, hp2, B2, (x, y), z, F2.sz, F2.bh, ⟨_, _, rfl, k1', _, rfl, k2⟩, e, fun H3 B3 v3 P k3 => q _ H3 B3 (F2.after P) ((s1.trans s2).trans P.b0) k3⟩
end
end G

set_option maxHeartbeats 4000000
/-! # G: sorted(set(..)) of ints -/
namespace G
open PySem PySem.Spec PyProof.Rows L2
section
variable {prog : Program} {w : World} {A : Around} {E : Value → Shared → Prop} {z : Shared}
set_option maxHeartbeats 8000000 in
theorem seti_of_list {p : Addr} {its : Array Value} {ks : List Int} {G : Value → Shared → Prop} (hd : A.handled = none) (hp : z.heap.IsList p its) (hn : its.size = ks.length) (hb : ks.length < 2000)
    (hv : ∀ (i : Nat) (v : Value), its[i]? = some v → ∃ k t, ks[i]? = some k ∧ v = .int k t)
    (fin : ∀ (g : Heap) (tk c : Nat), SetR w g z.heap.objs.size (fun x => decide (x ∈ ks)) c → c ≤ ks.length → (∀ b o, z.heap.get? b = some o → g.get? b = some o) → G (.ref z.heap.objs.size) { z with heap := g, toks := tk }) :
    wpAny (model prog w) A (call (.type "set") [.ref p]) G E z := by
  obtain ⟨mc, mt, m0⟩ := PySem.F.called_set.mro
  have m1 := PySem.F.called_set.made
  have m2 := PySem.F.called_set.sub
  refine wpAny_call (codeAny_of_tree ?_)
  show wpAny _ _ (callAny (.type "set") (_ : Args)) _ _ z
  refine wpAny_pure (And.intro (Code.quiet_builtin _ (by decide +kernel)) (codeAny_builtin PySem.F.entry_type_call ?_))
  rw [Around.under_plain (weight_type_call_type "set" [Value.ref p] ([] : List (Str × Value))) (by rfl)]
  have m3 := PySem.F.called_set.notType
  have m4 := PySem.F.called_set.canCreate
  have m5 := PySem.F.typeCall_set_1 (Value.ref p)
  repeat (any_goals (first | assumption | wp_step))
  let ob : Obj := { cls := .type "set", dict := none, data := .set #[] 0 (.fresh 0 0 (!w.params.followText "set-order")) }
  refine codeAny_mono (code_set_led1 (Value.ref p) (E := E) (Q₁ := fun v z1 => v = Value.ref z.heap.objs.size ∧ z1 = { z with heap := z.heap.push ob }) (And.intro rfl rfl)) fun r0 z1 q0 => ?_
  cases r0 with
  | error e => exact q0
  | ok fl0 =>
    cases fl0 with
    | next => exact q0.elim
    | brk => exact q0.elim
    | cont => exact q0.elim
    | ret v0 =>
      obtain ⟨rfl, rfl⟩ := q0
      have at0 : (z.heap.push ob).get? z.heap.objs.size = some ob := Heap.get?_push_size _ rfl
      have ty0 : Shared.TypeIs { z with heap := z.heap.push ob } (.ref z.heap.objs.size) "set" := ⟨_, at0, rfl⟩
      have i1 := PySem.F.called_set.init.lookup
      have i2 := PySem.F.called_set.init.bind (Value.ref z.heap.objs.size)
      repeat (any_goals (first | assumption | wp_step))
      refine codeAny_mono (codeAny_call_builtin (R := wants (fun v z2 => v = .none ∧ ∃ g tk c, z2 = { z with heap := g, toks := tk } ∧ SetR w g z.heap.objs.size (fun x => decide (x ∈ ks)) c ∧ c ≤ ks.length ∧
          (∀ b o, z.heap.get? b = some o → g.get? b = some o)) E) PySem.F.called_set.init.plain PySem.F.entry_set_init (check_set_init_1 ty0 ?_)) fun r2 z2 q2 => ?_
      · obtain ⟨u0, a0, c0, n0, d0⟩ := hp
        obtain ⟨uc, ud, ux, us⟩ := u0
        simp only at c0 d0
        subst c0; subst d0
        have a1 : (z.heap.push ob).get? p = some { cls := .type "list", dict := ud, data := .seq its n0, slots := us } := Heap.get?_push_of_some _ a0
        have s1 := PySem.F.sub_list_set
        have s2 := PySem.F.sub_list_frozenset
        have s3 : (Value.type "list" == Value.type "dict") = false := by decide
        have l1 : (z.heap.push ob).IsList p its := ⟨_, a1, rfl, n0, rfl⟩
        unfold Builtin.«set.__init__» noKeywords Builtin.Frozenset.updateFrom
        generalize hit : pyIter = itf
        wp_walk
        subst hit
        refine wpAny_pyIter_list l1 (wpAny_bind (wpAny_runValue ?_))
        have pl : p < z.heap.objs.size := Heap.lt_size a0
        have h3 : A.in1.in1.in1.handled = none := by simp [hd]
        have sz1 : (z.heap.push ob).objs.size = z.heap.objs.size + 1 := Heap.size_push ..
        have ne1 : p ≠ (z.heap.push ob).objs.size := by rw [sz1]; exact Nat.ne_of_lt (Nat.lt_succ_of_lt pl)
        have sf : z.heap.objs.size ∉ [(z.heap.push ob).objs.size, p] := fun hm => by
          rw [sz1] at hm
          rcases List.mem_cons.mp hm with e | hm
          · exact Nat.ne_of_lt (Nat.lt_succ_self _) e
          · exact Nat.ne_of_gt pl (List.mem_singleton.mp hm)
        refine set_update_ints ((Walks.list h3 _ p ne1 its).toS) z.heap.objs.size sf ks hn (by unfold scanBound; omega) hv (its.size - 0) 0 _ (by omega) (Nat.zero_le _) ⟨⟨_, Heap.get?_push_size _ rfl, rfl, rfl⟩, l1.push _⟩ ?w0 ?w1
        case w0 =>
          exact ⟨0, Nat.le_refl 0, setR_new_at (Heap.get?_push_of_some _ at0)⟩
        case w1 =>
          intro z3 c3 mv le3 st3
          obtain ⟨g3, e3, d3, t3, o3⟩ := z3
          obtain rfl : e3 = z.gens := mv.gens
          obtain rfl : d3 = z.drawn := mv.drawn
          obtain rfl : o3 = z.os := mv.os
          show wpAny _ _ _ _ _ (_ : Shared)
          refine wpAny_pure ?_
          show wpAny _ _ (ret Value.none) _ _ (_ : Shared)
          rw [hn] at le3
          refine wpAny_pure ⟨rfl, g3, t3, c3, rfl, st3, le3, fun b o hbo => mv.heap b o (fun hm => ?_) (Heap.get?_push_of_some _ (Heap.get?_push_of_some _ hbo))⟩
          have bl := Heap.lt_size hbo
          rcases List.mem_cons.mp hm with e | hm
          · exact Nat.ne_of_lt bl e
          · rw [List.mem_singleton, sz1] at hm; exact Nat.ne_of_lt (Nat.lt_succ_of_lt bl) hm
      · cases r2 with
        | error e => exact q2
        | ok fl2 =>
          cases fl2 with
          | next => exact q2.elim
          | brk => exact q2.elim
          | cont => exact q2.elim
          | ret v2 =>
            obtain ⟨rfl, g2, t2, c2, rfl, st2, le2, kp2⟩ := q2
            repeat (any_goals (first | assumption | wp_step))
            exact fin _ _ _ st2 le2 kp2

end
end G

set_option maxHeartbeats 4000000
/-! # G: sorted(set(ints)) as an expression -/
namespace G
open PySem PySem.Spec PyProof.Rows L2
/-- ascending, each once -/
def insI (x : Int) : List Int → List Int
  | [] => [x]
  | y :: ys => if x < y then x :: y :: ys else if x = y then y :: ys else y :: insI x ys
def sset : List Int → List Int
  | [] => []
  | x :: xs => insI x (sset xs)
theorem mem_insI {x z : Int} : ∀ {l : List Int}, z ∈ insI x l ↔ z = x ∨ z ∈ l
  | [] => by simp [insI]
  | y :: ys => by
    unfold insI
    split
    · simp
    · split
      · rename_i h; subst h; simp
      · rw [List.mem_cons, mem_insI, List.mem_cons]
        exact ⟨fun h => h.elim (fun h => .inr (.inl h)) fun h => h.elim .inl fun h => .inr (.inr h), fun h => h.elim (fun h => .inr (.inl h)) fun h => h.elim .inl fun h => .inr (.inr h)⟩
theorem sset_mem {z : Int} : ∀ {l : List Int}, z ∈ sset l ↔ z ∈ l
  | [] => by simp [sset]
  | x :: xs => by
    unfold sset
    rw [mem_insI, sset_mem, List.mem_cons]
theorem insI_asc {x : Int} : ∀ {l : List Int}, l.Pairwise (· < ·) → (insI x l).Pairwise (· < ·)
  | [], _ => by simp [insI]
  | y :: ys, h => by
    have h' := List.pairwise_cons.mp h
    unfold insI
    split
    · rename_i hx
      exact List.pairwise_cons.mpr ⟨fun z hz => (List.mem_cons.mp hz).elim (fun e => e ▸ hx) fun hz => Int.lt_trans hx (h'.1 z hz), h⟩
    · split
      · exact h
      · rename_i h1 h2
        refine List.pairwise_cons.mpr ⟨fun z hz => ?_, insI_asc h'.2⟩
        rcases mem_insI.mp hz with e | hz
        · subst e; omega
        · exact h'.1 z hz
theorem sset_asc : ∀ l : List Int, (sset l).Pairwise (· < ·)
  | [] => .nil
  | x :: xs => insI_asc (sset_asc xs)
theorem asc_eq : ∀ {a b : List Int}, a.Pairwise (· < ·) → b.Pairwise (· < ·) → (∀ z, z ∈ a ↔ z ∈ b) → a = b
  | [], [], _, _, _ => rfl
  | [], y :: ys, _, _, h => by have := (h y).mpr List.mem_cons_self; cases this
  | x :: xs, [], _, _, h => by have := (h x).mp List.mem_cons_self; cases this
  | x :: xs, y :: ys, ha, hb, h => by
    have ha' := List.pairwise_cons.mp ha
    have hb' := List.pairwise_cons.mp hb
    have e : x = y := by
      rcases List.mem_cons.mp ((h x).mp List.mem_cons_self) with e | hx
      · exact e
      · rcases List.mem_cons.mp ((h y).mpr List.mem_cons_self) with e | hy
        · exact e.symm
        · have h1 := hb'.1 x hx
          have h2 := ha'.1 y hy
          omega
    subst e
    refine congrArg _ (asc_eq ha'.2 hb'.2 fun z => ⟨fun hz => ?_, fun hz => ?_⟩)
    · rcases List.mem_cons.mp ((h z).mp (List.mem_cons_of_mem _ hz)) with e | q
      · subst e; exact absurd (ha'.1 z hz) (by omega)
      · exact q
    · rcases List.mem_cons.mp ((h z).mpr (List.mem_cons_of_mem _ hz)) with e | q
      · subst e; exact absurd (hb'.1 z hz) (by omega)
      · exact q
theorem sset_nil : sset [] = [] := rfl
def pySS (xs : List Int) : Option (List Int) := if xs.length < 64 then some (sset xs) else none
theorem val_int : ∀ {xs : List Int} {us : List Value}, Vals (xs.map V.int) us → ∀ (i : Nat) (v : Value), us[i]? = some v → ∃ x t, xs[i]? = some x ∧ v = .int x t
  | [], _, .nil, i, v, h => by simp at h
  | x :: xs, _, .cons ⟨t, e⟩ r, 0, v, h => ⟨x, t, rfl, by simp at h; rw [← h, e]⟩
  | x :: xs, _, .cons _ r, i + 1, v, h => by
    obtain ⟨y, t, h1, h2⟩ := val_int r i v (by simpa using h)
    exact ⟨y, t, by simpa using h1, h2⟩
/-- set(xs) -/
def rSetI (K : PySem.W.Frag) (w : World) : List V → Hp → VK → Prop := fun vs H Q => ∃ (a : Addr) (ns : List Int), vs = [V.ref a] ∧ SqL K H a (ns.map V.int) ∧ ns.length < 1000 ∧ ∀ (n : Nat) (p : Addr), n ≤ ns.length → H p = none → Q (.ref p) (upd H p (SetO w p (fun x => decide (x ∈ ns)) n))
theorem cr_setI {X : Cx} {K : PySem.W.Frag} (hK : X.K = K) (hc : X.calm = true) : CallR X (.type "set") (rSetI K X.w) := by
  subst hK
  intro pins s σ H vs us Q I r h
  obtain ⟨a, ns, rfl, hs, hl, q⟩ := h
  obtain ⟨its, rv, pl, hz⟩ := I.list hs
  rw [Vals.ref1 r]
  have hsz : its.toArray.size = ns.length := by rw [List.size_toArray, ← rv.length, List.length_map]
  refine seti_of_list (I.ok.hd hc) pl.isList hsz (by omega) (fun i v e => by
    obtain ⟨x, t, h1, h2⟩ := val_int rv i v (by simpa using e)
    exact ⟨x, t, h1, h2⟩) fun g tk c R le kp => ?_
  have J : Inv X pins σ (upd H s.heap.objs.size (SetO X.w s.heap.objs.size (fun x => decide (x ∈ ns)) c)) { s with heap := g, toks := tk } :=
    I.laid (t' := tk) kp (Nat.le_refl _) (setO_new R)
  exact ⟨.ref s.heap.objs.size, _, J, rfl, q c _ le (I.hok.fresh (Nat.le_refl _))⟩
section
variable {te : TE} {Γ Γ1 : List Sl} {K : PySem.W.Frag} {xs ys : List Int} {wd : World}
theorem ec_sortSet (h : EvX (rLst rInt) te Γ Γ1 xs) (e : pySS xs = some ys) : EvC (cLst rInt) (tCB (rSortedSet wd) (tCons (tCB (rSetI K wd) (tCons te tNil)) tNil)) Γ Γ1 ys := fun A σ H B F Q q => by
  unfold pySS at e
  split at e
  · rename_i hl
    cases e
    refine h A σ H B F _ fun v H1 B1 F1 s1 k1 => ?_
    obtain ⟨p, vs, rfl, hp, k⟩ := ob_lst F1.bh k1
    refine ⟨p, xs, rfl, ?_, by omega, fun n p0 hn h0 => ?_⟩
    · rw [show xs.map V.int = vs from (fl_int.vals k).symm]; exact SqL.of hp
    · have F2 := (F1.fresh h0 (o := SetO wd p0 (fun x => decide (x ∈ xs)) n) trivial).drop (F1.H0none h0) F1.sub F1.mh
      refine ⟨p0, _, n, rfl, upd_same, by omega, fun ns p1 asc mem len h1 => ?_⟩
      have en : ns = sset xs := asc_eq asc (sset_asc xs) fun z => by rw [mem z, sset_mem, decide_eq_true_eq]
      subst en
      refine ec_fresh (c := cLst rInt) (o := .lst ((sset xs).map V.int)) F2 h1 ?_ (fun p o H' B' F' n' s' k' => q p o H' B' F' n' (s1.trans s') k') ⟨_, rfl, paired_ints _ _⟩
      show ((sset xs).map V.int).length ≤ sizeLine
      rw [List.length_map, len]
      exact Nat.le_trans (show n ≤ 64 by omega) (by decide)
  · cases e
end
end G

set_option maxHeartbeats 4000000
/-! # G: attributes as targets -/
namespace G
open PySem PySem.Spec PyProof.Rows L2
/-- the target e.f -/
def gFld (K : PySem.W.Frag) (ta : TE) (f : Str) : TG := fun y σ H Q => ta σ H fun x H1 => ∃ a C dx fs, x = .ref a ∧ H1 a = some (.ins C dx fs) ∧ Cls K C ∧ NoAttr K C f ∧ fs.length < 1000 ∧ Q σ (upd H1 a (.ins C dx (putF f y fs)))
theorem pg_fld {X : Cx} {K : PySem.W.Frag} {o : Expr} {ta : TE} {f : Str} {pos : Pos} (hK : X.K = K) (ho : PE X o ta) : PG X (.Attribute o f pos) (gFld K ta f) := by
  subst hK
  refine ⟨fun pins s σ H v u Q I r h => ?_⟩
  rw [arm_assign_Attribute]
  refine wpAny_bind (wpAny_holding (thn (ho.run pins s σ H _ I h) fun ov s1 ⟨x, H1, I1, rx, a, C, dx, fs, ex, ea, c, n, l, q⟩ => ?_))
  subst ex
  obtain rfl : ov = Value.ref a := rx
  refine wpAny_bind (wpAny_standAt (wpAny_bind (wpAny_holding (setattr_ok I1 ea c n l r fun s3 I3 => ?_))))
  exact wpAny_release ⟨σ, _, I3, q⟩
/-- a target that may change the frame's own objects -/
def TgH {α : Type} (g : TG) (r : Rp α) (Γ : List Sl) (Γf : α → List Sl) : Prop := ∀ (A : Amb) (σ : L2.St) (H B : Hp) (v : V) (x : α), Frm A σ H B Γ → r.rel B v x → ∀ Q : L2.St → Hp → Prop, (∀ σ' H', Frm A σ' H' B (Γf x) → Q σ' H') → g v σ H Q
def ThW {α : Type} (g : TGs) (w : Rw α) (Γ : List Sl) (Γf : α → List Sl) : Prop := ∀ (A : Amb) (σ : L2.St) (H B : Hp) (us : List V) (x : α), Frm A σ H B Γ → w.rel B us x → ∀ Q : L2.St → Hp → Prop, (∀ σ' H', Frm A σ' H' B (Γf x) → Q σ' H') → g us σ H Q
section
variable {α β γ : Type} {r : Rp α} {w : Rw β} {w' : Rw γ} {K : PySem.W.Frag} {C : Addr} {names : List Str} {Γ Γ1 : List Sl} {a : β} {i : Nat} {p : Addr} {nm : Str} {te : TE} {A : Amb} {D : Ends} {u : TS}
theorem th_name {j : Nat} : TgH (gName j) r Γ (fun x => Γ.set j (.imm r x)) := fun A σ H B v x F k Q q => q _ _ (F.set k)
theorem th_fld {f : β → α → γ} (hi : Γ[i]? = some (.cel p (cIns C names w) a)) (sn : Snoc w r w' f) (nn : nm ∉ names) (hl : names.length < 900) (c : Cls K C) (na : NoAttr K C nm) : TgH (gFld K (tVar i) nm) r Γ (fun x => Γ.set i (.cel p (cIns C (names ++ [nm]) w') (f a x))) := fun A σ H B v x F k Q q => by
  obtain ⟨e, o, ho, dx, vs, rfl, l, kw⟩ := cel_at F hi
  refine ⟨_, e, p, C, dx, _, rfl, ho, c, na, by rw [List.length_zip]; omega, ?_⟩
  exact q σ _ (F.write hi (c' := cIns C (names ++ [nm]) w') (o' := .ins C dx (putF nm v (names.zip vs))) ⟨dx, vs ++ [v], by rw [putF_zip nn l], by rw [List.length_append, List.length_append, l]; rfl, sn B vs a v x kw k⟩ trivial)
theorem th_1 {g : TG} {Γf : α → List Sl} (h : TgH g r Γ Γf) : ThW (gCons g gNil) (w1 r) Γ Γf := fun A σ H B us x F k Q q => by
  obtain ⟨v, rfl, kv⟩ := k
  exact ⟨v, [], rfl, h A σ H B v x F kv _ fun σ' H' F' => ⟨rfl, q σ' H' F'⟩⟩
theorem th_C {g : TG} {gs : TGs} {w : Rw β} {Γf : α → List Sl} {Γg : α → β → List Sl} (h : TgH g r Γ Γf) (hr : ∀ x, ThW gs w (Γf x) (Γg x)) : ThW (gCons g gs) (wC r w) Γ (fun x => Γg x.1 x.2) := fun A σ H B us x F k Q q => by
  obtain ⟨v, t, rfl, kv, kt⟩ := k
  exact ⟨v, t, rfl, h A σ H B v x.1 F kv _ fun σ' H' F' => hr x.1 A σ' H' B t x.2 F' kt _ fun σ2 H2 F2 => q σ2 H2 F2⟩
theorem th_tup {g : TGs} {n m : Nat} {w : Rw α} [k : WLen w m] {Γf : α → List Sl} (h : ThW g w Γ Γf) (e : m = n := by rfl) : TgH (gTup K n g) (rTup w) Γ Γf := fun A σ H B v x F kv Q q => by
  obtain ⟨p, vs, rfl, hp, kw⟩ := ob_tup F.bh kv
  exact ⟨p, vs, rfl, SqT.of hp, by rw [k.len kw, e], h A σ H B vs x F kw Q q⟩
theorem sq_asgH {g : TG} {x : α} {Γf : α → List Sl} (h : EvX r te Γ Γ1 x) (hg : TgH g r Γ1 Γf) (k : Nx A (u D) (Γf x)) : Nx A (tSeq (tAsg te g) u D) Γ := fun σ H B F => h A σ H B F _ fun v H' B' F' _ q =>
  hg A σ H' B' v x F' q _ fun σ2 H2 F2 => k σ2 H2 B' F2
end
end G

set_option maxHeartbeats 4000000
/-! # G: static methods -/
namespace G
open PySem PySem.Spec PyProof.Rows L2
/-- C.m is a staticmethod: its record at p, its def at g -/
structure SMet (K : PySem.W.Frag) (C : Addr) (mc : Value) (m : Str) (p g : Addr) : Prop where
  at_ : PySem.W.findCls K (.ref C) mc m = some (.get (.builtin "staticmethod.__get__") (.ref p) .none (.ref C))
  rc : ∃ rest, PySem.W.recIn K p "staticmethod" = some (.ref g :: rest)
  kp : PySem.W.keepIn K (.ref g) = true
/-- C.m(..), m a staticmethod -/
def tSm (sp : Sp) (E : L2.St → XK) (t : TA) : TE := fun σ H Q => t σ H fun vs H1 => sp vs H1 Q (E σ)
section
variable {X : Cx} {CX : CXT} {k : Nat} {C p g : Addr} {mc : Value} {sp : Sp} {E : L2.St → XK} {fd : FuncData} {ps : List Str} {e : Expr} {es : List Expr} {x m : Str} {pos apos px : Pos} {t : TA} {pl : Sem Bool}
theorem getsm_ok {pins : List (Addr × Obj)} {σ : L2.St} {H : Hp} {s : Shared} {Q : Value × List Value → Shared → Prop} {A : Around} {Ee : Value → Shared → Prop} (I : Inv X pins σ H s) (r : ClX.CRead X.K C mc) (c : SMet X.K C mc m p g)
    (h : ∀ s', Inv X pins σ H s' → Q (.ref g, []) s') : wpAny (model X.prog X.w) A (getMethod (.ref C) m pl) Q Ee s := by
  obtain ⟨rest, hp⟩ := c.rc
  refine PySem.W.method_cls I.kIn r.ga (PySem.W.cls_bind I.kIn r.rd c.at_ (wpAny_call (PySem.W.sm_get (s := { s with toks := s.toks + 1 }) I.kIn hp (PySem.W.handed_on rfl ?_))))
  exact h _ (I.tok _)
theorem pe_smeth (hg : Gl X x) (hm : X.mg x = some (.ref C)) (r : ClX.CRead X.K C mc) (c : SMet X.K C mc m p g) (F : FnOk X.prog X.w X.K X.mg X.base CX k g fd ps sp) (hr : Room k X.A) (hb : Binds X.K fd ps []) (hx : ∀ σ, PassesAt CX X σ (E σ)) (ha : PA X (e :: es) t)
    (hdb : (x == ("__debug__" : Str)) = false := by decide) (hst : starEach (e :: es) X.env = (false, eval e X.env) :: starEach es X.env := by rfl) (hpl : (backTo pos (starEach es X.env)).any (·.1) = false := by rfl)
    (ht : eval (.Call (.Attribute (.Name x px) m apos) (e :: es) [] pos) X.env = (do
      let ov ← eval (.Name x px) X.env
      standAt apos.atName
      let (f, first) ← holding [ov] (getMethod ov m pl)
      callWith pos f first (backTo pos (starEach (e :: es) X.env)) (backToKw pos (keywordEach [] X.env))) := by rfl) :
    PE X (.Call (.Attribute (.Name x px) m apos) (e :: es) [] pos) (tSm sp E t) := by
  refine ⟨fun pins s σ H Q I h => ?_⟩
  refine PySem.W.methodCall_KW (pl := pl) (ld_glob I hg hm ?_ hdb) ht
  refine getsm_ok I r c fun s2 I2 => ?_
  refine PySem.W.callWith_K (first := []) (h₀ := X.base) I2.ok.mod.kin c.kp (thn (ha.run pos pins s2 σ H _ I2 h) fun us s3 ⟨vs, H2, I3, rv, q2⟩ => ⟨I3.kIn, ?_⟩) hst hpl
  exact run_fnS F hr hb (hx σ) I3 rv q2
end
section
variable {α β γ ε : Type} {w : Rw α} {r : Rp β} {Γ Γ1 : List Sl} {ta : TA} {a : α} {b : β} {R : ER ε} {C : Addr} {names : List Str}
theorem ev_sm {m : α → Option β} {E : L2.St → XK} (h : EvW w ta Γ Γ1 a) (e : m a = some b) : EvX r (tSm (SpP w r m) E ta) Γ Γ1 b := fun A σ H B F Q q => h A σ H B F _ fun vs H1 B1 F1 s1 k1 =>
  ⟨B1, a, b, F1.sz, F1.bh, k1, e, fun H2 B2 v P k2 => q v H2 B2 (F1.after P) (s1.trans P.b0) k2⟩
/-- a def that may raise is called: both ways -/
theorem er_sm {m : α → Option (Res ε β)} {x : Res ε β} (h : EvW w ta Γ Γ1 a) (e : m a = some x) : EvR R r (fun E => tSm (SpX R w r m) E ta) Γ Γ1 x := fun A σ H B F E Q qo qe => h A σ H B F _ fun vs H1 B1 F1 s1 k1 =>
  ⟨B1, a, x, F1.sz, F1.bh, k1, e, fun b hb H2 B2 v P k2 => qo b hb v H2 B2 (F1.after P) (s1.trans P.b0) k2, fun y hy cls d H2 B2 P k2 => qe y hy cls d H2 B2 (F1.after P) (s1.trans P.b0) k2⟩
/-- .. where it does not raise -/
theorem ev_ok {tf : (L2.St → XK) → TE} {x : Res ε β} (h : EvR R r tf Γ Γ1 x) (e : x = .ok b) (E : L2.St → XK) : EvX r (tf E) Γ Γ1 b := fun A σ H B F Q q =>
  h A σ H B F E Q (fun y hy v H' B' F' s k => by rw [e] at hy; cases hy; exact q v H' B' F' s k) fun y hy => by rw [e] at hy; cases hy
end
end G

set_option maxHeartbeats 4000000
/-! # G: dicts -/
namespace G
open PySem PySem.Spec PyProof.Rows L2
/-- a key that is a value without the heap -/
structure Ky {κ : Type} [DecidableEq κ] (r : Rp κ) where
  key : κ → L2.Key
  ok : ∀ {H v k}, r.rel H v k → v = L2.kV (key k)
  inj : ∀ {a b}, key a = key b → a = b
  kn : ∀ {B k}, r.rel B (L2.kV (key k)) k
def kyInt : Ky rInt := ⟨.inl, fun h => h, fun h => Sum.inl.inj h, rfl⟩
def kyStr : Ky rStr := ⟨.inr, fun h => h, fun h => Sum.inr.inj h, rfl⟩
section
variable {κ β α γ : Type} [DecidableEq κ] {rk : Rp κ} {rv : Rp β} {r : Rp α} {te ta tb tk tv : TE} {tt : TT} {Γ Γ1 Γ2 : List Sl} {K : PySem.W.Frag} {xs : List α}
def putM (l : List (κ × β)) (k : κ) (v : β) : List (κ × β) := if (l.any fun e => decide (e.1 = k)) = true then l.map (fun e => if e.1 = k then (e.1, v) else e) else l ++ [(k, v)]
def getM (l : List (κ × β)) (k : κ) : Option β := (l.find? fun e => decide (e.1 = k)).map (·.2)
def DRel (ky : Ky rk) (rv : Rp β) (H : Hp) (e : L2.Key × V) (x : κ × β) : Prop := e.1 = ky.key x.1 ∧ rv.rel H e.2 x.2
def cDic (ky : Ky rk) (rv : Rp β) : Cl (List (κ × β)) := ⟨fun H o xs => ∃ kvs, o = .dK kvs ∧ Paired (DRel ky rv H) kvs xs, fun s ⟨kvs, e, h⟩ => ⟨kvs, e, Paired.imp2 (fun _ _ q => ⟨q.1, rv.mono s q.2⟩) h⟩⟩
theorem any_key (ky : Ky rk) {H : Hp} (k : κ) : ∀ {kvs : List (L2.Key × V)} {l : List (κ × β)}, Paired (DRel ky rv H) kvs l → (kvs.any fun e => decide (e.1 = ky.key k)) = l.any fun e => decide (e.1 = k)
  | _, _, .nil => rfl
  | _, _, .cons (a := a) (b := b) q t => by
    rw [List.any_cons, List.any_cons, any_key ky k t]
    congr 1
    by_cases h : b.1 = k
    · rw [decide_eq_true h, decide_eq_true (by rw [q.1, h])]
    · rw [decide_eq_false h, decide_eq_false fun e => h (ky.inj (by rw [← q.1]; exact e))]
theorem map_pair (ky : Ky rk) {H : Hp} {k : κ} {v : V} {b : β} (hv : rv.rel H v b) : ∀ {kvs : List (L2.Key × V)} {l : List (κ × β)}, Paired (DRel ky rv H) kvs l → Paired (DRel ky rv H) (kvs.map fun kv => if kv.1 = ky.key k then (kv.1, v) else kv) (l.map fun e => if e.1 = k then (e.1, b) else e)
  | _, _, .nil => .nil
  | _, _, .cons (a := a) (b := b') q t => by
    rw [List.map_cons, List.map_cons]
    refine .cons ?_ (map_pair ky hv t)
    by_cases e : b'.1 = k
    · rw [if_pos e, if_pos (by rw [q.1, e])]
      exact ⟨q.1, hv⟩
    · rw [if_neg e, if_neg fun z => e (ky.inj (by rw [← q.1]; exact z))]
      exact q
theorem put_pair (ky : Ky rk) {H : Hp} {k : κ} {v : V} {b : β} (hv : rv.rel H v b) {kvs : List (L2.Key × V)} {l : List (κ × β)} (h : Paired (DRel ky rv H) kvs l) : Paired (DRel ky rv H) (putK kvs (ky.key k) v) (putM l k b) := by
  unfold putK putM
  rw [any_key ky k h]
  split
  · exact map_pair ky hv h
  · exact Paired.app h (.cons ⟨rfl, hv⟩ .nil)
theorem putM_len (l : List (κ × β)) (k : κ) (v : β) : (putM l k v).length ≤ l.length + 1 := by
  unfold putM
  split
  · rw [List.length_map]; omega
  · rw [List.length_append, List.length_singleton]; omega
theorem get_pair (ky : Ky rk) {H : Hp} (k : κ) : ∀ {kvs : List (L2.Key × V)} {l : List (κ × β)}, Paired (DRel ky rv H) kvs l → (∀ b, getM l k = some b → ∃ v, valV kvs (ky.key k) = some v ∧ rv.rel H v b) ∧ (getM l k = none → valV kvs (ky.key k) = none)
  | _, _, .nil => ⟨(fun b e => by cases e), fun _ => rfl⟩
  | _, _, .cons (a := a) (b := b) (l₁ := l1) (l₂ := l2) q t => by
    have ih := get_pair ky k t
    by_cases h : b.1 = k
    · have h1 : decide (b.1 = k) = true := decide_eq_true h
      have h2 : decide (a.1 = ky.key k) = true := decide_eq_true (by rw [q.1, h])
      refine ⟨fun c e => ?_, fun e => ?_⟩
      · unfold getM at e
        rw [List.find?_cons_of_pos (by simpa using h)] at e
        have e' : b.2 = c := Option.some.inj e
        refine ⟨a.2, ?_, e' ▸ q.2⟩
        unfold valV
        rw [List.find?_cons_of_pos (by simpa using h2)]
        rfl
      · unfold getM at e
        rw [List.find?_cons_of_pos (by simpa using h)] at e
        cases e
    · have h2 : ¬ a.1 = ky.key k := fun e => h (ky.inj (by rw [← q.1]; exact e))
      have e1 : getM (b :: l2) k = getM l2 k := by
        unfold getM
        rw [List.find?_cons_of_neg (by simpa using h)]
      have e2 : valV (a :: l1) (ky.key k) = valV l1 (ky.key k) := by
        unfold valV
        rw [List.find?_cons_of_neg (by simpa using h2)]
      rw [e1, e2]
      exact ih
/-- {k: v for x in xs if t} -/
def compD {α κ β : Type} [DecidableEq κ] (f : α → Option (Option (κ × β))) : List α → List (κ × β) → Option (List (κ × β))
  | [], l => some l
  | x :: xs, l => match f x with
    | none => none
    | some none => compD f xs l
    | some (some y) => compD f xs (putM l y.1 y.2)
theorem ec_dc (ky : Ky rk) {wi : TI} {g : TG} {ws vs : List Nat} (f : α → Option (Option (κ × β))) {Γf : α → List Sl} {ys : List (κ × β)} (hi : ItX r wi Γ Γ1 xs) (e : compD f xs [] = some ys) (hg : TgX g r ws Γ1 Γf) (hw : ∀ k, k ∈ ws → k ∈ vs) (hv : wipeG Γ1 vs = Γ1) (hm : ∀ x, wipeG (Γf x) vs = Γ1)
    (hb : ∀ (x : α) (o : Option (κ × β)), f x = some o → EvT tt (Γf x) (Γf x) o.isSome ∧ ∀ y, o = some y → EvX rk tk (Γf x) (Γf x) y.1 ∧ EvX rv tv (Γf x) (Γf x) y.2) : EvC (cDic ky rv) (tDc wi g tt tk tv vs) Γ Γ1 ys := fun A σ H B F Q q => by
  refine hi A σ H B F _ fun J H1 B1 F1 sB1 Y => fun D hD => ?_
  have F2 := F1.and (Bx := B1) (Same.refl _)
  have h0D : A.H0 D = none := F1.H0none hD
  have hmD : ¬ A.m D := fun m => F.mh D m h0D
  have F3 := F2.wipe vs
  rw [hv] at F3
  have F4 := F3.fresh (o := .dK []) hD (Nat.zero_le _)
  refine ⟨fun i m H => m = xs.length - i ∧ i ≤ xs.length ∧ ∃ B acc l, Frm ((A.and B1).add D (.dK acc)) (L2.wipe σ vs) H B Γ1 ∧ Paired (DRel ky rv B) acc l ∧ acc.length ≤ i ∧ compD f (xs.drop i) l = some ys, ?_, ?_⟩
  · exact ⟨_, rfl, Nat.zero_le _, B1, [], [], F4, .nil, Nat.le_refl _, by rw [List.drop_zero]; exact e⟩
  · rintro i m H2 ⟨rfl, hil, B3, acc, l, F5, pa, hacc, e2⟩
    by_cases hlt : i < xs.length
    · right
      have hx : xs[i]? = some xs[i] := List.getElem?_eq_getElem hlt
      rw [List.drop_eq_getElem_cons hlt] at e2
      refine ⟨Y.go i H2 B3 F5.ph.2 F5.bh hlt, fun H3 => ∃ B acc l, Frm ((A.and B1).add D (.dK acc)) (L2.wipe σ vs) H3 B Γ1 ∧ Paired (DRel ky rv B) acc l ∧ acc.length ≤ i + 1 ∧ compD f (xs.drop (i + 1)) l = some ys, fun H3 h3 => ⟨_, by omega, rfl, by omega, h3⟩, fun v H3 hy => ?_⟩
      obtain ⟨B4, F6, sB4, k4⟩ := Y.yld i _ H2 B3 v H3 F5.ph.2 F5.bh hx hy _ _ _ F5
      refine hg _ _ H3 B4 v xs[i] F6 k4 _ fun σ4 F7 hl4 d4 => ⟨wipe_wipe hl4 fun k hk => d4 k fun z => hk (hw k z), ?_⟩
      have hwp := wipe_wipe hl4 fun k hk => d4 k fun z => hk (hw k z)
      have mono : ∀ {B B' : Hp}, Same B B' → Paired (DRel ky rv B) acc l → Paired (DRel ky rv B') acc l := fun s h => Paired.imp2 (fun _ _ q => ⟨q.1, rv.mono s q.2⟩) h
      unfold compD at e2
      cases q2 : f xs[i] with
      | none => rw [q2] at e2; cases e2
      | some o =>
        rw [q2] at e2
        obtain ⟨hT, hE⟩ := hb _ _ q2
        refine hT _ _ _ _ F7 _ fun H5 B5 F8 sB5 => ?_
        cases o with
        | none =>
          have F9 := F8.wipe vs
          rw [hm, hwp] at F9
          exact ⟨B5, acc, l, F9, mono (sB4.trans sB5) pa, by omega, e2⟩
        | some y =>
          obtain ⟨hK, hV⟩ := hE y rfl
          refine hK _ _ _ _ F8 _ fun u H6 B6 F9 sB6 k6 => hV _ _ _ _ F9 _ fun u2 H7 B7 F10 sB7 k7 => ?_
          have hid := F10.hid (A := A.and B1) h0D hmD
          refine ⟨acc, ky.key y.1, ky.ok k6, hid, Nat.lt_of_lt_of_le (Nat.lt_of_le_of_lt hacc hlt) Y.len, ?_⟩
          have F11 := F10.wipe vs
          rw [hm, hwp] at F11
          have pa2 := put_pair ky (k := y.1) k7 (mono (((sB4.trans sB5).trans sB6).trans sB7) pa)
          have len2 : (putK acc (ky.key y.1) u2).length ≤ i + 1 := by
            rw [Paired.len pa2]
            have h1 := putM_len l y.1 y.2
            have h2 := Paired.len pa
            omega
          have F12 := F11.hidset (A := A.and B1) (o' := .dK (putK acc (ky.key y.1) u2)) h0D hmD F.sub (Nat.le_trans len2 (Nat.le_trans hlt Y.len))
          exact ⟨B7, _, _, F12, pa2, len2, e2⟩
    · left
      have hil : i = xs.length := by omega
      subst hil
      refine ⟨Y.stop H2 B3 F5.ph.2 F5.bh, ?_⟩
      rw [List.drop_length] at e2
      unfold compD at e2
      cases e2
      have F6 := F5.unwipe hv
      have F7 : Frm ((A.add D (.dK acc)).and B1) σ H2 B3 _ := F6
      exact q D (.dK acc) H2 B3 F7.unand h0D (sB1.trans F5.ph.2) ⟨acc, rfl, pa⟩
/-! ### what is in a dict -/
theorem ob_dic (ky : Ky rk) {B H : Hp} {u : V} {l : List (κ × β)} (s : Same B H) (h : (rOb (cDic ky rv)).rel B u l) : ∃ p kvs, u = .ref p ∧ H p = some (.dK kvs) ∧ Paired (DRel ky rv B) kvs l := by
  obtain ⟨p, o, e, hp, kvs, rfl, k⟩ := h
  exact ⟨p, kvs, e, s _ _ hp, k⟩
theorem some_get (ky : Ky rk) {H : Hp} {k : κ} {kvs : List (L2.Key × V)} {l : List (κ × β)} (h : Paired (DRel ky rv H) kvs l) : (valV kvs (ky.key k)).isSome = (getM l k).isSome := by
  obtain ⟨h1, h2⟩ := get_pair ky k h
  cases q : getM l k with
  | none => rw [h2 q]; rfl
  | some b => obtain ⟨v, e, _⟩ := h1 b q; rw [e]; rfl
theorem ev_din (ky : Ky rk) {k : κ} {l : List (κ × β)} (hk : EvX rk tk Γ Γ1 k) (hd : EvX (rOb (cDic ky rv)) ta Γ1 Γ2 l) : EvX rBool (tDIn tk ta) Γ Γ2 ((getM l k).isSome) := fun A σ H B F Q q =>
  hk A σ H B F _ fun y H1 B1 F1 s1 k1 => hd A σ H1 B1 F1 _ fun x H2 B2 F2 s2 k2 => by
    obtain ⟨p, kvs, rfl, hp, kp⟩ := ob_dic ky F2.bh k2
    refine ⟨p, _, rfl, ?_, q _ _ _ F2 (s1.trans s2) (by show V.bl _ = V.bl _; rw [some_get ky kp])⟩
    rw [ky.ok k1]
    exact DGet.k hp
theorem ev_dnin (ky : Ky rk) {k : κ} {l : List (κ × β)} (hk : EvX rk tk Γ Γ1 k) (hd : EvX (rOb (cDic ky rv)) ta Γ1 Γ2 l) : EvX rBool (tDNotIn tk ta) Γ Γ2 (!(getM l k).isSome) := fun A σ H B F Q q =>
  hk A σ H B F _ fun y H1 B1 F1 s1 k1 => hd A σ H1 B1 F1 _ fun x H2 B2 F2 s2 k2 => by
    obtain ⟨p, kvs, rfl, hp, kp⟩ := ob_dic ky F2.bh k2
    refine ⟨p, _, rfl, ?_, q _ _ _ F2 (s1.trans s2) (by show V.bl _ = V.bl _; rw [some_get ky kp])⟩
    rw [ky.ok k1]
    exact DGet.k hp
theorem ev_dget (ky : Ky rk) {k : κ} {l : List (κ × β)} {b : β} (hd : EvX (rOb (cDic ky rv)) ta Γ Γ1 l) (hk : EvX rk tk Γ1 Γ2 k) (e : getM l k = some b) : EvX rv (tDGet ta tk) Γ Γ2 b := fun A σ H B F Q q =>
  hd A σ H B F _ fun x H1 B1 F1 s1 k1 => hk A σ H1 B1 F1 _ fun y H2 B2 F2 s2 k2 => by
    obtain ⟨p, kvs, rfl, hp, kp⟩ := ob_dic ky F2.bh ((rOb (cDic ky rv)).mono s2 k1)
    obtain ⟨v, ev, kv⟩ := (get_pair ky k kp).1 b e
    refine ⟨p, v, rfl, ?_, q _ _ _ F2 (s1.trans s2) kv⟩
    rw [ky.ok k2, ← ev]
    exact DGet.k hp
end
end G

set_option maxHeartbeats 4000000
/-! # G: while with more behind it; small rules by K -/
namespace G
open PySem PySem.Spec PyProof.Rows L2
section
variable {ρ ς : Type} {Γ : List Sl} {A : Amb} {ψ : ρ → Hp → Hp → V → Prop} {tt : TT} {tb u : TS} {D : Ends} {X : Cx} {K : PySem.W.Frag} {wd : World}
theorem sq_while (c : ς → Option Bool) (f : ς → Option (Step ρ ς)) (mk : ς → List Sl) {s0 : ς} {R0 : Step ρ ς} {n : Nat}
    (e : whL c f n s0 = some R0) (h0 : Nx A (Fin A (mk s0)) Γ) (ht : ∀ s b, c s = some b → EvT tt (mk s) (mk s) b)
    (hb : ∀ (D' : Ends) (s : ς) (st : Step ρ ς), f s = some st → Conts A ψ D' mk st → Nx A (tb D') (mk s))
    (hr : ∀ b, R0 = .ret b → Rt A ψ b D.rt) (hd : ∀ s, R0 = .nx s → Nx A (u D) (mk s)) : Nx A (tSeq (tWhile tt tb) u D) Γ := nx_while (D := { D with nx := u D }) c f mk e h0 ht (fun D' s st _ h k => hb D' s st h k) hr hd
theorem sortedSetK (hw : X.w = wd) (hc : X.calm = true) : CallR X (.builtin "sorted") (rSortedSet wd) := by subst hw; exact cr_sortedSet hc
end
end G

set_option maxHeartbeats 4000000
/-! # G: defaults; tuples that may be the text's own -/
namespace G
open PySem PySem.Spec PyProof.Rows L2
theorem _root_.L2.Room.units1 {k : Nat} {A : Around} (r : L2.Room k A) : A.units + 1 < cLine := by have := r.units; omega
def rTK {α : Type} (K : PySem.W.Frag) (r : Rp α) : Rp (List α) := ⟨fun H v xs => ∃ p vs, v = .ref p ∧ SqT K H p vs ∧ vs.length ≤ sizeLine ∧ Paired (r.rel H) vs xs, fun s ⟨p, vs, e, h, l, k⟩ => ⟨p, vs, e, Same.seqT s h, l, Paired.monoR s k⟩⟩
/-- what the defaults add to the written arguments -/
def DApp {α γ : Type} (w0 : Rw α) (dvs : List V) (w : Rw γ) (f : α → γ) : Prop := ∀ B vs a, w0.rel B vs a → w.rel B (vs ++ dvs) (f a)
section
variable {α β γ δ : Type} {r : Rp α} {rb : Rp β} {w0 : Rw α} {w : Rw γ} {wd : Rw δ} {dvs : List V} {Γ Γ1 : List Sl} {te : TE} {ta : TA} {K : PySem.W.Frag} {xs : List α} {a : α} {b : β} {C : Addr} {names : List Str}
theorem dapp_0 {d : δ} (h : ∀ B, wd.rel B dvs d) : DApp G.w0 dvs wd (fun _ => d) := fun B vs a e => by
  rw [show vs = [] from e]; exact h B
theorem dapp_1 {d : δ} (h : ∀ B, wd.rel B dvs d) : DApp (w1 r) dvs (wC r wd) (fun a => (a, d)) := fun B vs a ⟨v, e, k⟩ => ⟨v, dvs, by rw [e]; rfl, k, h B⟩
theorem dapp_C {f : α → γ} {rr : Rp β} (h : DApp w0 dvs w f) : DApp (wC rr w0) dvs (wC rr w) (fun a => (a.1, f a.2)) := fun B vs a ⟨v, t, e, k, k2⟩ => ⟨v, t ++ dvs, by rw [e]; rfl, k, h B t a.2 k2⟩
theorem tk_nil {e : Addr} {o : Obj} {n : Nat} (h : K.lookup e = some o) (hc : o.cls = .type "tuple") (hd : o.data = .seq #[] n) (B : Hp) : (w1 (rTK K r)).rel B [V.ref e] [] := ⟨_, rfl, e, [], rfl, .inr ⟨o, #[], n, h, hc, hd, Nat.zero_le _, .nil⟩, Nat.zero_le _, .nil⟩
/-- the text's empty tuple -/
def EmpT (K : PySem.W.Frag) (e : Addr) : Prop := ∃ (o : Obj) (n : Nat), K.lookup e = some o ∧ o.cls = .type "tuple" ∧ o.data = .seq #[] n
theorem tkE {e : Addr} (h : EmpT K e) (B : Hp) : (w1 (rTK K r)).rel B [V.ref e] [] := by
  obtain ⟨o, n, h1, h2, h3⟩ := h
  exact tk_nil h1 h2 h3 B
theorem ev_tk (h : EvX (rTpl r) te Γ Γ1 xs) : EvX (rTK K r) te Γ Γ1 xs := fun A σ H B F Q q => h A σ H B F Q fun v H' B' F' s k => q v H' B' F' s (by
  obtain ⟨p, o, rfl, hp, vs, rfl, kp⟩ := k
  exact ⟨p, vs, rfl, SqT.of hp, F'.sz _ _ (F'.bh _ _ hp), kp⟩)
theorem it_tk (h : EvX (rTK K r) te Γ Γ1 xs) : ItX r (iTup K te) Γ Γ1 xs := fun A σ H B F R q => h A σ H B F _ fun v H' B' F' s k => by
  obtain ⟨p, vs, rfl, hp, hl, kp⟩ := k
  refine ⟨p, rfl, ⟨vs, Same.seqT F'.bh hp⟩, q _ H' B' F' s ⟨by rw [← Paired.len kp]; exact hl, fun H2 B2 s1 s2 => ?_, fun i H2 B2 s1 s2 hi => ?_, fun i x H2 B2 v H3 s1 s2 hx hy A σ Γ F => ?_⟩⟩
  · exact ⟨vs, Same.seqT s2 (Same.seqT s1 hp), by rw [Paired.len kp]; exact Nat.le_refl _⟩
  · obtain ⟨y, hy⟩ : ∃ y, vs[i]? = some y := ⟨_, List.getElem?_eq_getElem (by rw [Paired.len kp]; exact hi)⟩
    exact ⟨vs, y, Same.seqT s2 (Same.seqT s1 hp), hy⟩
  · obtain ⟨rfl, hv⟩ := hy
    obtain ⟨y, hy, ky⟩ := Paired.getR kp hx
    have e := hv vs (Same.seqT s2 (Same.seqT s1 hp))
    rw [hy] at e; cases e
    exact ⟨B2, F, Same.refl _, r.mono s1 ky⟩
/-- a class is called, some parameters by their defaults -/
theorem ev_makeD {wb : Rw β} {f : α → γ} {m : γ → Option β} {E : XK} (h : EvW w0 ta Γ Γ1 a) (d : DApp w0 dvs w f) (e : m (f a) = some b) : EvX (rIns C names wb) (tMake C (SpJ C w (cIns C names wb) m) dvs E ta) Γ Γ1 b := fun A σ H B F Q q => h A σ H B F _ fun vs H1 B1 F1 s1 k1 => by
  intro y dy hy hd ne
  obtain ⟨p1, p2, p3, p4⟩ := made_pre (C := C) F1 hy hd ne
  refine ⟨y, dy, vs ++ dvs, upd B1 dy (.own y), f a, b, rfl, upd_same, p3, p1, p2, w.mono p4 (d B1 vs a k1), e, fun H2 B2 P ⟨o, ho, k⟩ => ⟨rfl, ?_⟩⟩
  have F2 := made_frame (A := A) F1 hy hd ne P ho
  have F3 := F2.adopt (F1.H0none hy) F1.sub F1.mh
  have hB2 : B2 y = none := P.out y (by show upd (upd H1 dy (.own y)) y (.ins C dy []) y ≠ none; rw [upd_same]; simp) p3
  have s3 : Same B2 (upd B2 y o) := fun q u e => by rw [upd_ne (ne_of_none e hB2)]; exact e
  exact q _ _ _ F3 (s1.trans (p4.trans (P.b0.trans s3))) ⟨y, o, rfl, upd_same, (cIns C names wb).mono s3 k⟩
end
section
variable {P : Program} {w : World} {K : PySem.W.Frag} {mg : Str → Option Value} {base : Heap} {x qual : Str} {params : Arguments} {body : List Stmt} {scope : Scope} {dvs : List V} {kws : List (Str × V)} {f : Addr} {fd : FuncData}
theorem funD_okN {N ps : List Str} {k : Nat} {sp : Sp} (F : FunD K x qual params body scope dvs kws f fd) (S : FnScope N ps scope) (len : ∀ vs H Q E, sp vs H Q E → vs.length = ps.length)
    (hbody : ∀ (cdv : Value) (A : Around) (outer : List Env) (s : Shared) (H : Hp) (vs : List V) (Q : VK) (E : XK), Room k (A.deeper (envOfC qual scope s.heap.objs.size f cdv)) → sp vs H Q E →
      ∃ t, PSs (cxOf CX0 P w K mg base N qual scope f cdv A outer s H E).nox body t ∧ t { nx := fun _ H' => Q .non H', rt := Q } (start N vs) H) : FnOk P w K mg base CX0 (k + 1) f fd ps sp :=
  F.ok S len fun cdv A outer s H vs Q E hr h => by
    obtain ⟨t, h1, h2⟩ := hbody cdv A outer s H vs Q E hr h
    exact ⟨t, h1.nox, h2⟩
end
end G

set_option maxHeartbeats 4000000
/-! # G: isinstance of a caught error; calls that may raise as statements; join -/
namespace G
open PySem PySem.Spec PyProof.Rows L2
/-- isinstance(e, c), e the error that the suite holds, its fields in the dict d -/
def rIsX (K : PySem.W.Frag) (C a : Addr) (d : Option Addr) : List V → Hp → VK → Prop := fun xs H Q => ∃ (c : V) (cv : Value) (b : Bool) (dd : Addr) (fs : List (Str × V)), xs = [.ref a, c] ∧ ClsV c cv ∧ PySem.W.kitOne K (.ref C) cv = some b ∧ d = some dd ∧ H dd = some (.xd fs) ∧ Q (.bl b) H
theorem call_isX {X : Cx} {K : PySem.W.Frag} {a D : Addr} {d : Option Addr} {oe : Obj} {pn : List (Addr × Obj)} (hK : X.K = K) (C : ExcC K D) (hz : Zc (.ref D) d oe) (hf : ∃ vs, oe.data = .fields vs) : CallR (X.suite a ((a, oe) :: pn)) (.builtin "isinstance") (rIsX K D a d) := by
  subst hK
  intro pins s σ H xs us Q I r h
  obtain ⟨c, cv, b, dd, fs, rfl, hcv, e, rfl, hdd, q⟩ := h
  cases r with
  | cons rx rr =>
    cases rr with
    | cons rt rr =>
      cases rr
      cases rx
      obtain rfl := ClsV.eq hcv rt
      obtain ⟨hget, _⟩ := I.pin (a, oe) (List.mem_append.mpr (.inl List.mem_cons_self))
      obtain ⟨vs, hv⟩ := hf
      have hx : ObjOk X.prog X.w H s.heap dd (.xd fs) := I.hok dd _ hdd
      obtain ⟨mA, hns, hr⟩ := hx
      obtain ⟨od, ho, hl⟩ := lookIn_ns hns
      have J : PySem.W.InstAt s.heap a oe D (some od) := ⟨hget, hz.1, by unfold PySem.W.notCls; rw [hv] <;> rfl, by rw [hz.2]; exact ho⟩
      have hcl : (PySem.W.clsIn X.K D).isSome = true := by
        have h1 := C.hd
        unfold PySem.W.hasDictIn at h1
        cases q : PySem.W.clsIn X.K D with
        | none => rw [q] at h1; cases h1
        | some cd => rfl
      exact PySem.W.kia_one (PySem.W.kitx_exc hcl C.hg C.hk C.hs C.ha C.hn C.ht C.hm) I.kIn J e (fun z => nomatch z) fun tk => ⟨.bl b, H, I.kept (t' := tk) fun _ _ z => z, rfl, q⟩
section
variable {α β γ ε : Type} {r : Rp β} {w : Rw α} {Γ Γ1 : List Sl} {te : TE} {ta : TA} {K : PySem.W.Frag} {a : α} {b : β} {C : Addr} {names : List Str} {A : Amb} {D : Ends} {u : TS} {R : ER ε} {i : Nat}
theorem ev_isX {p : Addr} {d : Option Addr} {c : V} {cv : Value} {k : Bool} (h : EvX (rExc p d C names w) te Γ Γ1 a) (hc : ClsV c cv) (kit : PySem.W.kitOne K (.ref C) cv = some k) : EvX rBool (tCB (rIsX K C p d) (tCons te (tCons (tC c) tNil))) Γ Γ1 k := fun A σ H B F Q q =>
  h A σ H B F _ fun v H1 B1 F1 s1 ⟨e, _, dd, fs, vs, h2, h3, h4, h5⟩ => by
    subst e
    exact ⟨c, cv, k, dd, fs, rfl, hc, kit, h2, F1.bh _ _ h3, q _ H1 B1 F1 s1 rfl⟩
theorem sq_dropSm {W : WX} {m : α → Option (Res ε β)} {x : Res ε β} {k : β → Option γ} {l : ε → Option γ} {z : γ} (h : EvW w ta Γ Γ1 a) (e : m a = some x) (q : resX x k l = some z)
    (ko : ∀ y, k y = some z → Nx A (u D) Γ1) (ke : ∀ y, l y = some z → NxE W A Γ1 R y) : Nx A (tSeq (tDrop (tSm (SpX R w r m) (WE W) ta)) u D) Γ :=
  sq_dropR (tf := fun E => tSm (SpX R w r m) E ta) (er_sm h e) q ko ke
theorem sq_asgSm {W : WX} {m : α → Option (Res ε β)} {x : Res ε β} {k : β → Option γ} {l : ε → Option γ} {z : γ} (h : EvW w ta Γ Γ1 a) (e : m a = some x) (q : resX x k l = some z)
    (ko : ∀ y, k y = some z → Nx A (u D) (Γ1.set i (.imm r y))) (ke : ∀ y, l y = some z → NxE W A Γ1 R y) : Nx A (tSeq (tAsg (tSm (SpX R w r m) (WE W) ta) (gName i)) u D) Γ :=
  sq_asgR (tf := fun E => tSm (SpX R w r m) E ta) (er_sm h e) q ko ke
def okR (x : Res ε β) : Option β := match x with
  | .ok b => some b
  | .er _ => none
@[simp] theorem okR_ok (b : β) : okR (.ok b : Res ε β) = some b := rfl
theorem okR_eq {x : Res ε β} {b : β} (h : okR x = some b) : x = .ok b := by
  cases x with
  | ok y => cases h; rfl
  | er e => cases h
theorem ev_smOk {m : α → Option (Res ε β)} {x : Res ε β} {E : L2.St → XK} (h : EvW w ta Γ Γ1 a) (e : m a = some x) (o : okR x = some b) : EvX r (tSm (SpX R w r m) E ta) Γ Γ1 b := ev_ok (tf := fun E => tSm (SpX R w r m) E ta) (er_sm h e) (okR_eq o) E
/-! ### join -/
def pyJoin (z : Str) (ys : List Str) : Option Str := if (ys.map (·.length)).sum + ys.length * z.length ≤ 16777216 then some (Txt.join z ys) else none
theorem ev_join {z o : Str} {ys : List Str} {tz : TE} {Γ2 : List Sl} (hz : EvX rStr tz Γ Γ1 z) (hy : EvX (rLst rStr) te Γ1 Γ2 ys) (e : pyJoin z ys = some o) :
    EvX rStr (tM1 (fun x xs H Q => ∃ a p, ∃ ys : List Str, x = .str a ∧ xs = [.ref p] ∧ (SqL K H p (ys.map V.str) ∨ SqT K H p (ys.map V.str)) ∧ (ys.map (·.length)).sum + ys.length * a.length ≤ 16777216 ∧ Q (.str (Txt.join a ys)) H) tz te) Γ Γ2 o := fun A σ H B F Q q => by
  unfold pyJoin at e
  split at e
  · rename_i hl
    cases e
    refine hz A σ H B F _ fun v H1 B1 F1 s1 k1 => ⟨⟨z, k1⟩, hy A σ H1 B1 F1 _ fun v2 H2 B2 F2 s2 k2 => ?_⟩
    obtain ⟨p, vs, rfl, hp, k⟩ := ob_lst F2.bh k2
    exact ⟨z, p, ys, k1, rfl, .inl (by rw [show ys.map V.str = vs from (fl_str.vals k).symm]; exact SqL.of hp), hl, q _ _ _ F2 (s1.trans s2) rfl⟩
  · cases e
theorem pe_joinK {X : Cx} {o e : Expr} {to te : TE} {apos pos : Pos} (hK : X.K = K) (h : PE X (.Call (.Attribute o "join" apos) [e] [] pos) (tM1 (fun x xs H Q => ∃ a p, ∃ ys : List Str, x = .str a ∧ xs = [.ref p] ∧ (SqL X.K H p (ys.map V.str) ∨ SqT X.K H p (ys.map V.str)) ∧ (ys.map (·.length)).sum + ys.length * a.length ≤ 16777216 ∧ Q (.str (Txt.join a ys)) H) to te)) :
    PE X (.Call (.Attribute o "join" apos) [e] [] pos) (tM1 (fun x xs H Q => ∃ a p, ∃ ys : List Str, x = .str a ∧ xs = [.ref p] ∧ (SqL K H p (ys.map V.str) ∨ SqT K H p (ys.map V.str)) ∧ (ys.map (·.length)).sum + ys.length * a.length ≤ 16777216 ∧ Q (.str (Txt.join a ys)) H) to te) := by subst hK; exact h
end
end G

set_option maxHeartbeats 4000000
/-! # G: range with ends of any size, two comparisons, the type of an instance, max and min with default=None -/
namespace G
open PySem PySem.Spec PyProof.Rows L2
section
variable {X : Cx} {K : PySem.W.Frag} {tg : Expr}
theorem turn_lng {P : Program} {w : World} (it : Addr) (lo : Int) (n : Nat) : Turn P w K tg (Itr lo n) [it] it (fun i h => IsLongIter h it (lo + (i : Nat) * 1) ((n : Int) - (i : Nat)) 1) where
  mem := List.mem_singleton.mpr rfl
  obj := fun i h st b hb => by
    cases List.mem_singleton.mp hb
    exact ⟨_, st, fun v z => by
      have y : Data.fields _ = Data.cell v := z
      cases y⟩
  keep := fun i h h' st k => k it (List.mem_singleton.mpr rfl) _ st
  item := by
    intro Y hP hw hK hc i pins s σ H E I hf st hg
    subst hP hw hK
    obtain ⟨f0, f1, _, f3, f4, f5⟩ := hf it (List.mem_singleton.mpr rfl)
    have W := Walks.longrange (prog := Y.prog) (w := Y.w) (I.ok.hd hc) it lo 1 n
    refine W.item i s _ _ hg st fun v h' tk hv st2 kk => ?_
    obtain ⟨t, rfl⟩ := hv
    have I1 : Inv Y pins σ H { s with heap := h', toks := tk } := I.turned (fun b o hb e => kk b o (by simpa using hb) e) f0 f1 f3 f4 f5
    refine ⟨_, rfl, go_of (s := { s with heap := h', toks := tk }) (n := "longrange_iterator") st2 rfl rfl (by decide) ⟨.int (lo + i), H, I1, ⟨t, ?_⟩, ⟨rfl, rfl⟩, st2, fun b hb => (hf b hb).1⟩⟩
    rw [Int.mul_one]
  done := by
    intro Y hP hw hK hc i pins s σ H E I hf st hg
    subst hP hw hK
    obtain ⟨f0, f1, _, f3, f4, f5⟩ := hf it (List.mem_singleton.mpr rfl)
    exact wpAny_pyNext_long_end (I.ok.hd hc) st (by have : n ≤ i := hg; omega) fun h' eb => ⟨rfl, I.turned (t' := s.toks) (fun b o hb e => eb b o hb e) f0 f1 f3 f4 f5⟩
  self := fun _ _ _ _ _ st h => wpAny_pyIter_longiter st h
theorem rng_any {pins : List (Addr × Obj)} {σ : L2.St} {H : Hp} {s : Shared} {R : It → Hp → Prop} {E : Value → Shared → Prop} {lo hi : Int} {t u v : Tok} {tk : Nat} (I : Inv X pins σ H s)
    (q : R (Itr lo (hi - lo).toNat) H) : wpAny (model X.prog X.w) X.A (pyIter (.ref s.heap.objs.size)) (PIE X pins σ tg R) E { s with heap := s.heap.push { cls := .type "range", data := .fields #[.int lo t, .int hi u, .int 1 v] }, toks := tk } := by
  have I1 : Inv X pins σ H { s with heap := s.heap.push { cls := .type "range", data := .fields #[.int lo t, .int hi u, .int 1 v] }, toks := tk } := I.kept fun b o e => Heap.get?_push_of_some _ e
  have e1 : lo + ((0 : Nat) : Int) * 1 = lo := by simp
  have e2 : (((hi - lo).toNat : Nat) : Int) - ((0 : Nat) : Int) = Builtin.Range.rangeSize lo hi 1 := by rw [rangeSize_one]; split <;> omega
  cases hs : Builtin.Range.small lo hi 1 with
  | true =>
    refine wpAny_pyIter_range (IsRange.new ..) hs ?_
    refine ⟨(s.heap.push { cls := .type "range", data := .fields #[.int lo t, .int hi u, .int 1 v] }).objs.size, [(s.heap.push { cls := .type "range", data := .fields #[.int lo t, .int hi u, .int 1 v] }).objs.size], _, _, H, rfl, I1.kept (t' := tk) fun b o e => Heap.get?_push_of_some _ e, turn_range _ lo (hi - lo).toNat, ?_, fun b hb => ?_, q⟩
    · show IsRangeIter _ _ (lo + ((0 : Nat) : Int) * 1) ((((hi - lo).toNat : Nat) : Int) - ((0 : Nat) : Int)) 1
      rw [e1, e2]; exact Heap.get?_push_size _ rfl
    · cases List.mem_singleton.mp hb
      exact I1.fpOk (Nat.le_refl _) (I1.hok.fresh (Nat.le_refl _))
  | false =>
    refine wpAny_pyIter_longrange (IsRange.new ..) hs ?_
    refine ⟨(s.heap.push { cls := .type "range", data := .fields #[.int lo t, .int hi u, .int 1 v] }).objs.size, [(s.heap.push { cls := .type "range", data := .fields #[.int lo t, .int hi u, .int 1 v] }).objs.size], _, _, H, rfl, I1.kept (t' := tk) fun b o e => Heap.get?_push_of_some _ e, turn_lng _ lo (hi - lo).toNat, ?_, fun b hb => ?_, q⟩
    · show IsLongIter _ _ (lo + ((0 : Nat) : Int) * 1) ((((hi - lo).toNat : Nat) : Int) - ((0 : Nat) : Int)) 1
      rw [e1, e2]; exact Heap.get?_push_size _ rfl
    · cases List.mem_singleton.mp hb
      exact I1.fpOk (Nat.le_refl _) (I1.hok.fresh (Nat.le_refl _))
theorem pi_listK {l : Expr} {tl : TE} (h : X.K = K) (hl : PE X l tl) : PI X tg l (iList K tl) := by subst h; exact pi_list hl
theorem pi_tupK {l : Expr} {tl : TE} (h : X.K = K) (hl : PE X l tl) : PI X tg l (iTup K tl) := by subst h; exact pi_tup hl
def iRng3 (ta : TA) : TI := fun σ H R => ta σ H fun vs H1 => ∃ i j : Int, vs = [.int i, .int j] ∧ R (Itr i (j - i).toNat) H1
theorem pi_range3 {a b : Expr} {ta : TA} {p pos : Pos} (hg : Gl X "range") (hm : X.mg "range" = none) (ha : PA X [a, b] ta) (hs : starEach [a, b] X.env = [(false, eval a X.env), (false, eval b X.env)] := by rfl) (hs2 : starEach [b] X.env = [(false, eval b X.env)] := by rfl) : PI X tg (.Call (.Name "range" p) [a, b] [] pos) (iRng3 ta) := by
  refine ⟨fun pins s σ H R I h => ?_⟩
  refine Call_ (ld_blt I hg hm boot_range (PyProof.Rows.callWith_type1 (thn (ha.run pos pins s σ H _ I h) fun us s1 ⟨vs, H1, I1, r1, q1⟩ => ?_) (by rw [hs, hs2]) (by rw [hs2]; rfl)))
  obtain ⟨i, j, e, q⟩ := q1
  subst e
  cases r1 with
  | cons r rr =>
    cases rr with
    | cons r2 rr =>
      cases rr
      obtain ⟨t, rfl⟩ := r
      obtain ⟨u, rfl⟩ := r2
      exact call_range_2 (rng_any I1 q)
end
section
variable {α β γ : Type} {r ra : Rp α} {rb : Rp β} {te ta tb tc : TE} {Γ Γ1 Γ2 : List Sl} {K : PySem.W.Frag} {w : Rw α} {C : Addr} {names : List Str}
def pyRng3 (i j : Int) : Option (List Int) := if j - i ≤ 1000000 then some (rng i (j - i).toNat) else none
theorem it_rng3 {ta : TA} {i j : Int} {l : List Int} (h : EvW (wC rInt (w1 rInt)) ta Γ Γ1 (i, j)) (e : pyRng3 i j = some l) : ItX rInt (iRng3 ta) Γ Γ1 l := fun A σ H B F R q => h A σ H B F _ fun vs H' B' F' s k => by
  obtain ⟨v, t, rfl, rfl, u, rfl, rfl⟩ := k
  unfold pyRng3 at e
  split at e
  · rename_i hj
    cases e
    exact ⟨i, j, rfl, q _ H' B' F' s (yl_rng (by omega))⟩
  · cases e
/-! ### two comparisons of whole numbers -/
theorem nomark2 {op op' : CmpOp} (b c : Expr) (h : op' ≠ .In := by decide) (h2 : op' ≠ .NotIn := by decide) : lastMarks [op, op'] [b, c] = false := nomark c h h2
theorem ch_I {f : Int → Int → Bool} {i j : Int} {H B : Hp} {u v : V} (ku : rInt.rel B u i) (kv : rInt.rel B v j) {Q : VK} (q : Q (.bl (f i j)) H) : rI0 (fun i j => .bl (f i j)) u v H Q := ⟨i, j, ku, kv, q⟩
theorem ev_chI {f g : Int → Int → Bool} {i j k : Int} (ha : EvX rInt ta Γ Γ1 i) (hb : EvX rInt tb Γ1 Γ2 j) (hc : EvX rInt tc Γ2 Γ2 k) : EvX rBool (tChain (rI0 (fun i j => .bl (f i j))) (rI0 (fun i j => .bl (g i j))) ta tb tc) Γ Γ2 (f i j && g j k) :=
  ev_chain ha hb (fun _ => hc) (fun H B u v _ ku kv Q q => ch_I ku kv q) fun _ H B u v _ ku kv Q q => ch_I ku kv q
theorem ev_chO {f g : Int → Int → Bool} {i j : Int} {b1 b : Bool} (ha : EvX rInt ta Γ Γ1 i) (hb : EvX rInt tb Γ1 Γ2 j) (e1 : f i j = b1) (hc : b1 = true → ∃ k, EvX rInt tc Γ2 Γ2 k ∧ b = g j k) (hf : b1 = false → b = false) : EvX rBool (tChain (rI0 (fun i j => .bl (f i j))) (rI0 (fun i j => .bl (g i j))) ta tb tc) Γ Γ2 b := by
  cases b1 with
  | true =>
    obtain ⟨k, hk, rfl⟩ := hc rfl
    have h := ev_chI (f := f) (g := g) ha hb hk
    rw [e1, Bool.true_and] at h
    exact h
  | false =>
    rw [hf rfl]
    exact ev_chain (b1 := false) (b2 := false) (rc := rInt) (z := 0) ha hb (fun h => nomatch h) (fun H B u v _ ku kv Q q => ch_I (f := f) ku kv (by rw [e1]; exact q)) (fun h => nomatch h)
/-! ### the type of an instance -/
structure ClsT (K : PySem.W.Frag) (C : Addr) : Prop where
  cl : Cls K C
  ca : PySem.W.findIn K (.ref C) "__class__" = some (some (.builtin "object.__class__"))
  cn : PySem.W.specialIn K (.builtin "object.__class__") "__get__" = some (some (.builtin "getset_descriptor.__get__"))
  ct : PySem.W.takesIn K (.builtin "object.__class__") = some true
  cm : PySem.W.mroIn K C (.type "object") = some true
theorem ty_ins (k : ClsT K C) : TyR K (rIns C names w) (.ref C) := fun H v a h => by
  obtain ⟨p, dx, vs, rfl, hp, _, _⟩ := ob_ins (Same.refl H) h
  exact .base (.ins hp k.cl k.ca k.cn k.ct k.cm)
/-! ### max(xs, default=None), min -/
def pyMaxN : List Int → Option Int
  | [] => none
  | n :: t => some (t.foldl max n)
def pyMinN : List Int → Option Int
  | [] => none
  | n :: t => some (t.foldl min n)
def oInt : Option Int → V
  | none => .non
  | some n => .int n
def rMxN (K : PySem.W.Frag) (f : List Int → Option Int) : List V → List V → Hp → VK → Prop := fun xs zs H Q => ∃ a ns, xs = [V.ref a] ∧ zs = [V.non] ∧ SqL K H a (ns.map V.int) ∧ Q (oInt (f ns)) H
theorem max_of (n : Int) (ns : List Int) : PySem.W.maxOf n ns = ns.foldl max n := by
  unfold PySem.W.maxOf
  congr 1
  funext a y
  show (if decide (a < y) = true then y else a) = max a y
  by_cases h : a < y
  · rw [if_pos (by simpa using h)]; omega
  · rw [if_neg (by simpa using h)]; omega
theorem min_of (n : Int) (ns : List Int) : PySem.W.minOf n ns = ns.foldl min n := by
  unfold PySem.W.minOf
  congr 1
  funext a y
  show (if decide (y < a) = true then y else a) = min a y
  by_cases h : y < a
  · rw [if_pos (by simpa using h)]; omega
  · rw [if_neg (by simpa using h)]; omega
theorem holds_ints {h : Heap} : ∀ {ns : List Int} {us : List Value}, Vals (ns.map V.int) us → PySem.W.HoldAll h us ns
  | [], _, .nil => ⟨[], .nil⟩
  | n :: _, _, .cons ⟨t, e⟩ k => by
    subst e
    obtain ⟨as, q⟩ := holds_ints (h := h) k
    exact ⟨_, .cons (.int n t) q⟩
theorem holds_int {h : Heap} {v : Value} {n : Int} (k : PySem.W.Holds h v n) : ∃ t, v = .int n t := by
  obtain ⟨as, q⟩ := k
  cases q
  exact ⟨_, rfl⟩
theorem crk_max {X : Cx} (hK : X.K = K) (hc : X.calm = true) (hu : X.A.units + 64 < cLine) : CallRK X (.builtin "max") ["default"] (rMxN K pyMaxN) := by
  subst hK
  intro pins s σ H xs zs us ws Q I q z h
  obtain ⟨a, ns, rfl, rfl, hs, k⟩ := h
  obtain ⟨its, rv, hl, _⟩ := I.list hs
  rw [Vals.ref1 q]
  have ew : ws = [Value.none] := by
    cases z with
    | cons z1 z2 => cases z2; cases (show _ = Value.none from z1); rfl
  subst ew
  refine PySem.W.max_list_datum_default (α := Int) (I.ok.hd hc) hl.isList (holds_ints rv) (by show X.A.units + 1 + 0 < cLine; omega) (fun e h2 tk hk => ?_) fun y ys i v h2 tk e hi hv hk => ?_
  · subst e
    exact ⟨.non, H, I.kept hk, rfl, k⟩
  · subst e
    obtain ⟨t, rfl⟩ := holds_int hv
    exact ⟨.int _, H, I.kept hk, ⟨t, rfl⟩, by rw [max_of]; exact k⟩
theorem crk_min {X : Cx} (hK : X.K = K) (hc : X.calm = true) (hu : X.A.units + 64 < cLine) : CallRK X (.builtin "min") ["default"] (rMxN K pyMinN) := by
  subst hK
  intro pins s σ H xs zs us ws Q I q z h
  obtain ⟨a, ns, rfl, rfl, hs, k⟩ := h
  obtain ⟨its, rv, hl, _⟩ := I.list hs
  rw [Vals.ref1 q]
  have ew : ws = [Value.none] := by
    cases z with
    | cons z1 z2 => cases z2; cases (show _ = Value.none from z1); rfl
  subst ew
  refine PySem.W.min_list_datum_default (α := Int) (I.ok.hd hc) hl.isList (holds_ints rv) (by show X.A.units + 1 + 0 < cLine; omega) (fun e h2 tk hk => ?_) fun y ys i v h2 tk e hi hv hk => ?_
  · subst e
    exact ⟨.non, H, I.kept hk, rfl, k⟩
  · subst e
    obtain ⟨t, rfl⟩ := holds_int hv
    exact ⟨.int _, H, I.kept hk, ⟨t, rfl⟩, by rw [min_of]; exact k⟩
theorem ev_mxN {f : List Int → Option Int} {ns : List Int} (h : EvX (rLst rInt) te Γ Γ1 ns) : EvX (rOpt rInt) (tCKw (rMxN K f) (tCons te tNil) (tCons (tC .non) tNil)) Γ Γ1 (f ns) := fun A σ H B F Q q =>
  h A σ H B F _ fun v H1 B1 F1 s1 k1 => by
    obtain ⟨p, vs, rfl, hp, kv⟩ := ob_lst F1.bh k1
    refine ⟨p, ns, rfl, rfl, by rw [← Paired.mapEq (fun a b h => h) kv]; exact SqL.of hp, ?_⟩
    refine q _ H1 B1 F1 s1 ?_
    cases f ns with
    | none => rfl
    | some n => exact ⟨rfl, fun z => V.noConfusion z⟩
end
end G

set_option maxHeartbeats 4000000
/-! # G: comprehensions with two fors -/
namespace G
open PySem PySem.Spec PyProof.Rows L2
section
variable {α β γ δ : Type} {r : Rp α} {r1 : Rp δ} {rb : Rp β} {Γ Γ1 : List Sl} {xs : List α}
def compL2 (fi : α → Option (List δ)) (g : α → δ → Option (Option β)) : List α → Option (List β)
  | [] => some []
  | x :: xs => bindO (fi x) fun l => bindO (compL (g x) l) fun ys => bindO (compL2 fi g xs) fun zs => some (ys ++ zs)
def comp2 (fi : α → Option (List δ)) (g : α → δ → Option (Option β)) (xs : List α) : Option (List β) := bindO (compL2 fi g xs) fun ys => if ys.length ≤ 1000000 then some ys else none
theorem it_to {wi : TI} {l l2 : List α} (h : ItX r wi Γ Γ1 l) (e : l = l2) : ItX r wi Γ Γ1 l2 := by subst e; exact h
theorem dr_C {w : Rw β} {B : Hp} {v : V} {vs : List V} {a : α} {b : β} (h : r.rel B v a) (k : w.rel B vs b) : (wC r w).rel B (v :: vs) (a, b) := ⟨v, vs, rfl, h, k⟩
theorem rl_none {B : Hp} : (rOpt r).rel B .non none := rfl
theorem line_big {n : Nat} (h : n ≤ 1000000) : n ≤ sizeLine := Nat.le_trans h (by decide)
theorem ec_lc2 {wi wi1 : TI} {g g1 : TG} {tt tt1 : TT} {te : TE} {ws ws1 vs vs1 : List Nat} (fi : α → Option (List δ)) (f : α → δ → Option (Option β)) {Γf : α → List Sl} {Γg : α → δ → List Sl} {ys : List β}
    (hi : ItX r wi Γ Γ1 xs) (e : comp2 fi f xs = some ys) (hg : TgX g r ws (wipeG Γ1 vs) Γf) (hw : ∀ k, k ∈ ws → k ∈ vs) (hv : wipeG Γ1 vs = Γ1) (hm : ∀ x, wipeG (Γf x) vs = Γ1) (ht : ∀ x, EvT tt (Γf x) (Γf x) true)
    (hi1 : ∀ x l, fi x = some l → ItX r1 wi1 (Γf x) (Γf x) l) (hv1 : ∀ x, wipeG (Γf x) vs1 = Γf x) (hg1 : ∀ x, TgX g1 r1 ws1 (wipeG (Γf x) vs1) (Γg x)) (hw1 : ∀ k, k ∈ ws1 → k ∈ vs1) (hm1 : ∀ x y, wipeG (Γg x y) vs1 = Γf x)
    (hb : ∀ (x : α) (y : δ) (o : Option β), f x y = some o → EvT tt1 (Γg x y) (Γg x y) o.isSome ∧ (∀ z, o = some z → EvX rb te (Γg x y) (Γg x y) z)) : EvC (cLst rb) (tLc2 wi g tt wi1 g1 tt1 te vs vs1) Γ Γ1 ys := fun A σ H B F Q q => by
  obtain ⟨ys0, e0, e⟩ := bindO_some e
  split at e
  case isFalse => cases e
  rename_i hlim
  cases e
  refine hi A σ H B F _ fun J H1 B1 F1 sB1 Y => fun D hD => ?_
  have F2 := F1.and (Same.refl B1)
  have h0D : A.H0 D = none := F1.H0none hD
  have hmD : ¬ A.m D := fun m => F.mh D m h0D
  have F3 := F2.wipe vs
  rw [hv] at F3
  have F4 := F3.fresh (o := .lst []) hD (Nat.zero_le _)
  refine ⟨fun i m H => m = xs.length - i ∧ i ≤ xs.length ∧ ∃ B acc dn rest, Frm ((A.and B1).add D (.lst acc)) (L2.wipe σ vs) H B Γ1 ∧ Paired (rb.rel B) acc dn ∧ compL2 fi f (xs.drop i) = some rest ∧ dn ++ rest = ys, ?_, ?_⟩
  · exact ⟨_, rfl, Nat.zero_le _, B1, [], [], ys, F4, .nil, by rw [List.drop_zero]; exact e0, rfl⟩
  · rintro i m H2 ⟨rfl, hil, B3, acc, dn, rest, F5, pa, e2, ed⟩
    by_cases hlt : i < xs.length
    · right
      have hx : xs[i]? = some xs[i] := List.getElem?_eq_getElem hlt
      rw [List.drop_eq_getElem_cons hlt] at e2
      unfold compL2 at e2
      obtain ⟨l, el, e2⟩ := bindO_some e2
      obtain ⟨ys1, ey, e2⟩ := bindO_some e2
      obtain ⟨zs, ez, e2⟩ := bindO_some e2
      cases e2
      refine ⟨Y.go i H2 B3 F5.ph.2 F5.bh hlt, fun H3 => ∃ B acc dn rest, Frm ((A.and B1).add D (.lst acc)) (L2.wipe σ vs) H3 B Γ1 ∧ Paired (rb.rel B) acc dn ∧ compL2 fi f (xs.drop (i + 1)) = some rest ∧ dn ++ rest = ys, fun H3 h3 => ⟨_, by omega, rfl, by omega, h3⟩, fun v H3 hy => ?_⟩
      obtain ⟨B4, F6, sB4, k4⟩ := Y.yld i _ H2 B3 v H3 F5.ph.2 F5.bh hx hy _ _ _ F5
      rw [hv] at hg
      refine hg _ _ H3 B4 v xs[i] F6 k4 _ fun σ4 F7 hl4 d4 => ?_
      have hwp := wipe_wipe hl4 fun k hk => d4 k fun z => hk (hw k z)
      refine ⟨hwp, ?_⟩
      refine ht _ _ _ _ _ F7 _ fun H5 B5 F8 sB5 => ?_
      show wi1 _ _ _
      refine hi1 _ l el _ _ _ _ F8 _ fun J1 H6 B6 F9 sB6 Y1 => ?_
      have G1 : Frm (((A.and B1).add D (.lst acc)).and B6) σ4 H6 B6 (Γf xs[i]) := F9.and (Same.refl _)
      have G2 : Frm (((A.and B1).and B6).add D (.lst acc)) σ4 H6 B6 (Γf xs[i]) := G1
      have G3 := G2.wipe vs1
      rw [hv1] at G3
      refine ⟨fun j k H => k = l.length - j ∧ j ≤ l.length ∧ ∃ B acc dn rest, Frm (((A.and B1).and B6).add D (.lst acc)) (L2.wipe σ4 vs1) H B (Γf xs[i]) ∧ Paired (rb.rel B) acc dn ∧ compL (f xs[i]) (l.drop j) = some rest ∧ dn ++ (rest ++ zs) = ys, ?_, ?_⟩
      · exact ⟨_, rfl, Nat.zero_le _, B6, acc, dn, ys1, G3, Paired.monoR ((sB4.trans sB5).trans sB6) pa, by rw [List.drop_zero]; exact ey, ed⟩
      · rintro j k H7 ⟨rfl, hjl, B7, acc, dn, rest, G4, pa, e3, ed⟩
        by_cases hlj : j < l.length
        · right
          have hy : l[j]? = some l[j] := List.getElem?_eq_getElem hlj
          rw [List.drop_eq_getElem_cons hlj] at e3
          refine ⟨Y1.go j H7 B7 G4.ph.2 G4.bh hlj, fun H8 => ∃ B acc dn rest, Frm (((A.and B1).and B6).add D (.lst acc)) (L2.wipe σ4 vs1) H8 B (Γf xs[i]) ∧ Paired (rb.rel B) acc dn ∧ compL (f xs[i]) (l.drop (j + 1)) = some rest ∧ dn ++ (rest ++ zs) = ys, fun H8 h8 => ⟨_, by omega, rfl, by omega, h8⟩, fun v H8 hyy => ?_⟩
          obtain ⟨B8, G5, sB8, k8⟩ := Y1.yld j _ H7 B7 v H8 G4.ph.2 G4.bh hy hyy _ _ _ G4
          have hg1' := hg1 xs[i]
          rw [hv1] at hg1'
          refine hg1' _ _ H8 B8 v l[j] G5 k8 _ fun σ9 G6 hl9 d9 => ?_
          have hwp1 := wipe_wipe hl9 fun k hk => d9 k fun z => hk (hw1 k z)
          refine ⟨hwp1, ?_⟩
          unfold compL at e3
          cases q2 : f xs[i] l[j] with
          | none => rw [q2] at e3; cases e3
          | some o =>
            rw [q2] at e3
            obtain ⟨hT, hE⟩ := hb _ _ _ q2
            refine hT _ _ _ _ G6 _ fun H10 B10 G7 sB10 => ?_
            cases o with
            | none =>
              have G8 := G7.wipe vs1
              rw [hm1, hwp1] at G8
              exact ⟨B10, acc, dn, rest, G8, Paired.monoR (sB8.trans sB10) pa, e3, ed⟩
            | some y =>
              refine hE y rfl _ _ _ _ G7 _ fun u H11 B11 G8 sB11 k11 => ?_
              have hid := G8.hid (A := (A.and B1).and B6) h0D hmD
              dsimp only at e3
              cases q3 : compL (f xs[i]) (l.drop (j + 1)) with
              | none => rw [q3] at e3; cases e3
              | some r3 =>
                rw [q3] at e3
                cases e3
                have hlen0 : acc.length + 1 ≤ ys.length := by
                  rw [← ed, Paired.len pa, List.length_append, List.length_append, List.length_cons]; omega
                refine ⟨acc, hid, Nat.lt_of_lt_of_le (Nat.lt_of_succ_le hlen0) (line_big hlim), ?_⟩
                have G9 := G8.wipe vs1
                rw [hm1, hwp1] at G9
                have hlen : (acc ++ [u]).length ≤ sizeLine := by rw [List.length_append, List.length_singleton]; exact Nat.le_trans hlen0 (line_big hlim)
                have G10 := G9.hidset (A := (A.and B1).and B6) (o' := .lst (acc ++ [u])) h0D hmD F.sub hlen
                exact ⟨B11, acc ++ [u], dn ++ [y], r3, G10, Paired.app (Paired.monoR ((sB8.trans sB10).trans sB11) pa) (.cons k11 .nil), by first | exact q3 | rfl, by rw [← ed, List.append_assoc]; rfl⟩
        · left
          have hjl : j = l.length := by omega
          subst hjl
          refine ⟨Y1.stop H7 B7 G4.ph.2 G4.bh, ?_⟩
          rw [List.drop_length] at e3
          unfold compL at e3
          cases e3
          have G5 := G4.unwipe (hv1 _)
          have G6 : Frm (((A.and B1).add D (.lst acc)).and B6) σ4 H7 B7 (Γf xs[i]) := G5
          have G7 := G6.unand.wipe vs
          rw [hm, hwp] at G7
          exact ⟨B7, acc, dn, zs, G7, pa, ez, ed⟩
    · left
      have hil : i = xs.length := by omega
      subst hil
      refine ⟨Y.stop H2 B3 F5.ph.2 F5.bh, ?_⟩
      rw [List.drop_length] at e2
      unfold compL2 at e2
      cases e2
      have F6 := F5.unwipe hv
      have F7 : Frm ((A.add D (.lst acc)).and B1) σ H2 B3 _ := F6
      refine q D (.lst acc) H2 B3 F7.unand h0D (sB1.trans F5.ph.2) ⟨acc, rfl, ?_⟩
      rw [List.append_nil] at ed
      rw [← ed]; exact pa
end
end G

set_option maxHeartbeats 4000000
/-! # G: bool of an instance, the frame's own list handed to a def, classes called with keywords -/
namespace G
open PySem PySem.Spec PyProof.Rows L2
/-! ### bool(x) -/
section
variable {prog : Program} {w : World} {A : Around} {E : Value → Shared → Prop} {s : Shared} {K : PySem.W.Frag} {x C f : Addr} {ox : Obj} {odd : Option Obj}
theorem truth_own {Q : Bool → Shared → Prop} (X : K.In s.heap) (I : PySem.W.InstAt s.heap x ox C odd) (hs : PySem.W.findIn K (.ref C) "__bool__" = some (some (.ref f))) (hf : PySem.W.isFn K (.ref f) = true)
    (h : wpAny (model prog w) A (call (.ref f) [.ref x]) (PySem.W.BoolBack Q) E s) : wpAny (model prog w) A (truthy (.ref x)) Q E s := by
  unfold truthy
  refine wpAny_bind (m := callSpecial? (.ref x) (Str.ofString "__bool__")) (PySem.W.special_fn X I hs (beq_iff_eq.mp hf) (wpAny_mono h (fun r s' hr => ?_) fun _ _ y => y))
  cases r <;> first | exact hr.elim | skip
  exact wpAny_pure hr
theorem bool_own {Q : Bool → Shared → Prop} (X : K.In s.heap) (I : PySem.W.InstAt s.heap x ox C odd) (hs : PySem.W.findIn K (.ref C) "__bool__" = some (some (.ref f))) (hf : PySem.W.isFn K (.ref f) = true)
    (h : wpAny (model prog w) A.in1.in1 (call (.ref f) [.ref x]) (PySem.W.BoolBack Q) E s) : wpAny (model prog w) A (call (.type "bool") [.ref x]) (fun v s' => ∃ b, v = .bool b ∧ Q b s') E s := by
  refine callType_codes (T := "bool") (Bi := Builtin.«object.__init__») (Q₁ := fun r s₁ => ∃ b, r = Value.bool b ∧ Q b s₁) PySem.F.called_bool (PySem.F.typeCall_bool_1 _) PySem.F.entry_object_init ?_ ?_
  · refine codeAny_of_tree ?_
    show wpAny _ A.in1.in1 (do checkBuiltinCall "bool.__new__" ⟨[.type "bool", .ref x], []⟩; again (.builtin "bool.__new__" ⟨[.type "bool", .ref x], []⟩)) _ _ s
    refine wpAny_bind (wpAny_of_eq (PySem.F.newCall_bool_1 _) (wpAny_pure ⟨plainId_quiet (by decide +kernel) _, codeAny_builtin PySem.F.entry_bool_new ?_⟩))
    rw [Around.under_plainId (by decide +kernel) _]
    unfold Builtin.«bool.__new__»
    refine wpAny_bind (wpAny_of_eq (a := true) (by first | rfl | kernel_rfl | (unfold isType; rw [isSubtype_type]; kernel_rfl)) ?_)
    refine PySem.W.KFB.if_not rfl ?_
    refine wpAny_bind (wpAny_of_eq (a := true) PySem.F.conv_sub_bool ?_)
    refine PySem.W.KFB.if_not rfl ?_
    refine wpAny_bind (wpAny_of_eq (a := [.ref x]) rfl ?_)
    show wpAny _ _ (do let b ← truthy (.ref x); ret (.bool b)) _ _ s
    refine wpAny_bind (truth_own X I hs hf (wpAny_mono h (fun r s₁ hr => ?_) fun _ _ y => y))
    cases r <;> first | exact hr.elim | skip
    exact wpAny_pure ⟨_, rfl, hr⟩
  · rintro obj s₁ ⟨b, rfl, hq⟩
    exact ⟨rfl, PySem.F.args_object_init_2 _ _, object_init_meets PySem.F.called_bool.init.lookup PySem.F.called_bool.made (by decide) prog w A.in1 _ s₁ ⟨rfl, rfl, b, rfl, hq⟩⟩
end
section
variable {X : Cx} {CX : CXT} {C f : Addr} {fd : FuncData} {ps : List Str} {n : Nat} {sp : Sp} {E : XK} {K : PySem.W.Frag}
theorem run_fnA {A : Around} {pins : List (Addr × Obj)} {σ : L2.St} {H : Hp} {s : Shared} {Q : VK} {us : List Value} {vs : List V} (F : FnOk X.prog X.w X.K X.mg X.base CX n f fd ps sp) (hr : Room n A) (e0 : Env0 X.prog X.w X.K X.mg X.base A X.stack s H) (hb : Binds X.K fd ps []) (hx : Passes CX X E)
    (I : Inv X pins σ H s) (r : Vals vs us) (h : sp vs H Q E) : wpAny (model X.prog X.w) A (call (.ref f) us) (EP X pins σ Q) X.xe s := by
  have hl : us.length = ps.length := by rw [← r.length]; exact F.len _ _ _ _ h
  refine wpAny_call (codeAny_mono (F.run A X.stack s H ⟨us, []⟩ us vs Q E hr e0 (by have := hb s us I.kIn (by rw [List.append_nil]; exact hl); rw [List.append_nil] at this; exact this) r h) fun r s' hq => ?_)
  cases r with
  | error e => exact hx pins σ H s e s' I hq
  | ok fl =>
    cases fl with
    | ret u => exact I.after hq
    | next => exact False.elim hq
    | brk => exact False.elim hq
    | cont => exact False.elim hq
def rBoolO (C : Addr) (sp : Sp) (E : XK) : List V → Hp → VK → Prop := fun xs H Q => ∃ a dx fs, xs = [V.ref a] ∧ H a = some (.ins C dx fs) ∧ sp [.ref a] H (fun z H' => ∃ b, z = .bl b ∧ Q z H') E
theorem call_boolO (hm : Meth X.K C "__bool__" f) (F : FnOk X.prog X.w X.K X.mg X.base CX n f fd ps sp) (hr : Room (n + 2) X.A) (hb : Binds X.K fd ps []) (hx : Passes CX X E) : CallR X (.type "bool") (rBoolO C sp E) := by
  intro pins s σ H xs us Q I r h
  obtain ⟨a, dx, fs, rfl, ha, q⟩ := h
  rw [Vals.ref1 r]
  obtain ⟨mA, J, _⟩ := ins_get I.hok ha
  obtain ⟨od, J, _⟩ := J.look
  have hr2 : Room n X.A.in1.in1 := (show Room (n + 1) X.A.in1 from Room.in1 hr).in1
  refine wpAny_mono (bool_own (Q := fun b s' => EP X pins σ Q (.bool b) s') I.kIn J hm.at_ hm.fn (wpAny_mono (run_fnA (us := [.ref a]) (vs := [.ref a]) F hr2 I.env0.in1.in1 hb hx I (.cons rfl .nil) q) (fun w s' z => ?_) fun _ _ y => y)) (fun w s' z => ?_) fun _ _ y => y
  · obtain ⟨z', H', I', rz, b, rfl, qz⟩ := z
    cases (show w = Value.bool b from rz)
    exact ⟨.bl b, H', I', rfl, qz⟩
  · obtain ⟨b, rfl, z⟩ := z
    exact z
end
section
variable {α β γ : Type} {r ra : Rp α} {rb : Rp β} {te : TE} {ta tk : TA} {Γ Γ1 : List Sl} {K : PySem.W.Frag} {w : Rw α} {C : Addr} {names : List Str} {x : α} {E : XK}
theorem ev_boolO {m : α → Option Bool} {b : Bool} (h : EvX (rIns C names w) te Γ Γ1 x) (e : m x = some b) : EvX rBool (tCB (rBoolO C (SpP (w1 (rIns C names w)) rBool m) E) (tCons te tNil)) Γ Γ1 b := fun A σ H B F Q q => h A σ H B F _ fun v H1 B1 F1 s1 k1 => by
  obtain ⟨p, dx, vs, rfl, hp, l, kw⟩ := ob_ins F1.bh k1
  exact ⟨p, dx, _, rfl, hp, B1, x, b, F1.sz, F1.bh, ⟨_, rfl, k1⟩, e, fun H3 B3 v3 P k3 => ⟨b, k3, q _ H3 B3 (F1.after P) (s1.trans P.b0) k3⟩⟩
/-! ### the frame's own list, handed over -/
def ers (B : Hp) (p : Addr) : Hp := fun q => if q = p then none else B q
theorem ers_ne {B : Hp} {p q : Addr} (h : q ≠ p) : ers B p q = B q := if_neg h
theorem ers_self {B : Hp} {p : Addr} : ers B p p = none := if_pos rfl
/-- what stands for it never holds a list -/
class NoL {α : Type} (r : Rp α) : Prop where
  no : ∀ {B : Hp} {p : Addr} {vs : List V} {v : V} {a : α}, B p = some (.lst vs) → r.rel B v a → r.rel (ers B p) v a
class NoLW {α : Type} (w : Rw α) : Prop where
  no : ∀ {B : Hp} {p : Addr} {vs us : List V} {a : α}, B p = some (.lst vs) → w.rel B us a → w.rel (ers B p) us a
instance : NoL rInt := ⟨fun _ h => h⟩
instance : NoL rBool := ⟨fun _ h => h⟩
instance : NoL rStr := ⟨fun _ h => h⟩
instance : NoL rNon := ⟨fun _ h => h⟩
instance (r : Rp α) [NoL r] : NoL (rOpt r) := ⟨fun {B p vs v a} hp h => by
  cases a with
  | none => exact h
  | some a => exact ⟨NoL.no hp h.1, h.2⟩⟩
instance : NoLW w0 := ⟨fun _ h => h⟩
instance (r : Rp α) [NoL r] : NoLW (w1 r) := ⟨fun hp ⟨v, e, h⟩ => ⟨v, e, NoL.no hp h⟩⟩
instance (r : Rp α) (w : Rw β) [NoL r] [NoLW w] : NoLW (wC r w) := ⟨fun hp ⟨v, t, e, h, k⟩ => ⟨v, t, e, NoL.no hp h, NoLW.no hp k⟩⟩
theorem paired_no {r : Rp α} [NoL r] {B : Hp} {p : Addr} {vs : List V} (hp : B p = some (.lst vs)) : ∀ {us : List V} {xs : List α}, Paired (r.rel B) us xs → Paired (r.rel (ers B p)) us xs
  | _, _, .nil => .nil
  | _, _, .cons h t => .cons (NoL.no hp h) (paired_no hp t)
instance (r : Rp α) [NoL r] : NoL (rOb (cTpl r)) := ⟨fun {B p vs v a} hp ⟨q, o, e, hq, us, eo, k⟩ => ⟨q, o, e, by
  rw [ers_ne fun z => by rw [z, hp] at hq; cases hq; cases eo]; exact hq, us, eo, paired_no hp k⟩⟩
instance (w : Rw α) [NoLW w] : NoL (rOb (cTup w)) := ⟨fun {B p vs v a} hp ⟨q, o, e, hq, us, eo, k⟩ => ⟨q, o, e, by
  rw [ers_ne fun z => by rw [z, hp] at hq; cases hq; cases eo]; exact hq, us, eo, NoLW.no hp k⟩⟩
instance (C : Addr) (names : List Str) (w : Rw α) [NoLW w] : NoL (rOb (cIns C names w)) := ⟨fun {B p vs v a} hp ⟨q, o, e, hq, dx, us, eo, l, k⟩ => ⟨q, o, e, by
  rw [ers_ne fun z => by rw [z, hp] at hq; cases hq; cases eo]; exact hq, dx, us, eo, l, NoLW.no hp k⟩⟩
instance (C : Addr) (names : List Str) (w : Rw α) [NoLW w] : NoL (rIns C names w) := inferInstanceAs (NoL (rOb (cIns C names w)))
instance (r : Rp α) [NoL r] : NoL (rTpl r) := inferInstanceAs (NoL (rOb (cTpl r)))
instance (w : Rw α) [NoLW w] : NoL (rTup w) := inferInstanceAs (NoL (rOb (cTup w)))
theorem paired_dic {κ : Type} [DecidableEq κ] {rk : Rp κ} {ky : Ky rk} {rv : Rp β} [NoL rv] {B : Hp} {p : Addr} {vs : List V} (hp : B p = some (.lst vs)) : ∀ {us : List (L2.Key × V)} {xs : List (κ × β)}, Paired (DRel ky rv B) us xs → Paired (DRel ky rv (ers B p)) us xs
  | _, _, .nil => .nil
  | _, _, .cons h t => .cons ⟨h.1, NoL.no hp h.2⟩ (paired_dic hp t)
instance {κ : Type} [DecidableEq κ] {rk : Rp κ} (ky : Ky rk) (rv : Rp β) [NoL rv] : NoL (rOb (cDic ky rv)) := ⟨fun {B p vs v a} hp ⟨q, o, e, hq, us, eo, k⟩ => ⟨q, o, e, by
  rw [ers_ne fun z => by rw [z, hp] at hq; cases hq; cases eo]; exact hq, us, eo, paired_dic hp k⟩⟩
/-- the slots as the callee's frame may know them: one own list at a value, no other own object -/
def frz (Γ : List Sl) (i : Nat) (s : Sl) : List Sl := (Γ.map fun x => match x with
  | .imm r a => .imm r a
  | _ => .no).set i s
theorem frz_get {Γ : List Sl} {i j : Nat} {s t : Sl} (h : (frz Γ i s)[j]? = some t) : (i = j ∧ t = s) ∨ (i ≠ j ∧ ∃ u, Γ[j]? = some u ∧ (t = u ∨ t = .no) ∧ celAt t = none) := by
  unfold frz at h
  rcases getset h with ⟨e, e2, _⟩ | ⟨ne, e⟩
  · exact .inl ⟨e, e2⟩
  · right
    refine ⟨ne, ?_⟩
    rw [List.getElem?_map] at e
    cases q : Γ[j]? with
    | none => rw [q] at e; cases e
    | some u =>
      rw [q] at e
      refine ⟨u, rfl, ?_⟩
      cases u with
      | no => cases e; exact ⟨.inr rfl, rfl⟩
      | imm r a => cases e; exact ⟨.inl rfl, rfl⟩
      | cel p c a => cases e; exact ⟨.inr rfl, rfl⟩
theorem frz_in {A : Amb} {σ : L2.St} {H B : Hp} {i : Nat} {p : Addr} {xs : List α} (F : Frm A σ H B Γ) (hi : Γ[i]? = some (.cel p (cLst r) xs)) : ∃ vs, B p = none ∧ H p = some (.lst vs) ∧
    Frm ⟨upd B p (.lst vs), H, fun _ => False, fun _ => True, fun _ _ _ _ => trivial⟩ σ H (upd B p (.lst vs)) (frz Γ i (.imm (rLst r) xs)) := by
  obtain ⟨ev, hBp, hm, o, ho, vs, rfl, kv⟩ := F.sl i _ hi
  have hB : Same B (upd B p (.lst vs)) := fun b u e => by rw [upd_ne (ne_of_none e hBp)]; exact e
  refine ⟨vs, hBp, ho, ?_⟩
  have hs : Same (upd B p (.lst vs)) H := fun b u e => by
    by_cases hb : b = p
    · subst hb; rw [upd_same] at e; cases e; exact ho
    · rw [upd_ne hb] at e; exact F.bh b u e
  refine ⟨⟨hs, Same.refl _, fun _ _ _ e => e, fun _ _ e => e, fun _ e => e, hs, fun _ z => z.elim, trivial, F.sz⟩, by unfold frz; rw [List.length_set, List.length_map]; exact F.len, fun j s e => ?_, fun j k q ej ek => ?_⟩
  · rcases frz_get e with ⟨rfl, rfl⟩ | ⟨ne, u, hu, ht, hc⟩
    · exact ⟨_, ev, p, _, rfl, upd_same, vs, rfl, Paired.monoR hB kv⟩
    · rcases ht with rfl | rfl
      · have hs := F.sl j _ hu
        cases s with
        | no => trivial
        | imm r a => obtain ⟨v, e1, e2⟩ := hs; exact ⟨v, e1, r.mono hB e2⟩
        | cel q c a => cases hc
      · trivial
  · exfalso
    cases e : (frz Γ i (.imm (rLst r) xs))[j]? with
    | none => rw [e] at ej; cases ej
    | some s =>
      rw [e] at ej
      rcases frz_get e with ⟨_, rfl⟩ | ⟨_, u, _, _, hc⟩
      · cases ej
      · have : celAt s = some q := ej
        rw [hc] at this; cases this
theorem frz_out {A : Amb} {σ : L2.St} {H B H2 B2 : Hp} {p : Addr} {vs : List V} {Γ' : List Sl} {φ : Hp → Prop} {up : ∀ B B', Same B B' → φ B → φ B'} (F : Frm A σ H B Γ) (hBp : B p = none) (F2 : Frm ⟨upd B p (.lst vs), H, fun _ => False, φ, up⟩ σ H2 B2 Γ') (s2 : Same (upd B p (.lst vs)) B2) :
    B2 p = some (.lst vs) ∧ Same B (ers B2 p) ∧ Frm A σ H2 (ers B2 p) Γ := by
  have hB : Same B (upd B p (.lst vs)) := fun b u e => by rw [upd_ne (ne_of_none e hBp)]; exact e
  have hp2 : B2 p = some (.lst vs) := s2 _ _ upd_same
  have kp : ∀ b u, H b = some u → H2 b = some u := fun b u e => F2.keep b u (fun z => z) e
  have s3 : Same B (ers B2 p) := fun b u e => by rw [ers_ne (ne_of_none e hBp)]; exact s2 _ _ (hB _ _ e)
  have out : ∀ b, B b = none → H b ≠ none → ers B2 p b = none := fun b e n => by
    by_cases hb : b = p
    · rw [hb]; exact ers_self
    · rw [ers_ne hb]; exact F2.out b n (by show upd B p (.lst vs) b = none; rw [upd_ne hb]; exact e)
  refine ⟨hp2, s3, ⟨⟨fun b u e => ?_, fun b u e => s3 _ _ (F.b0 b u e), fun b u m e => kp b u (F.keep b u m e), fun b n z => out b (F.out b n z) (F.alive b n), fun b n => ?_, F.sub, F.mh, A.up _ _ s3 F.ph, F2.sz⟩, F.len, fun j s e => ?_, F.ds⟩⟩
  · by_cases hb : b = p
    · rw [hb, ers_self] at e; cases e
    · rw [ers_ne hb] at e; exact F2.bh b u e
  · cases e : H b with
    | none => exact absurd e (F.alive b n)
    | some u => rw [kp b u e]; exact fun z => nomatch z
  · have hs := F.sl j s e
    cases s with
    | no => trivial
    | imm r a => obtain ⟨v, e1, e2⟩ := hs; exact ⟨v, e1, r.mono s3 e2⟩
    | cel q c a =>
      obtain ⟨e1, n, m, u, hu, k⟩ := hs
      exact ⟨e1, out q n (by rw [hu]; exact fun z => nomatch z), m, u, kp q u hu, c.mono s3 k⟩
theorem ev_frz {i : Nat} {p : Addr} {xs : List α} {b : β} [NoL rb] (hi : Γ[i]? = some (.cel p (cLst r) xs)) (h : EvX rb te (frz Γ i (.imm (rLst r) xs)) (frz Γ i (.imm (rLst r) xs)) b) : EvX rb te Γ Γ b := fun A σ H B F Q q => by
  obtain ⟨vs, hBp, _, F'⟩ := frz_in F hi
  refine h _ σ H _ F' _ fun v H2 B2 F2 s2 k2 => ?_
  obtain ⟨h1, h2, h3⟩ := frz_out F hBp F2 s2
  exact q v H2 _ h3 h2 (NoL.no h1 k2)
theorem et_frz {tt : TT} {i : Nat} {p : Addr} {xs : List α} {b : Bool} (hi : Γ[i]? = some (.cel p (cLst r) xs)) (h : EvT tt (frz Γ i (.imm (rLst r) xs)) (frz Γ i (.imm (rLst r) xs)) b) : EvT tt Γ Γ b := fun A σ H B F Q q => by
  obtain ⟨vs, hBp, _, F'⟩ := frz_in F hi
  refine h _ σ H _ F' _ fun H2 B2 F2 s2 => ?_
  obtain ⟨h1, h2, h3⟩ := frz_out F hBp F2 s2
  exact q H2 _ h3 h2
theorem ev_bool1 {b : Bool} (h : EvX rBool te Γ Γ1 b) : EvX rBool (tCB (fun xs H Q => (∃ i, xs = [.int i] ∧ Q (.bl (i != 0)) H) ∨ ∃ k, xs = [.bl k] ∧ Q (.bl k) H) (tCons te tNil)) Γ Γ1 b := ev_B1 h fun H B u _ s k Q q => .inr ⟨b, by rw [show u = _ from k], q _ rfl⟩
/-- isinstance of a number that may be missing -/
theorem ev_isiO {t v : Value} {c : V} {k : Bool} {o : Option α} (h : EvX (rOpt r) te Γ Γ1 o) (ty : TyR K r t) (hc : ClsV c v) (kit : PySem.W.kitOne K t v = some k) (kn : PySem.W.kitOne K (.type "NoneType") v = some false) : EvX rBool (tCB (rIsi K) (tCons te (tCons (tC c) tNil))) Γ Γ1 (o.isSome && k) := fun A σ H B F Q q =>
  h A σ H B F _ fun x H1 B1 F1 s1 k1 => by
    cases o with
    | none => exact ⟨x, c, _, v, false, rfl, hc, ty_non _ _ () (show x = V.non from k1), kn, q _ _ _ F1 s1 rfl⟩
    | some a => exact ⟨x, c, t, v, k, rfl, hc, ty _ _ _ (r.mono F1.bh k1.1), kit, q _ _ _ F1 s1 rfl⟩
/-! ### classes called with keywords alone -/
def gP (idx : List Nat) {α : Type} (us _ds ws : List α) : List α := us ++ idx.filterMap fun i => ws[i]?
theorem vals_get {vs : List V} {us : List Value} (h : Vals vs us) (i : Nat) : (∃ v u, vs[i]? = some v ∧ us[i]? = some u ∧ RelV v u) ∨ (vs[i]? = none ∧ us[i]? = none) := by
  induction h generalizing i with
  | nil => right; simp
  | cons hd tl ih =>
    cases i with
    | zero => left; exact ⟨_, _, rfl, rfl, hd⟩
    | succ i => simpa using ih i
theorem gP_rel (idx : List Nat) {vs ds zs : List V} {us its ws : List Value} (h : Vals vs us) (_ : Vals ds its) (k : Vals zs ws) : Vals (gP idx vs ds zs) (gP idx us its ws) := by
  unfold gP
  refine Paired.app h ?_
  induction idx with
  | nil => exact .nil
  | cons i l ih =>
    rcases vals_get k i with ⟨v, u, e1, e2, q⟩ | ⟨e1, e2⟩
    · rw [List.filterMap_cons_some e1, List.filterMap_cons_some e2]; exact .cons q ih
    · rw [List.filterMap_cons_none e1, List.filterMap_cons_none e2]; exact ih
def KApp (n : Nat) (idx : List Nat) {γ : Type} (wk : Rw α) (w : Rw γ) (f : α → γ) : Prop := ∀ B zs a, wk.rel B zs a → zs.length = n ∧ w.rel B (idx.filterMap fun i => zs[i]?) (f a)
theorem ev_makeK {n : Nat} {idx : List Nat} {wk : Rw α} {w : Rw γ} {wb : Rw β} {dvs : List V} {f : α → γ} {m : γ → Option β} {a : α} {b : β} (h : EvW wk tk Γ Γ1 a) (d : KApp n idx wk w f) (e : m (f a) = some b) : EvX (rIns C names wb) (tMakeK C 0 n (SpJ C w (cIns C names wb) m) (fun vs zs => gP idx vs dvs zs) E tNil tk) Γ Γ1 b := fun A σ H B F Q q => by
  refine h A σ H B F _ fun vs H1 B1 F1 s1 k1 => ?_
  obtain ⟨d1, d2⟩ := d B1 vs a k1
  refine ⟨rfl, d1, fun y dy hy hd ne => ?_⟩
  obtain ⟨p1, p2, p3, p4⟩ := made_pre (C := C) F1 hy hd ne
  refine ⟨y, dy, idx.filterMap fun i => vs[i]?, upd B1 dy (.own y), f a, b, rfl, upd_same, p3, p1, p2, w.mono p4 d2, e, fun H2 B2 P ⟨o, ho, k⟩ => ⟨rfl, ?_⟩⟩
  have F2 := made_frame (A := A) F1 hy hd ne P ho
  have F3 := F2.adopt (F1.H0none hy) F1.sub F1.mh
  have hB2 : B2 y = none := P.out y (by show upd (upd H1 dy (.own y)) y (.ins C dy []) y ≠ none; rw [upd_same]; simp) p3
  have s3 : Same B2 (upd B2 y o) := fun q u e => by rw [upd_ne (ne_of_none e hB2)]; exact e
  exact q _ _ _ F3 (s1.trans (p4.trans (P.b0.trans s3))) ⟨y, o, rfl, upd_same, (cIns C names wb).mono s3 k⟩
end
end G

set_option maxHeartbeats 4000000
/-! # G: texts of numbers and of instances, f-strings, stars in displays -/
namespace G
open PySem PySem.Spec PyProof.Rows L2
section
variable {X : Cx} {CX : CXT} {C f : Addr} {fd : FuncData} {ps : List Str} {n : Nat} {sp : Sp} {E : XK} {K : PySem.W.Frag}
def rStrO (C : Addr) (sp : Sp) (E : XK) : List V → Hp → VK → Prop := fun xs H Q => ∃ a dx fs, xs = [V.ref a] ∧ H a = some (.ins C dx fs) ∧ sp [.ref a] H (fun z H' => ∃ b, z = .str b ∧ Q z H') E
theorem call_strO (hm : Meth X.K C "__str__" f) (F : FnOk X.prog X.w X.K X.mg X.base CX n f fd ps sp) (hr : Room (n + 2) X.A) (hb : Binds X.K fd ps []) (hx : Passes CX X E) : CallR X (.type "str") (rStrO C sp E) := by
  intro pins s σ H xs us Q I r h
  obtain ⟨a, dx, fs, rfl, ha, q⟩ := h
  rw [Vals.ref1 r]
  obtain ⟨mA, J, _⟩ := ins_get I.hok ha
  obtain ⟨od, J, _⟩ := J.look
  have hr2 : Room n X.A.in1.in1 := (show Room (n + 1) X.A.in1 from Room.in1 hr).in1
  refine PySem.W.kso_call hr2.units0 I.kIn J hm.at_ hm.fn (wpAny_mono (run_fnA (us := [.ref a]) (vs := [.ref a]) F hr2 I.env0.in1.in1 hb hx I (.cons rfl .nil) q) (fun w s' z => ?_) fun _ _ y => y)
  obtain ⟨z', H', I', rz, b, rfl, qz⟩ := z
  obtain ⟨t, rfl⟩ := (show ∃ t, w = Value.str b t from rz)
  exact ⟨.str b, H', I', ⟨t, rfl⟩, qz⟩
end
section
variable {α β γ : Type} {r ra : Rp α} {rb : Rp β} {te : TE} {ta tr : TA} {Γ Γ1 Γ2 : List Sl} {K : PySem.W.Frag} {w : Rw α} {C : Addr} {names : List Str} {x : α} {E : XK}
theorem ev_strO {m : α → Option Str} {b : Str} (h : EvX (rIns C names w) te Γ Γ1 x) (e : m x = some b) : EvX rStr (tCB (rStrO C (SpP (w1 (rIns C names w)) rStr m) E) (tCons te tNil)) Γ Γ1 b := fun A σ H B F Q q => h A σ H B F _ fun v H1 B1 F1 s1 k1 => by
  obtain ⟨p, dx, vs, rfl, hp, l, kw⟩ := ob_ins F1.bh k1
  exact ⟨p, dx, _, rfl, hp, B1, x, b, F1.sz, F1.bh, ⟨_, rfl, k1⟩, e, fun H3 B3 v3 P k3 => ⟨b, k3, q _ H3 B3 (F1.after P) (s1.trans P.b0) k3⟩⟩
def pyStrI (i : Int) : Option Str := if i.natAbs.log2 < 1920 then some (toString i : String) else none
theorem ev_strI {i : Int} {z : Str} (h : EvX rInt te Γ Γ1 i) (e : pyStrI i = some z) : EvX rStr (tCB (fun xs H Q => ∃ i, xs = [.int i] ∧ i.natAbs.log2 < 1920 ∧ Q (.str (toString i)) H) (tCons te tNil)) Γ Γ1 z := by
  unfold pyStrI at e; split at e <;> cases e
  exact ev_B1 h fun H B u _ s k Q q => ⟨i, by rw [show u = _ from k], by assumption, q _ rfl⟩
def pyFmt (z : Str) : Option Str := if z.length ≤ 1000000 then some z else none
theorem ev_fmt {z y : Str} (h : EvX rStr te Γ Γ1 z) (e : pyFmt z = some y) : EvX rStr (tFmt te) Γ Γ1 y := by
  unfold pyFmt at e; split at e <;> cases e
  exact fun A σ H B F Q q => h A σ H B F _ fun v H1 B1 F1 s1 k1 => .inl ⟨z, k1, line_big (by assumption), q _ H1 B1 F1 s1 rfl⟩
theorem eh_S {xs ys : List α} (h : EvX (rLst r) te Γ Γ1 xs) (hr : EvH r tr Γ1 Γ2 ys) : EvH r (StX.tStar K te tr) Γ Γ2 (xs ++ ys) := fun A σ H B F Q q =>
  h A σ H B F _ fun v H1 B1 F1 s1 k1 => by
    obtain ⟨p, vs, rfl, hp, kv⟩ := ob_lst F1.bh k1
    exact ⟨p, vs, rfl, .inr (SqL.of hp), hr A σ H1 B1 F1 _ fun us H2 B2 F2 s2 k2 => q _ H2 B2 F2 (s1.trans s2) (Paired.app (Paired.monoR s2 kv) k2)⟩
def lim4 (xs : List α) : Option (List α) := if xs.length ≤ 1000 then some xs else none
theorem ec_lstS {xs ys : List α} (h : EvH r ta Γ Γ1 xs) (e : lim4 xs = some ys) : EvC (cLst r) (tLst ta) Γ Γ1 ys := by
  unfold lim4 at e; split at e <;> cases e
  exact ec_lst h (by assumption)
end
end G

set_option maxHeartbeats 4000000
/-! # G: lists turned round, parts of the script, sorted numbers, max, min, own lists returned -/
namespace G
open PySem PySem.Spec PyProof.Rows L2
section
variable {α β γ : Type} {r ra : Rp α} {rb : Rp β} {c : Cl α} {cc : Cl γ} {te : TE} {ta : TA} {Γ Γ1 Γ2 Γ3 : List Sl} {K : PySem.W.Frag} {xs : List α} {i j : Nat} {p p0 : Addr} {A : Amb} {D : Ends} {u : TS} {a : α} {b : α} {st : γ}
theorem paired_rev {R : V → α → Prop} : ∀ {vs : List V} {xs : List α}, Paired R vs xs → Paired R vs.reverse xs.reverse
  | _, _, .nil => .nil
  | _, _, .cons h t => by rw [List.reverse_cons, List.reverse_cons]; exact Paired.app (paired_rev t) (.cons h .nil)
theorem ec_revL (h : EvX (rLst r) te Γ Γ1 xs) : EvC (cLst r) (tRevL K te) Γ Γ1 xs.reverse := fun A σ H B F Q q => h A σ H B F _ fun v H1 B1 F1 s1 k1 => by
  obtain ⟨p, vs, rfl, hp, kv⟩ := ob_lst F1.bh k1
  exact ⟨p, vs, rfl, SqL.of hp, fun l hl => ec_fresh (c := cLst r) (o := .lst vs.reverse) F1 hl (by show vs.reverse.length ≤ _; rw [List.length_reverse]; exact F1.sz _ _ hp) (fun p o H2 B2 F2 n2 s4 k2 => q p o H2 B2 F2 n2 (s1.trans s4) k2) ⟨_, rfl, paired_rev kv⟩⟩
def pyCutC (ns : List Int) (lo hi : Option Int) : Option (List Int) := if ns.length ≤ 100000 then some (cut ns lo hi) else none
theorem ec_slC {lo hi : Option Int} {tl th : TO} {ns l : List Int} (h : EvX (rScr K) te Γ Γ1 ns) (hl : EvO tl Γ1 Γ2 lo) (hh : EvO th Γ2 Γ3 hi) (e : pyCutC ns lo hi = some l) : EvC (cLst rInt) (L2.tSl (rSlL K) te tl th) Γ Γ3 l := by
  unfold pyCutC at e; split at e <;> cases e
  rename_i hn
  exact fun A σ H B F Q q => h A σ H B F _ fun v H1 B1 F1 s1 k1 => hl A σ H1 B1 F1 _ fun H2 B2 F2 s2 => hh A σ H2 B2 F2 _ fun H3 B3 F3 s3 => by
    obtain ⟨a, rfl, ha⟩ := k1
    have hq := Same.seq F3.bh (Same.seq (s2.trans s3) ha)
    refine ⟨a, _, rfl, hq, fun l hl => ec_fresh (c := cLst rInt) (o := .lst (cutV (ns.map V.int) lo hi)) F3 hl ?_ (fun p o H2 B2 F2 n2 s4 k2 => q p o H2 B2 F2 n2 (((s1.trans s2).trans s3).trans s4) k2) ⟨_, rfl, paired_cut (paired_ints ns B3)⟩⟩
    refine Nat.le_trans (cut_len lo hi _) ?_
    rw [List.length_map]
    exact Nat.le_trans hn (by decide)
def isortI (xs : List Int) : List Int := xs.mergeSort (fun a b => decide (a ≤ b))
theorem isortI_perm (xs : List Int) : (isortI xs).Perm xs := List.mergeSort_perm _ _
theorem isortI_asc (xs : List Int) : (isortI xs).Pairwise (· ≤ ·) := by
  have h := List.pairwise_mergeSort (le := fun a b : Int => decide (a ≤ b)) (fun a b c h1 h2 => by simp at *; omega) (fun a b => by simp; omega) xs
  exact h.imp fun q => by simpa using q
theorem isort_eq {xs ys : List Int} (h1 : ys.Perm xs) (h2 : ys.Pairwise (· ≤ ·)) : ys = isortI xs :=
  List.Perm.eq_of_pairwise (fun a b _ _ h1 h2 => by omega) h2 (isortI_asc xs) (h1.trans (isortI_perm xs).symm)
theorem ec_sortI {xs : List Int} (h : EvX (rLst rInt) te Γ Γ1 xs) : EvC (cLst rInt) (tCB (rSortedI K) (tCons te tNil)) Γ Γ1 (isortI xs) := ec_B1 h fun H B u z s k Q q => by
  obtain ⟨p, vs, rfl, hp, kv⟩ := ob_lst s k
  have ev : vs = xs.map V.int := Paired.mapEq (fun a b h => h) kv
  refine ⟨p, xs, rfl, by rw [← ev]; exact SqL.of hp, fun ns l h1 h2 hl => ?_⟩
  rw [isort_eq h1 h2]
  refine q l _ hl ?_ ⟨_, rfl, paired_ints _ B⟩
  show ((isortI xs).map V.int).length ≤ _
  rw [List.length_map, (isortI_perm xs).length_eq, ← Paired.len kv]
  exact z p _ hp
theorem foldl_max_mem : ∀ (t : List Int) (n : Int), t.foldl max n ∈ n :: t ∧ ∀ y ∈ n :: t, y ≤ t.foldl max n
  | [], n => ⟨by simp, fun y hy => by rw [List.mem_singleton.mp hy]; exact Int.le_refl _⟩
  | x :: xs, n => by
    obtain ⟨h1, h2⟩ := foldl_max_mem xs (max n x)
    rw [List.foldl_cons]
    have hm := h2 (max n x) List.mem_cons_self
    refine ⟨?_, fun y hy => ?_⟩
    · rcases List.mem_cons.mp h1 with h | h
      · rw [h]
        by_cases c : n ≤ x
        · rw [show max n x = x by omega]; simp
        · rw [show max n x = n by omega]; simp
      · exact List.mem_cons_of_mem _ (List.mem_cons_of_mem _ h)
    · rcases List.mem_cons.mp hy with rfl | hy
      · omega
      · rcases List.mem_cons.mp hy with rfl | hy
        · omega
        · exact h2 y (List.mem_cons_of_mem _ hy)
theorem foldl_min_mem : ∀ (t : List Int) (n : Int), t.foldl min n ∈ n :: t ∧ ∀ y ∈ n :: t, t.foldl min n ≤ y
  | [], n => ⟨by simp, fun y hy => by rw [List.mem_singleton.mp hy]; exact Int.le_refl _⟩
  | x :: xs, n => by
    obtain ⟨h1, h2⟩ := foldl_min_mem xs (min n x)
    rw [List.foldl_cons]
    have hm := h2 (min n x) List.mem_cons_self
    refine ⟨?_, fun y hy => ?_⟩
    · rcases List.mem_cons.mp h1 with h | h
      · rw [h]
        by_cases c : n ≤ x
        · rw [show min n x = n by omega]; simp
        · rw [show min n x = x by omega]; simp
      · exact List.mem_cons_of_mem _ (List.mem_cons_of_mem _ h)
    · rcases List.mem_cons.mp hy with rfl | hy
      · omega
      · rcases List.mem_cons.mp hy with rfl | hy
        · omega
        · exact h2 y (List.mem_cons_of_mem _ hy)
theorem ev_max1 {xs : List Int} {m : Int} (h : EvX (rLst rInt) te Γ Γ1 xs) (e : pyMaxN xs = some m) : EvX rInt (tCB (rMax K) (tCons te tNil)) Γ Γ1 m := ev_B1 h fun H B u _ s k Q q => by
  obtain ⟨p, vs, rfl, hp, kv⟩ := ob_lst s k
  have ev : vs = xs.map V.int := Paired.mapEq (fun a b h => h) kv
  cases xs with
  | nil => cases e
  | cons n t =>
    cases e
    obtain ⟨h1, h2⟩ := foldl_max_mem t n
    refine ⟨p, n :: t, rfl, by rw [← ev]; exact SqL.of hp, by simp, fun m hm hy => ?_⟩
    have := hy _ h1
    have := h2 _ hm
    exact q _ (by rw [show m = t.foldl max n by omega]; rfl)
theorem ev_min1 {xs : List Int} {m : Int} (h : EvX (rLst rInt) te Γ Γ1 xs) (e : pyMinN xs = some m) : EvX rInt (tCB (rMin K) (tCons te tNil)) Γ Γ1 m := ev_B1 h fun H B u _ s k Q q => by
  obtain ⟨p, vs, rfl, hp, kv⟩ := ob_lst s k
  have ev : vs = xs.map V.int := Paired.mapEq (fun a b h => h) kv
  cases xs with
  | nil => cases e
  | cons n t =>
    cases e
    obtain ⟨h1, h2⟩ := foldl_min_mem t n
    refine ⟨p, n :: t, rfl, by rw [← ev]; exact SqL.of hp, by simp, fun m hm hy => ?_⟩
    have := hy _ h1
    have := h2 _ hm
    exact q _ (by rw [show m = t.foldl min n by omega]; rfl)
theorem pe_revLK {X : Cx} {e : Expr} {te : TE} {k : Nat} {p1 p2 p3 pos : Pos} (hK : X.K = K) (he : PE X e te) : PE X (.Subscript e (.Slice none none (some (.UnaryOp .USub (.Constant (.int 1) k p1) p2)) p3) pos) (tRevL K te) := by subst hK; exact pe_revL he
theorem sortIK {X : Cx} (hK : X.K = K) : CallR X (.builtin "sorted") (rSortedI K) := by subst hK; exact cr_sortedI
theorem maxK {X : Cx} (hK : X.K = K) (hc : X.calm = true) : CallR X (.builtin "max") (rMax K) := by subst hK; exact cr_max hc
theorem minK {X : Cx} (hK : X.K = K) (hc : X.calm = true) : CallR X (.builtin "min") (rMin K) := by subst hK; exact cr_min hc
/-! ### the frame's own object is returned -/
theorem post_own {σ : L2.St} {H B : Hp} (F : Frm A σ H B Γ) (hi : Γ[i]? = some (.cel p c a)) (hm : ¬ A.m p) : ∃ o, H p = some o ∧ σ[i]? = some (some (V.ref p)) ∧ Same B (upd B p o) ∧ Post A H (upd B p o) ∧ (rOb c).rel (upd B p o) (.ref p) a := by
  obtain ⟨e1, n, m, o, ho, k⟩ := F.sl i _ hi
  have h0 : A.H0 p = none := m.resolve_right hm
  have s : Same B (upd B p o) := fun b u e => by rw [upd_ne (ne_of_none e n)]; exact e
  refine ⟨o, ho, e1, s, ⟨fun b u e => ?_, fun b u e => s _ _ (F.b0 b u e), F.keep, fun b hb z => ?_, F.alive, F.sub, F.mh, A.up _ _ s F.ph, F.sz⟩, p, o, rfl, upd_same, c.mono s k⟩
  · by_cases hb : b = p
    · subst hb; rw [upd_same] at e; cases e; exact ho
    · rw [upd_ne hb] at e; exact F.bh b u e
  · have hbp : b ≠ p := fun q => hb (by rw [q]; exact h0)
    rw [upd_ne hbp]; exact F.out b hb z
theorem sq_retCel (hi : Γ[i]? = some (.cel p c a)) (hm : ∀ q, ¬ A.m q) (e : some a = some b) (k : Rt A (psi (rOb c)) b D.rt) : Nx A (tSeq (tRet (tVar i)) u D) Γ := fun σ H B F => by
  cases e
  obtain ⟨o, ho, e1, s, P, q⟩ := post_own F hi (hm p)
  exact ⟨_, e1, k H _ _ P q⟩
theorem sq_retCelS {st : γ} {b : α × γ} (hi : Γ[i]? = some (.cel p c a)) (hj : Γ[j]? = some (.cel p0 cc st)) (ne : i ≠ j) (hm : ∀ q, A.m q → q = p0) (e : some (a, st) = some b) (k : Rt A (psiS p0 cc (rOb c)) b D.rt) : Nx A (tSeq (tRet (tVar i)) u D) Γ := fun σ H B F => by
  cases e
  have hp : ¬ A.m p := fun z => ne (F.ds i j p (by rw [hi]; rfl) (by rw [hj, ← hm p z]; rfl))
  obtain ⟨o, ho, e1, s, P, q⟩ := post_own F hi hp
  obtain ⟨_, _, _, o2, h2, k2⟩ := F.sl j _ hj
  exact ⟨_, e1, k H _ _ P ⟨q, o2, h2, cc.mono s k2⟩⟩
end
end G

set_option maxHeartbeats 4000000
/-! # G: sorted(set(xs)), xs of any number, of which fewer than 64 are different -/
namespace G
open PySem PySem.Spec PyProof.Rows L2
theorem nodup_len : ∀ {a b : List Int}, a.Nodup → (∀ z ∈ a, z ∈ b) → a.length ≤ b.length
  | [], _, _, _ => Nat.zero_le _
  | x :: xs, b, hn, h => by
    have hn' := List.nodup_cons.mp hn
    have hx := h x List.mem_cons_self
    have ih := nodup_len (a := xs) (b := b.erase x) hn'.2 fun z hz => (List.mem_erase_of_ne fun e => hn'.1 (by rw [← e]; exact hz)).mpr (h z (List.mem_cons_of_mem _ hz))
    rw [List.length_erase_of_mem hx] at ih
    have := List.length_pos_of_mem hx
    rw [List.length_cons]; omega
theorem asc_nodup {a : List Int} (h : a.Pairwise (· < ·)) : a.Nodup := h.imp fun h e => by omega
theorem sset_count {xs ks : List Int} (hn : ks.Nodup) (h : ∀ k, k ∈ ks ↔ k ∈ xs) : ks.length = (sset xs).length :=
  Nat.le_antisymm (nodup_len hn fun z hz => sset_mem.mpr ((h z).mp hz)) (nodup_len (asc_nodup (sset_asc xs)) fun z hz => (h z).mpr (sset_mem.mp hz))
def pySS2 (xs : List Int) : Option (List Int) := if xs.length < 1000 ∧ (sset xs).length < 64 then some (sset xs) else none
def rSetI2 (K : PySem.W.Frag) (w : World) : List V → Hp → VK → Prop := fun vs H Q => ∃ (a : Addr) (ns : List Int), vs = [V.ref a] ∧ SqL K H a (ns.map V.int) ∧ ns.length < 1000 ∧ ∀ (p : Addr), H p = none → Q (.ref p) (upd H p (SetO w p (fun x => decide (x ∈ ns)) (sset ns).length))
theorem cr_setI2 {X : Cx} {K : PySem.W.Frag} (hK : X.K = K) (hc : X.calm = true) : CallR X (.type "set") (rSetI2 K X.w) := by
  subst hK
  intro pins s σ H vs us Q I r h
  obtain ⟨a, ns, rfl, hs, hl, q⟩ := h
  obtain ⟨its, rv, pl, hz⟩ := I.list hs
  rw [Vals.ref1 r]
  have hsz : its.toArray.size = ns.length := by rw [List.size_toArray, ← rv.length, List.length_map]
  refine seti_of_list (I.ok.hd hc) pl.isList hsz (by omega) (fun i v e => by
    obtain ⟨x, t, h1, h2⟩ := val_int rv i v (by simpa using e)
    exact ⟨x, t, h1, h2⟩) fun g tk c R le kp => ?_
  have hc : c = (sset ns).length := by
    obtain ⟨o, es, ep, t, _, _, _, _, nd, mem, _, _, sz, _⟩ := R
    rw [← sz, ← sset_count (xs := ns) nd fun k => by rw [← mem k, decide_eq_true_eq], List.length_map, Array.length_toList]
  subst hc
  have J : Inv X pins σ (upd H s.heap.objs.size (SetO X.w s.heap.objs.size (fun x => decide (x ∈ ns)) (sset ns).length)) { s with heap := g, toks := tk } :=
    I.laid (t' := tk) kp (Nat.le_refl _) (setO_new R)
  exact ⟨.ref s.heap.objs.size, _, J, rfl, q _ (I.hok.fresh (Nat.le_refl _))⟩
section
variable {te : TE} {Γ Γ1 : List Sl} {K : PySem.W.Frag} {xs ys : List Int} {wd : World}
theorem ec_sortSet2 (h : EvX (rLst rInt) te Γ Γ1 xs) (e : pySS2 xs = some ys) : EvC (cLst rInt) (tCB (rSortedSet wd) (tCons (tCB (rSetI2 K wd) (tCons te tNil)) tNil)) Γ Γ1 ys := fun A σ H B F Q q => by
  unfold pySS2 at e
  split at e
  · rename_i hl
    cases e
    refine h A σ H B F _ fun v H1 B1 F1 s1 k1 => ?_
    obtain ⟨p, vs, rfl, hp, k⟩ := ob_lst F1.bh k1
    refine ⟨p, xs, rfl, ?_, hl.1, fun p0 h0 => ?_⟩
    · rw [show xs.map V.int = vs from (fl_int.vals k).symm]; exact SqL.of hp
    · have F2 := (F1.fresh h0 (o := SetO wd p0 (fun x => decide (x ∈ xs)) (sset xs).length) trivial).drop (F1.H0none h0) F1.sub F1.mh
      refine ⟨p0, _, _, rfl, upd_same, hl.2, fun ns p1 asc mem len h1 => ?_⟩
      have en : ns = sset xs := asc_eq asc (sset_asc xs) fun z => by rw [mem z, sset_mem, decide_eq_true_eq]
      subst en
      refine ec_fresh (c := cLst rInt) (o := .lst ((sset xs).map V.int)) F2 h1 ?_ (fun p o H' B' F' n' s' k' => q p o H' B' F' n' (s1.trans s') k') ⟨_, rfl, paired_ints _ _⟩
      show ((sset xs).map V.int).length ≤ sizeLine
      rw [List.length_map]
      exact Nat.le_trans (Nat.le_of_lt hl.2) (by decide)
  · cases e
end
end G


namespace Law
open PySem L2 G
def m_between (low0 : (Option Int)) (high0 : (Option Int)) (number0 : Int) : Option Bool := letO (low0.isNone) fun c3 => bindO (iteO c3 (some true) (bindO (low0) fun g1 => some (decide (g1 ≤ number0)))) fun b2 => letO (b2) fun c8 => bindO (iteO c8 (letO (high0.isNone) fun c6 => bindO (iteO c6 (some true) (bindO (high0) fun g4 => some (decide (number0 ≤ g4)))) fun b5 => some b5) (some false)) fun b7 => some b7
def m_one_form_c1 (low0 : (Option Int)) (high0 : (Option Int)) (number1 : Int) : Option (Option Int) := bindO (m_between low0 high0 number1) fun v2 => letO (v2) fun c3 => iteO c3 (some (some number1)) (some (none))
def m_one_form_b1 (s8 : ((Option Int) × Int)) : Option (Step ((Option Int) × (Option Int) × (List Int)) ((Option Int) × Int)) := bindO (s8.1) fun g12 => letO ((some (g12 + (1 : Int)))) fun low13 => letO ((s8.2 + (1 : Int))) fun start14 => some (.nx (low13, start14))
def m_one_form_w1 (gaps6 : (List Int)) (s8 : ((Option Int) × Int)) : Option Bool := letO ((decide (s8.2 < (gaps6.length : Int)))) fun c11 => bindO (iteO c11 (bindO (atI gaps6 s8.2) fun y9 => some (decide ((some y9) = s8.1))) (some false)) fun b10 => some b10
def m_one_form_b2 (s18 : ((Option Int) × Int)) : Option (Step ((Option Int) × (Option Int) × (List Int)) ((Option Int) × Int)) := bindO (s18.1) fun g22 => letO ((some (g22 - (1 : Int)))) fun high23 => letO ((s18.2 - (1 : Int))) fun end24 => some (.nx (high23, end24))
def m_one_form_w2 (gaps6 : (List Int)) (e16 : ((Option Int) × Int)) (s18 : ((Option Int) × Int)) : Option Bool := letO ((decide (e16.2 < s18.2))) fun c21 => bindO (iteO c21 (bindO (atI gaps6 (s18.2 - (1 : Int))) fun y19 => some (decide ((some y19) = s18.1))) (some false)) fun b20 => some b20
def m_one_form (low0 : (Option Int)) (high0 : (Option Int)) (without0 : (List Int)) : Option ((Option Int) × (Option Int) × (List Int)) := bindO (compL (m_one_form_c1 low0 high0) without0) fun l4 => bindO (pySS2 l4) fun l5 => letO (l5) fun gaps6 => letO ((0 : Int)) fun start7 => bindO (whL (m_one_form_w1 gaps6) (m_one_form_b1) 1000000 (low0, start7)) fun R15 => stepO R15 fun e16 => letO ((gaps6.length : Int)) fun end17 => bindO (whL (m_one_form_w2 gaps6 e16) (m_one_form_b2) 1000000 (high0, end17)) fun R25 => stepO R25 fun e26 => letO (e16.1.isSome) fun c32 => bindO (iteO c32 (letO (e26.1.isSome) fun c30 => bindO (iteO c30 (bindO (e16.1) fun g27 => bindO (e26.1) fun g28 => some (decide (g28 < g27))) (some false)) fun b29 => some b29) (some false)) fun b31 => letO (b31) fun c33 => iteO c33 (some ((some (1 : Int)), (some (0 : Int)), [])) (some (e16.1, e26.1, (cut gaps6 (some e16.2) (some e26.2))))
def m_one_form_Vk_c1 (low0 : (Option Int)) (high0 : (Option Int)) (number1 : Int) : Option (Option Int) := bindO (m_between low0 high0 number1) fun v2 => letO (v2) fun c3 => iteO c3 (some (some number1)) (some (none))
def m_one_form_Vk_b1 (s8 : ((Option Int) × Int)) : Option (Step ((Option Int) × (Option Int) × (List Int)) ((Option Int) × Int)) := bindO (s8.1) fun g12 => letO ((some (g12 + (1 : Int)))) fun low13 => letO ((s8.2 + (1 : Int))) fun start14 => some (.nx (low13, start14))
def m_one_form_Vk_w1 (gaps6 : (List Int)) (s8 : ((Option Int) × Int)) : Option Bool := letO ((decide (s8.2 < (gaps6.length : Int)))) fun c11 => bindO (iteO c11 (bindO (atI gaps6 s8.2) fun y9 => some (decide ((some y9) = s8.1))) (some false)) fun b10 => some b10
def m_one_form_Vk_b2 (s18 : ((Option Int) × Int)) : Option (Step ((Option Int) × (Option Int) × (List Int)) ((Option Int) × Int)) := bindO (s18.1) fun g22 => letO ((some (g22 - (1 : Int)))) fun high23 => letO ((s18.2 - (1 : Int))) fun end24 => some (.nx (high23, end24))
def m_one_form_Vk_w2 (gaps6 : (List Int)) (e16 : ((Option Int) × Int)) (s18 : ((Option Int) × Int)) : Option Bool := letO ((decide (e16.2 < s18.2))) fun c21 => bindO (iteO c21 (bindO (atI gaps6 (s18.2 - (1 : Int))) fun y19 => some (decide ((some y19) = s18.1))) (some false)) fun b20 => some b20
def m_one_form_Vk (low0 : (Option Int)) (high0 : (Option Int)) (without0 : (List Int)) : Option ((Option Int) × (Option Int) × (List Int)) := bindO (compL (m_one_form_Vk_c1 low0 high0) without0) fun l4 => bindO (pySS2 l4) fun l5 => letO (l5) fun gaps6 => letO ((0 : Int)) fun start7 => bindO (whL (m_one_form_Vk_w1 gaps6) (m_one_form_Vk_b1) 1000000 (low0, start7)) fun R15 => stepO R15 fun e16 => letO ((gaps6.length : Int)) fun end17 => bindO (whL (m_one_form_Vk_w2 gaps6 e16) (m_one_form_Vk_b2) 1000000 (high0, end17)) fun R25 => stepO R25 fun e26 => letO (e16.1.isSome) fun c32 => bindO (iteO c32 (letO (e26.1.isSome) fun c30 => bindO (iteO c30 (bindO (e16.1) fun g27 => bindO (e26.1) fun g28 => some (decide (g28 < g27))) (some false)) fun b29 => some b29) (some false)) fun b31 => letO (b31) fun c33 => iteO c33 (some ((some (1 : Int)), (some (0 : Int)), [])) (some (e16.1, e26.1, (cut gaps6 (some e16.2) (some e26.2))))
def m_size_of (low0 : (Option Int)) (high0 : (Option Int)) (without0 : (List Int)) : Option (Option Int) := letO ((low0.isNone || high0.isNone)) fun c1 => iteO c1 (some (none : Option Int)) (bindO (high0) fun g2 => bindO (low0) fun g3 => some (some (((g2 - g3) + (1 : Int)) - (without0.length : Int))))
def m_Region___init_c1 (number8 : Int) : Option (Option (Int × Bool)) := some (some (number8, true))
def m_Region___init (low0 : (Option Int)) (high0 : (Option Int)) (without0 : (List Int)) : Option ((Option Int) × (Option Int) × (List Int) × (Option Int) × (Option Int) × (List (Int × Bool))) := bindO (m_one_form low0 high0 without0) fun v1 => letO (v1) fun u2 => bindO (m_size_of ((u2.1, u2.2.1, u2.2.2).1) ((u2.1, u2.2.1, u2.2.2).2.1) ((u2.1, u2.2.1, u2.2.2).2.2)) fun v3 => letO (v3) fun size4 => letO ((decide ((u2.1, u2.2.1, u2.2.2, size4).2.2.2 = (some (1 : Int))))) fun c6 => bindO (iteO c6 (some ((u2.1, u2.2.1, u2.2.2, size4).1)) (some (none : Option Int))) fun i5 => letO (i5) fun value7 => bindO (compD (m_Region___init_c1) ((u2.1, u2.2.1, u2.2.2, size4, value7).2.2.1) []) fun d9 => letO (d9) fun gaps10 => some (u2.1, u2.2.1, u2.2.2, size4, value7, gaps10)
def m_Region___init___Vk_c1 (number8 : Int) : Option (Option (Int × Bool)) := some (some (number8, true))
def m_Region___init___Vk (low0 : (Option Int)) (high0 : (Option Int)) (without0 : (List Int)) : Option ((Option Int) × (Option Int) × (List Int) × (Option Int) × (Option Int) × (List (Int × Bool))) := bindO (m_one_form_Vk low0 high0 without0) fun v1 => letO (v1) fun u2 => bindO (m_size_of ((u2.1, u2.2.1, u2.2.2).1) ((u2.1, u2.2.1, u2.2.2).2.1) ((u2.1, u2.2.1, u2.2.2).2.2)) fun v3 => letO (v3) fun size4 => letO ((decide ((u2.1, u2.2.1, u2.2.2, size4).2.2.2 = (some (1 : Int))))) fun c6 => bindO (iteO c6 (some ((u2.1, u2.2.1, u2.2.2, size4).1)) (some (none : Option Int))) fun i5 => letO (i5) fun value7 => bindO (compD (m_Region___init___Vk_c1) ((u2.1, u2.2.1, u2.2.2, size4, value7).2.2.1) []) fun d9 => letO (d9) fun gaps10 => some (u2.1, u2.2.1, u2.2.2, size4, value7, gaps10)
def m_meet_c1 (region1 : ((Option Int) × (Option Int) × (List Int) × (Option Int) × (Option Int) × (List (Int × Bool)))) : Option (Option Int) := letO (region1.1.isSome) fun c3 => iteO c3 (bindO (region1.1) fun g2 => some (some g2)) (some (none))
def m_meet_c2 (region6 : ((Option Int) × (Option Int) × (List Int) × (Option Int) × (Option Int) × (List (Int × Bool)))) : Option (Option Int) := letO (region6.2.1.isSome) fun c8 => iteO c8 (bindO (region6.2.1) fun g7 => some (some g7)) (some (none))
def m_meet_ci3 (region11 : ((Option Int) × (Option Int) × (List Int) × (Option Int) × (Option Int) × (List (Int × Bool)))) : Option (List Int) := some region11.2.2.1
def m_meet_c4 (region11 : ((Option Int) × (Option Int) × (List Int) × (Option Int) × (Option Int) × (List (Int × Bool)))) (number12 : Int) : Option (Option Int) := some (some number12)
def m_meet (regions0 : (List ((Option Int) × (Option Int) × (List Int) × (Option Int) × (Option Int) × (List (Int × Bool))))) : Option ((Option Int) × (Option Int) × (List Int) × (Option Int) × (Option Int) × (List (Int × Bool))) := bindO (compL (m_meet_c1) regions0) fun l4 => letO (l4) fun lows5 => bindO (compL (m_meet_c2) regions0) fun l9 => letO (l9) fun highs10 => bindO (comp2 (m_meet_ci3) (m_meet_c4) regions0) fun l13 => letO (l13) fun without14 => bindO (m_Region___init (pyMaxN lows5) (pyMinN highs10) without14) fun o15 => some o15
def m_Region___contains (self0 : ((Option Int) × (Option Int) × (List Int) × (Option Int) × (Option Int) × (List (Int × Bool)))) (x0 : Int) : Option Bool := bindO (m_between self0.1 self0.2.1 x0) fun v1 => some (v1 && (!(getM self0.2.2.2.2.2 x0).isSome))
def m_Region___and (self0 : ((Option Int) × (Option Int) × (List Int) × (Option Int) × (Option Int) × (List (Int × Bool)))) (other0 : ((Option Int) × (Option Int) × (List Int) × (Option Int) × (Option Int) × (List (Int × Bool)))) : Option ((Option Int) × (Option Int) × (List Int) × (Option Int) × (Option Int) × (List (Int × Bool))) := bindO (m_meet [self0, other0]) fun v1 => some v1
def m_Region___eq (self0 : ((Option Int) × (Option Int) × (List Int) × (Option Int) × (Option Int) × (List (Int × Bool)))) (other0 : ((Option Int) × (Option Int) × (List Int) × (Option Int) × (Option Int) × (List (Int × Bool)))) : Option Bool := letO (true) fun c7 => bindO (iteO c7 (letO ((decide (self0.1 = other0.1))) fun c5 => bindO (iteO c5 (letO ((decide (self0.2.1 = other0.2.1))) fun c3 => bindO (iteO c3 (bindO (pyEq ((dTpl PyData.int) self0.2.2.1) ((dTpl PyData.int) other0.2.2.1)) fun q1 => some q1) (some false)) fun b2 => some b2) (some false)) fun b4 => some b4) (some false)) fun b6 => some b6
def m_Region___bool (self0 : ((Option Int) × (Option Int) × (List Int) × (Option Int) × (Option Int) × (List (Int × Bool)))) : Option Bool := some (!decide (self0.2.2.2.1 = (some (0 : Int))))
def m_Region_within (self0 : ((Option Int) × (Option Int) × (List Int) × (Option Int) × (Option Int) × (List (Int × Bool)))) (other0 : ((Option Int) × (Option Int) × (List Int) × (Option Int) × (Option Int) × (List (Int × Bool)))) : Option Bool := bindO (m_meet [self0, other0]) fun v1 => bindO (m_Region___eq v1 self0) fun n2 => some n2
def m_Region_of (sign0 : Str) (number0 : Int) : Option (Res Str ((Option Int) × (Option Int) × (List Int) × (Option Int) × (Option Int) × (List (Int × Bool)))) := letO ((decide (sign0 = (Str.ofString "=")))) fun c1 => iteO c1 (bindO (m_Region___init___Vk (some number0) (some number0) ([] : (List Int))) fun o2 => some (.ok o2)) (letO ((decide (sign0 = (Str.ofString "!=")))) fun c3 => iteO c3 (bindO (m_Region___init (none : Option Int) (none : Option Int) [number0]) fun o4 => some (.ok o4)) (letO ((decide (sign0 = (Str.ofString "<")))) fun c5 => iteO c5 (bindO (m_Region___init___Vk (none : Option Int) (some (number0 - (1 : Int))) ([] : (List Int))) fun o6 => some (.ok o6)) (letO ((decide (sign0 = (Str.ofString "<=")))) fun c7 => iteO c7 (bindO (m_Region___init___Vk (none : Option Int) (some number0) ([] : (List Int))) fun o8 => some (.ok o8)) (letO ((decide (sign0 = (Str.ofString ">")))) fun c9 => iteO c9 (bindO (m_Region___init___Vk (some (number0 + (1 : Int))) (none : Option Int) ([] : (List Int))) fun o10 => some (.ok o10)) (letO ((decide (sign0 = (Str.ofString ">=")))) fun c11 => iteO c11 (bindO (m_Region___init___Vk (some number0) (none : Option Int) ([] : (List Int))) fun o12 => some (.ok o12)) (some (.er sign0)))))))
def m_l_stands (value0 : Int) (sign0 : Str) (number0 : Int) : Option Bool := letO ((decide (sign0 = (Str.ofString "=")))) fun c1 => iteO c1 (some (decide (value0 = number0))) (letO ((decide (sign0 = (Str.ofString "!=")))) fun c2 => iteO c2 (some (!decide (value0 = number0))) (letO ((decide (sign0 = (Str.ofString "<")))) fun c3 => iteO c3 (some (decide (value0 < number0))) (letO ((decide (sign0 = (Str.ofString "<=")))) fun c4 => iteO c4 (some (decide (value0 ≤ number0))) (letO ((decide (sign0 = (Str.ofString ">")))) fun c5 => iteO c5 (some (decide (number0 < value0))) (some (decide (number0 ≤ value0)))))))
def m_l_all_b1 (value0 : Int) (sign2 : (Str × Int)) (s1 : Unit) : Option (Step Bool Unit) := bindO (m_l_stands value0 sign2.1 sign2.2) fun v3 => letO ((!v3)) fun c4 => iteO c4 (some (.ret false)) (some (.nx ()))
def m_l_all (conditions_here0 : (List (Str × Int))) (value0 : Int) : Option Bool := bindO (forL (m_l_all_b1 value0) conditions_here0 ()) fun R5 => stepO R5 fun e6 => some true
def m_l_conditions_b1 (j3 : Bool) (signs6 : (List Str)) (cell10 : Int) (s9 : (List (Str × Int))) : Option (Step (List (Str × Int)) (List (Str × Int))) := bindO (atI signs6 ((cell10 / (2 : Int)) % (11 : Int))) fun y11 => letO (y11) fun sign12 => letO ((((cell10 / (22 : Int)) % (41 : Int)) - (20 : Int))) fun number13 => letO ((j3 && (!decide (sign12 = (Str.ofString "="))))) fun c14 => bindO (iteO c14 (bindO (atI [(0 : Int), (7 : Int), ((10 : Int) ^ ((9 : Int)).toNat), ((10 : Int) ^ ((29 : Int)).toNat)] ((cell10 / (902 : Int)) % (4 : Int))) fun y16 => bindO (pyMul y16 (((cell10 / (3608 : Int)) % (19 : Int)) - (9 : Int))) fun m17 => letO ((number13 + m17)) fun number18 => some number18) (some number13)) fun j15 => bindO (pyApp s9 (sign12, j15)) fun found19 => some (.nx found19)
def m_l_conditions (script0 : (List Int)) : Option (List (Str × Int)) := letO (false) fun wide1 => letO ((decide ((0 : Int) < (script0.length : Int)))) fun c2 => bindO (iteO c2 (bindO (atI script0 (0 : Int)) fun y4 => letO ((decide ((y4 % (2 : Int)) = (1 : Int)))) fun wide5 => some wide5) (some wide1)) fun j3 => letO ([(Str.ofString "!="), (Str.ofString "<"), (Str.ofString "!="), (Str.ofString "<="), (Str.ofString "!="), (Str.ofString ">"), (Str.ofString "!="), (Str.ofString ">="), (Str.ofString "!="), (Str.ofString "="), (Str.ofString "!=")]) fun signs6 => letO ([]) fun found7 => bindO (pyCutC script0 none (some (63 : Int))) fun l8 => bindO (forL (m_l_conditions_b1 j3 signs6) l8 found7) fun R20 => stepO R20 fun e21 => some e21
def m_l_values_b1 (sign3 : (Str × Int)) (s2 : (List Int)) : Option (Step (List Int) (List Int)) := bindO (pyCat s2 [(sign3.2 - (1 : Int)), sign3.2, (sign3.2 + (1 : Int))]) fun l4 => letO (l4) fun near5 => some (.nx near5)
def m_l_values (conditions_here0 : (List (Str × Int))) : Option (List Int) := letO ([(0 : Int)]) fun near1 => bindO (forL (m_l_values_b1) conditions_here0 near1) fun R6 => stepO R6 fun e7 => bindO (pyMaxN e7) fun m8 => bindO (pyMinN e7) fun m9 => bindO (pyCat e7 [(m8 + ((10 : Int) ^ ((31 : Int)).toNat)), (m9 - ((10 : Int) ^ ((31 : Int)).toNat))]) fun l10 => letO (l10) fun near11 => some (isortI near11)
def m_l_least_c1 (condition1 : (Str × Int)) : Option (Option Int) := letO ((decide (condition1.1 ∈ [(Str.ofString ">="), (Str.ofString "=")]))) fun c2 => iteO c2 (some (some condition1.2)) (some (none))
def m_l_least_c2 (condition5 : (Str × Int)) : Option (Option Int) := letO ((decide (condition5.1 = (Str.ofString ">")))) fun c6 => iteO c6 (some (some (condition5.2 + (1 : Int)))) (some (none))
def m_l_least_c3 (condition14 : (Str × Int)) : Option (Option Int) := letO ((decide (condition14.1 = (Str.ofString "!=")))) fun c15 => iteO c15 (some (some condition14.2)) (some (none))
def m_l_least_b1 (holes17 : (List Int)) (k20 : Int) (s19 : Int) : Option (Step (Option Int) Int) := letO ((decide (s19 ∈ holes17))) fun c21 => iteO c21 (letO ((s19 + (1 : Int))) fun value22 => some (.nx value22)) (some (.nx s19))
def m_l_least (conditions_here0 : (List (Str × Int))) : Option (Option Int) := bindO (compL (m_l_least_c1) conditions_here0) fun l3 => letO (l3) fun lows4 => bindO (compL (m_l_least_c2) conditions_here0) fun l7 => bindO (pyCat lows4 l7) fun l8 => letO (l8) fun lows9 => bindO (pyEq ((dLst PyData.int) lows9) ((dHls dw0) ())) fun q10 => letO (q10) fun c11 => iteO c11 (some (none : Option Int)) (bindO (pyMaxN lows9) fun m12 => letO (m12) fun value13 => bindO (compL (m_l_least_c3) conditions_here0) fun l16 => letO (l16) fun holes17 => bindO (pyRng (holes17.length : Int)) fun l18 => bindO (forL (m_l_least_b1 holes17) l18 value13) fun R23 => stepO R23 fun e24 => some (some e24))
def m_l_greatest_c1 (condition1 : (Str × Int)) : Option (Option Int) := letO ((decide (condition1.1 ∈ [(Str.ofString "<="), (Str.ofString "=")]))) fun c2 => iteO c2 (some (some condition1.2)) (some (none))
def m_l_greatest_c2 (condition5 : (Str × Int)) : Option (Option Int) := letO ((decide (condition5.1 = (Str.ofString "<")))) fun c6 => iteO c6 (some (some (condition5.2 - (1 : Int)))) (some (none))
def m_l_greatest_c3 (condition14 : (Str × Int)) : Option (Option Int) := letO ((decide (condition14.1 = (Str.ofString "!=")))) fun c15 => iteO c15 (some (some condition14.2)) (some (none))
def m_l_greatest_b1 (holes17 : (List Int)) (k20 : Int) (s19 : Int) : Option (Step (Option Int) Int) := letO ((decide (s19 ∈ holes17))) fun c21 => iteO c21 (letO ((s19 - (1 : Int))) fun value22 => some (.nx value22)) (some (.nx s19))
def m_l_greatest (conditions_here0 : (List (Str × Int))) : Option (Option Int) := bindO (compL (m_l_greatest_c1) conditions_here0) fun l3 => letO (l3) fun highs4 => bindO (compL (m_l_greatest_c2) conditions_here0) fun l7 => bindO (pyCat highs4 l7) fun l8 => letO (l8) fun highs9 => bindO (pyEq ((dLst PyData.int) highs9) ((dHls dw0) ())) fun q10 => letO (q10) fun c11 => iteO c11 (some (none : Option Int)) (bindO (pyMinN highs9) fun m12 => letO (m12) fun value13 => bindO (compL (m_l_greatest_c3) conditions_here0) fun l16 => letO (l16) fun holes17 => bindO (pyRng (holes17.length : Int)) fun l18 => bindO (forL (m_l_greatest_b1 holes17) l18 value13) fun R23 => stepO R23 fun e24 => some (some e24))
def m_l_formed_c1 (condition14 : (Str × Int)) : Option (Option Int) := letO ((decide (condition14.1 = (Str.ofString "!=")))) fun c15 => iteO c15 (some (some condition14.2)) (some (none))
def m_l_formed_c2 (least_here2 : (Option Int)) (most4 : (Option Int)) (number18 : Int) : Option (Option Int) := letO (least_here2.isNone) fun c21 => bindO (iteO c21 (some true) (bindO (least_here2) fun g19 => some (decide (g19 < number18)))) fun b20 => letO (b20) fun c26 => bindO (iteO c26 (letO (most4.isNone) fun c24 => bindO (iteO c24 (some true) (bindO (most4) fun g22 => some (decide (number18 < g22)))) fun b23 => some b23) (some false)) fun b25 => letO (b25) fun c27 => iteO c27 (some (some number18)) (some (none))
def m_l_formed_c3 (out29 : (List Int)) (k31 : Int) : Option (Option Int) := bindO (atI out29 k31) fun y32 => letO ((!decide (y32 ∈ (cut out29 none (some k31))))) fun c34 => iteO c34 (bindO (atI out29 k31) fun y33 => some (some y33)) (some (none))
def m_l_formed (region0 : ((Option Int) × (Option Int) × (List Int) × (Option Int) × (Option Int) × (List (Int × Bool)))) (conditions_here0 : (List (Str × Int))) : Option Bool := bindO (m_l_least conditions_here0) fun v1 => letO (v1) fun least_here2 => bindO (m_l_greatest conditions_here0) fun v3 => letO (v3) fun most4 => letO (least_here2.isSome) fun c10 => bindO (iteO c10 (letO (most4.isSome) fun c8 => bindO (iteO c8 (bindO (least_here2) fun g5 => bindO (most4) fun g6 => some (decide (g6 < g5))) (some false)) fun b7 => some b7) (some false)) fun b9 => letO (b9) fun c11 => iteO c11 (bindO (m_Region___bool region0) fun n12 => bindO (pyEq ((dHls (dwC (dOpt PyData.int) (dwC (dOpt PyData.int) (dwC (dTpl PyData.int) (dwC (dOpt PyData.int) (dw1 PyData.bool)))))) (region0.1, region0.2.1, region0.2.2.1, region0.2.2.2.1, n12)) ((dHls (dwC PyData.int (dwC PyData.int (dwC (dTup dw0) (dwC PyData.int (dw1 PyData.bool)))))) ((1 : Int), (0 : Int), (), (0 : Int), false))) fun q13 => some q13) (bindO (compL (m_l_formed_c1) conditions_here0) fun l16 => letO (l16) fun out17 => bindO (compL (m_l_formed_c2 least_here2 most4) out17) fun l28 => letO (l28) fun out29 => bindO (pyRng (out29.length : Int)) fun l30 => bindO (compL (m_l_formed_c3 out29) l30) fun l35 => letO (l35) fun out36 => bindO (m_Region___bool region0) fun n37 => bindO (pyEq ((dHls (dwC (dOpt PyData.int) (dwC (dOpt PyData.int) (dwC (dTpl PyData.int) (dw1 PyData.bool))))) (region0.1, region0.2.1, region0.2.2.1, n37)) ((dHls (dwC (dOpt PyData.int) (dwC (dOpt PyData.int) (dwC (dTpl PyData.int) (dw1 PyData.bool))))) (least_here2, most4, (isortI out36), true))) fun q38 => letO ((!q38)) fun c39 => iteO c39 (some false) (letO ((least_here2.isNone || most4.isNone)) fun c40 => iteO c40 (some (region0.2.2.2.1.isNone && region0.2.2.2.2.1.isNone)) (bindO (most4) fun g41 => bindO (least_here2) fun g42 => some (decide (region0.2.2.2.1 = (some (((g41 - g42) + (1 : Int)) - (out36.length : Int))))))))
def m_law_b1 (conditions_here2 : (List (Str × Int))) (k9 : Int) (s8 : (List ((Option Int) × (Option Int) × (List Int) × (Option Int) × (Option Int) × (List (Int × Bool))))) : Option (Step Bool (List ((Option Int) × (Option Int) × (List Int) × (Option Int) × (Option Int) × (List (Int × Bool))))) := bindO (atI conditions_here2 k9) fun y10 => bindO (atI conditions_here2 k9) fun y11 => bindO (m_Region_of y10.1 y11.2) fun r12 => bindO (okR r12) fun v13 => letO (v13) fun step14 => bindO (atI s8 k9) fun y15 => bindO (m_Region___and y15 step14) fun v16 => bindO (pyApp s8 v16) fun meets17 => bindO (atI meets17 (k9 + (1 : Int))) fun y18 => bindO (atI meets17 k9) fun y19 => bindO (m_Region_within y18 y19) fun v20 => letO ((!v20)) fun c24 => bindO (iteO c24 (some true) (bindO (atI meets17 (k9 + (1 : Int))) fun y21 => bindO (m_Region_within y21 step14) fun v22 => some (!v22))) fun b23 => letO (b23) fun c25 => iteO c25 (some (.ret false)) (some (.nx meets17))
def m_law_c1 (conditions_here2 : (List (Str × Int))) (e27 : (List ((Option Int) × (Option Int) × (List Int) × (Option Int) × (Option Int) × (List (Int × Bool))))) (k30 : Int) (value37 : Int) : Option (Option Int) := bindO (atI e27 k30) fun y38 => bindO (m_Region___contains y38 value37) fun n39 => bindO (m_l_all (cut conditions_here2 none (some k30)) value37) fun v40 => letO ((!decide (n39 = v40))) fun c41 => iteO c41 (some (some value37)) (some (none))
def m_law_b2 (conditions_here2 : (List (Str × Int))) (values_here4 : (List Int)) (e27 : (List ((Option Int) × (Option Int) × (List Int) × (Option Int) × (Option Int) × (List (Int × Bool))))) (k30 : Int) (s29 : Unit) : Option (Step Bool Unit) := letO (((decide ((k30 % (5 : Int)) = (0 : Int))) || (decide (k30 = (conditions_here2.length : Int))))) fun c34 => bindO (iteO c34 (bindO (atI e27 k30) fun y31 => bindO (m_l_formed y31 (cut conditions_here2 none (some k30))) fun v32 => some (!v32)) (some false)) fun b33 => letO (b33) fun c35 => iteO c35 (some (.ret false)) (letO (((decide (k30 = ((conditions_here2.length : Int) / (2 : Int)))) || (decide (k30 = (conditions_here2.length : Int))))) fun c36 => iteO c36 (bindO (compL (m_law_c1 conditions_here2 e27 k30) values_here4) fun l42 => bindO (pyEq ((dLst PyData.int) l42) ((dHls dw0) ())) fun q43 => letO ((!q43)) fun c44 => iteO c44 (some (.ret false)) (some (.nx ()))) (some (.nx ())))
def m_law_b3 (sign50 : (Str × Int)) (s49 : ((Option Int) × (Option Int) × (List Int) × (Option Int) × (Option Int) × (List (Int × Bool)))) : Option (Step Bool ((Option Int) × (Option Int) × (List Int) × (Option Int) × (Option Int) × (List (Int × Bool)))) := bindO (m_Region_of sign50.1 sign50.2) fun r51 => bindO (okR r51) fun v52 => bindO (m_Region___and v52 s49) fun v53 => letO (v53) fun backward54 => some (.nx backward54)
def m_law (script0 : (List Int)) : Option Bool := bindO (m_l_conditions script0) fun v1 => letO (v1) fun conditions_here2 => bindO (m_l_values conditions_here2) fun v3 => letO (v3) fun values_here4 => bindO (m_Region___init___Vk (none : (Option Int)) (none : (Option Int)) ([] : (List Int))) fun o5 => letO ([o5]) fun meets6 => bindO (pyRng (conditions_here2.length : Int)) fun l7 => bindO (forL (m_law_b1 conditions_here2) l7 meets6) fun R26 => stepO R26 fun e27 => bindO (pyRng (e27.length : Int)) fun l28 => bindO (forL (m_law_b2 conditions_here2 values_here4 e27) l28 ()) fun R45 => stepO R45 fun e46 => bindO (m_Region___init___Vk (none : (Option Int)) (none : (Option Int)) ([] : (List Int))) fun o47 => letO (o47) fun backward48 => bindO (forL (m_law_b3) conditions_here2.reverse backward48) fun R55 => stepO R55 fun e56 => bindO (atI e27 (conditions_here2.length : Int)) fun y57 => bindO (m_Region___eq e56 y57) fun n58 => some n58
end Law

set_option maxHeartbeats 4000000
/-! # the mathematics of regions: one form, members, equality, meets -/
namespace Law
open PySem L2 G
theorem atI_nat2 {α : Type} (l : List α) (k : Nat) : atI l (k : Int) = l[k]? := by
  unfold atI ixN
  rw [if_pos (by omega)]
  by_cases h : k < l.length
  · rw [if_pos (by omega)]; rfl
  · rw [if_neg (by omega), List.getElem?_eq_none (by omega)]; rfl
theorem compL_fil {α β : Type} {f : α → Option (Option β)} {p : α → Bool} {g : α → β} : ∀ {xs : List α}, (∀ x ∈ xs, f x = some (if p x = true then some (g x) else none)) → compL f xs = some ((xs.filter p).map g)
  | [], _ => rfl
  | x :: xs, h => by
    have ih := compL_fil (f := f) (p := p) (g := g) (xs := xs) fun y hy => h y (List.mem_cons_of_mem _ hy)
    unfold compL
    rw [h x List.mem_cons_self, ih]
    cases hp : p x with
    | true => rw [if_pos rfl, List.filter_cons_of_pos hp, List.map_cons]
    | false => rw [if_neg (by decide), List.filter_cons_of_neg (by rw [hp]; decide)]
theorem compL_all {α β : Type} {f : α → Option (Option β)} {g : α → β} {xs : List α} (h : ∀ x ∈ xs, f x = some (some (g x))) : compL f xs = some (xs.map g) := by
  have := compL_fil (f := f) (p := fun _ => true) (g := g) (xs := xs) fun x hx => by rw [h x hx, if_pos rfl]
  rw [this, List.filter_eq_self.mpr fun _ _ => rfl]
/-! ### members -/
def LoOk (l : Option Int) (v : Int) : Prop := ∀ a, l = some a → a ≤ v
def HiOk (h : Option Int) (v : Int) : Prop := ∀ b, h = some b → v ≤ b
def Mem (l h : Option Int) (w : List Int) (v : Int) : Prop := LoOk l v ∧ HiOk h v ∧ v ∉ w
def NF (l h : Option Int) (w : List Int) : Prop := w.Pairwise (· < ·) ∧ (∀ x ∈ w, (∀ a, l = some a → a < x) ∧ (∀ b, h = some b → x < b)) ∧ (∀ a b, l = some a → h = some b → a ≤ b)
def Fm (l h : Option Int) (w : List Int) : Prop := NF l h w ∨ (l = some 1 ∧ h = some 0 ∧ w = [])
theorem lo_none (v : Int) : LoOk none v := fun _ h => nomatch h
theorem hi_none (v : Int) : HiOk none v := fun _ h => nomatch h
theorem lo_some {a v : Int} : LoOk (some a) v ↔ a ≤ v := ⟨fun h => h a rfl, fun h b e => by cases e; exact h⟩
theorem hi_some {b v : Int} : HiOk (some b) v ↔ v ≤ b := ⟨fun h => h b rfl, fun h a e => by cases e; exact h⟩
def btw (l h : Option Int) (v : Int) : Bool := (match l with | none => true | some a => decide (a ≤ v)) && (match h with | none => true | some b => decide (v ≤ b))
theorem btw_iff (l h : Option Int) (v : Int) : btw l h v = true ↔ LoOk l v ∧ HiOk h v := by
  unfold btw
  rw [Bool.and_eq_true]
  cases l with
  | none => cases h with
    | none => simp [lo_none, hi_none]
    | some b => simp [lo_none, hi_some]
  | some a => cases h with
    | none => simp [lo_some, hi_none]
    | some b => simp [lo_some, hi_some]
theorem between_ok (l h : Option Int) (v : Int) : m_between l h v = some (btw l h v) := by
  cases l with
  | none => cases h <;> rfl
  | some a => cases h with
    | none =>
      show bindO (iteO (decide (a ≤ v)) (some true) (some false)) _ = _
      unfold btw
      dsimp only
      cases decide (a ≤ v) <;> rfl
    | some b =>
      show bindO (iteO (decide (a ≤ v)) (some (decide (v ≤ b))) (some false)) _ = _
      unfold btw
      dsimp only
      cases decide (a ≤ v) <;> rfl
def mb (l h : Option Int) (w : List Int) (v : Int) : Bool := btw l h v && !decide (v ∈ w)
theorem mb_iff (l h : Option Int) (w : List Int) (v : Int) : mb l h w v = true ↔ Mem l h w v := by
  unfold mb Mem
  rw [Bool.and_eq_true, btw_iff, Bool.not_eq_true', decide_eq_false_iff_not, and_assoc]
/-! ### the ends move over what is left out -/
def strip : Int → List Int → Int × List Int
  | l, [] => (l, [])
  | l, x :: xs => if x = l then strip (l + 1) xs else (l, x :: xs)
theorem strip_ok : ∀ (xs : List Int) (l : Int), xs.Pairwise (· < ·) → (∀ x ∈ xs, l ≤ x) → (∀ x ∈ (strip l xs).2, (strip l xs).1 < x) ∧ (∀ v, ((strip l xs).1 ≤ v ∧ v ∉ (strip l xs).2) ↔ (l ≤ v ∧ v ∉ xs)) ∧ (strip l xs).2 <:+ xs
  | [], l, _, _ => by simp [strip]
  | x :: xs, l, hp, hl => by
    have hp' := List.pairwise_cons.mp hp
    unfold strip
    by_cases e : x = l
    · rw [if_pos e]
      obtain ⟨h1, h2, h3⟩ := strip_ok xs (l + 1) hp'.2 fun y hy => by have := hp'.1 y hy; omega
      refine ⟨h1, fun v => (h2 v).trans ?_, h3.trans (List.suffix_cons _ _)⟩
      rw [List.mem_cons]
      constructor
      · intro ⟨a, b⟩; exact ⟨by omega, fun z => z.elim (fun z => by omega) b⟩
      · intro ⟨a, b⟩
        have : v ≠ x := fun z => b (.inl z)
        exact ⟨by omega, fun z => b (.inr z)⟩
    · rw [if_neg e]
      refine ⟨fun y hy => ?_, fun v => Iff.rfl, List.suffix_refl _⟩
      have hx := hl x List.mem_cons_self
      rcases List.mem_cons.mp hy with rfl | hy
      · show l < y; omega
      · have := hp'.1 y hy; show l < y; omega
def stripD : Int → List Int → Int × List Int
  | h, [] => (h, [])
  | h, x :: xs => if x = h then stripD (h - 1) xs else (h, x :: xs)
theorem stripD_ok : ∀ (xs : List Int) (h : Int), xs.Pairwise (· > ·) → (∀ x ∈ xs, x ≤ h) → (∀ x ∈ (stripD h xs).2, x < (stripD h xs).1) ∧ (∀ v, (v ≤ (stripD h xs).1 ∧ v ∉ (stripD h xs).2) ↔ (v ≤ h ∧ v ∉ xs)) ∧ (stripD h xs).2 <:+ xs
  | [], h, _, _ => by simp [stripD]
  | x :: xs, h, hp, hl => by
    have hp' := List.pairwise_cons.mp hp
    unfold stripD
    by_cases e : x = h
    · rw [if_pos e]
      obtain ⟨h1, h2, h3⟩ := stripD_ok xs (h - 1) hp'.2 fun y hy => by have : x > y := hp'.1 y hy; omega
      refine ⟨h1, fun v => (h2 v).trans ?_, h3.trans (List.suffix_cons _ _)⟩
      rw [List.mem_cons]
      constructor
      · intro ⟨a, b⟩; exact ⟨by omega, fun z => z.elim (fun z => by omega) b⟩
      · intro ⟨a, b⟩
        have : v ≠ x := fun z => b (.inl z)
        exact ⟨by omega, fun z => b (.inr z)⟩
    · rw [if_neg e]
      refine ⟨fun y hy => ?_, fun v => Iff.rfl, List.suffix_refl _⟩
      have hx := hl x List.mem_cons_self
      rcases List.mem_cons.mp hy with rfl | hy
      · show y < h; omega
      · have : x > y := hp'.1 y hy; show y < h; omega
theorem whL_step {ρ ς : Type} {c : ς → Option Bool} {f : ς → Option (Step ρ ς)} {s s' : ς} {n : Nat} (h : c s = some true) (e : f s = some (.nx s')) : whL c f (n + 1) s = whL c f n s' := by
  show (match c s with | none => none | some false => some (Step.nx s) | some true => _) = _
  rw [h]
  show (match f s with | none => none | some (.nx s') => whL c f n s' | some (.brk s') => some (Step.nx s') | some (.ret b) => some (Step.ret b)) = _
  rw [e]
theorem whL_end {ρ ς : Type} {c : ς → Option Bool} {f : ς → Option (Step ρ ς)} {s : ς} {n : Nat} (h : c s = some false) : whL c f (n + 1) s = some (.nx s) := by
  show (match c s with | none => none | some false => some (Step.nx s) | some true => _) = _
  rw [h]
theorem w1_in {gs : List Int} {l : Option Int} {s : Nat} {x : Int} (h : gs[s]? = some x) : m_one_form_w1 gs (l, (s : Int)) = some (decide (some x = l)) := by
  have hs : s < gs.length := (List.getElem?_eq_some_iff.mp h).1
  unfold m_one_form_w1
  simp only [letO_s, atI_nat2, h, bindO_s, show decide ((s : Int) < (gs.length : Int)) = true from decide_eq_true (by omega), iteO_T]
theorem w1_out {gs : List Int} {l : Option Int} {s : Nat} (h : gs.length ≤ s) : m_one_form_w1 gs (l, (s : Int)) = some false := by
  unfold m_one_form_w1
  simp only [letO_s, show decide ((s : Int) < (gs.length : Int)) = false from decide_eq_false (by omega), iteO_F, bindO_s]
theorem wh1 (gs : List Int) : ∀ (n : Nat) (l : Int) (s : Nat), gs.length - s < n → s ≤ gs.length → whL (m_one_form_w1 gs) m_one_form_b1 n (some l, (s : Int)) = some (.nx (some (strip l (gs.drop s)).1, ((gs.length - (strip l (gs.drop s)).2.length : Nat) : Int)))
  | 0, _, _, h, _ => by omega
  | n + 1, l, s, h, hs => by
    by_cases hl : s < gs.length
    · have hx : gs[s]? = some gs[s] := List.getElem?_eq_getElem hl
      rw [List.drop_eq_getElem_cons hl]
      unfold strip
      by_cases e : gs[s] = l
      · rw [if_pos e, whL_step (s' := (some (l + 1), ((s + 1 : Nat) : Int))) (by rw [w1_in hx, e, decide_eq_true rfl]) (by rfl), wh1 gs n (l + 1) (s + 1) (by omega) (by omega)]
      · rw [if_neg e, whL_end (by rw [w1_in hx, decide_eq_false fun z => e (Option.some.inj z)])]
        rw [List.length_cons, List.length_drop]
        congr 4
        omega
    · have e : gs.drop s = [] := List.drop_eq_nil_of_le (by omega)
      rw [whL_end (w1_out (by omega)), e]
      show some (Step.nx (some l, (s : Int))) = some (Step.nx (some l, ((gs.length - 0 : Nat) : Int)))
      rw [show s = gs.length - 0 by omega]
theorem w2_in {gs : List Int} {l h : Option Int} {s e : Nat} {x : Int} (hs : s < e) (hx : gs[e - 1]? = some x) : m_one_form_w2 gs (l, (s : Int)) (h, (e : Int)) = some (decide (some x = h)) := by
  unfold m_one_form_w2
  have e1 : (e : Int) - 1 = ((e - 1 : Nat) : Int) := by omega
  simp only [letO_s, e1, atI_nat2, hx, bindO_s, show decide ((s : Int) < (e : Int)) = true from decide_eq_true (by omega), iteO_T]
theorem w2_out {gs : List Int} {l h : Option Int} {s e : Nat} (hs : e ≤ s) : m_one_form_w2 gs (l, (s : Int)) (h, (e : Int)) = some false := by
  unfold m_one_form_w2
  simp only [letO_s, show decide ((s : Int) < (e : Int)) = false from decide_eq_false (by omega), iteO_F, bindO_s]
theorem wh2 (gs : List Int) (l : Option Int) (s : Nat) : ∀ (n : Nat) (h : Int) (e : Nat), e - s < n → s ≤ e → e ≤ gs.length → whL (m_one_form_w2 gs (l, (s : Int))) m_one_form_b2 n (some h, (e : Int)) =
    some (.nx (some (stripD h ((gs.take e).drop s).reverse).1, ((s + (stripD h ((gs.take e).drop s).reverse).2.length : Nat) : Int)))
  | 0, _, _, h, _, _ => by omega
  | n + 1, h, e, hn, hs, he => by
    by_cases hl : s < e
    · have hx : gs[e - 1]? = some gs[e - 1] := List.getElem?_eq_getElem (by omega)
      have ec : ((gs.take e).drop s).reverse = gs[e - 1] :: ((gs.take (e - 1)).drop s).reverse := by
        have e0 : gs.take e = gs.take (e - 1) ++ [gs[e - 1]] := by
          have := List.take_append_getElem (l := gs) (i := e - 1) (by omega)
          rw [show e - 1 + 1 = e by omega] at this
          exact this.symm
        rw [e0, List.drop_append_of_le_length (by rw [List.length_take]; omega), List.reverse_append]
        rfl
      rw [ec]
      unfold stripD
      by_cases ee : gs[e - 1] = h
      · rw [if_pos ee, whL_step (s' := (some (h - 1), ((e - 1 : Nat) : Int))) (by rw [w2_in hl hx, ee, decide_eq_true rfl]) (by
          show some (Step.nx (some (h - 1), (e : Int) - 1)) = _
          rw [show (e : Int) - 1 = ((e - 1 : Nat) : Int) by omega]), wh2 gs l s n (h - 1) (e - 1) (by omega) (by omega) (by omega)]
      · rw [if_neg ee, whL_end (by rw [w2_in hl hx, decide_eq_false fun z => ee (Option.some.inj z)])]
        rw [List.length_cons, List.length_reverse, List.length_drop, List.length_take]
        congr 4
        omega
    · have e0 : (gs.take e).drop s = [] := List.drop_eq_nil_of_le (by rw [List.length_take]; omega)
      rw [whL_end (w2_out (by omega)), e0]
      show some (Step.nx (some h, (e : Int))) = some (Step.nx (some h, ((s + 0 : Nat) : Int)))
      rw [show s + 0 = e by omega]
theorem lo_loop (gs : List Int) (low : Option Int) (ha : gs.Pairwise (· < ·)) (hl : ∀ x ∈ gs, LoOk low x) (hn : gs.length < 1000000) : ∃ (l1 : Option Int) (s : Nat), whL (m_one_form_w1 gs) m_one_form_b1 1000000 (low, 0) = some (.nx (l1, (s : Int))) ∧ s ≤ gs.length ∧
    (∀ x ∈ gs.drop s, ∀ a, l1 = some a → a < x) ∧ (∀ v, (LoOk l1 v ∧ v ∉ gs.drop s) ↔ (LoOk low v ∧ v ∉ gs)) := by
  cases low with
  | none =>
    refine ⟨none, 0, whL_end ?_, Nat.zero_le _, (fun x _ a h => nomatch h), fun v => by rw [List.drop_zero]⟩
    cases gs with
    | nil => exact w1_out (Nat.le_refl _)
    | cons x xs => exact w1_in (s := 0) (x := x) rfl
  | some l =>
    obtain ⟨h1, h2, h3⟩ := strip_ok gs l ha fun x hx => lo_some.mp (hl x hx)
    have := wh1 gs 1000000 l 0 (by omega) (Nat.zero_le _)
    rw [List.drop_zero] at this
    have ed : gs.drop (gs.length - (strip l gs).2.length) = (strip l gs).2 := (List.suffix_iff_eq_drop.mp h3).symm
    refine ⟨_, _, this, Nat.sub_le _ _, fun x hx a e => ?_, fun v => ?_⟩
    · rw [ed] at hx; cases e; exact h1 x hx
    · rw [ed, lo_some, lo_some]; exact h2 v
theorem hi_loop (gs : List Int) (l high : Option Int) (s : Nat) (hs : s ≤ gs.length) (ha : gs.Pairwise (· < ·)) (hl : ∀ x ∈ gs, HiOk high x) (hn : gs.length < 1000000) : ∃ (h1 : Option Int) (e : Nat), whL (m_one_form_w2 gs (l, (s : Int))) m_one_form_b2 1000000 (high, (gs.length : Int)) = some (.nx (h1, (e : Int))) ∧ s ≤ e ∧ e ≤ gs.length ∧
    (∀ x ∈ (gs.take e).drop s, ∀ a, h1 = some a → x < a) ∧ (∀ v, (HiOk h1 v ∧ v ∉ (gs.take e).drop s) ↔ (HiOk high v ∧ v ∉ gs.drop s)) := by
  cases high with
  | none =>
    refine ⟨none, gs.length, whL_end ?_, hs, Nat.le_refl _, (fun x _ a h => nomatch h), fun v => by rw [List.take_length]⟩
    by_cases h : s < gs.length
    · exact w2_in h (List.getElem?_eq_getElem (by omega))
    · exact w2_out (by omega)
  | some h =>
    have hr : (gs.drop s).reverse.Pairwise (· > ·) := by
      rw [List.pairwise_reverse]
      exact (ha.sublist (List.drop_sublist s gs)).imp fun q => q
    obtain ⟨h1, h2, h3⟩ := stripD_ok (gs.drop s).reverse h hr fun x hx => hi_some.mp (hl x (List.mem_of_mem_drop (List.mem_reverse.mp hx)))
    have := wh2 gs l s 1000000 h gs.length (by omega) hs (Nat.le_refl _)
    rw [List.take_length] at this
    have hle : (stripD h (gs.drop s).reverse).2.length ≤ gs.length - s := by
      have := h3.length_le
      rw [List.length_reverse, List.length_drop] at this; exact this
    have ed : (gs.take (s + (stripD h (gs.drop s).reverse).2.length)).drop s = (stripD h (gs.drop s).reverse).2.reverse := by
      rw [List.drop_take, Nat.add_sub_cancel_left]
      obtain ⟨p, hp⟩ := h3
      have e2 : gs.drop s = (stripD h (gs.drop s).reverse).2.reverse ++ p.reverse := by
        rw [← List.reverse_append, hp, List.reverse_reverse]
      have e3 : ∀ m : List Int, m = (stripD h (gs.drop s).reverse).2.reverse ++ p.reverse → m.take (stripD h (gs.drop s).reverse).2.length = (stripD h (gs.drop s).reverse).2.reverse := fun m em => by
        rw [em]; exact List.take_left' (by rw [List.length_reverse])
      exact e3 _ e2
    refine ⟨_, _, this, by omega, by omega, fun x hx a e => ?_, fun v => ?_⟩
    · rw [ed] at hx; cases e; exact h1 x (List.mem_reverse.mp hx)
    · rw [ed, hi_some, hi_some, List.mem_reverse]
      have := h2 v
      rw [List.mem_reverse] at this
      exact this
theorem cut_nat (gs : List Int) {s e : Nat} (h1 : s ≤ e) (h2 : e ≤ gs.length) : cut gs (some (s : Int)) (some (e : Int)) = (gs.take e).drop s := by
  unfold cut
  rw [List.drop_take]
  simp only [HT.sIx_nat, Nat.min_eq_left (show s ≤ gs.length by omega), Nat.min_eq_left h2]
/-- how many numbers may be left out -/
def OkW (ws : List Int) : Prop := ws.length < 1000 ∧ ∀ gs : List Int, gs.Pairwise (· < ·) → (∀ x ∈ gs, x ∈ ws) → gs.length < 64
theorem form_ok (low high : Option Int) (ws : List Int) (hw : OkW ws) : ∃ l h w, m_one_form low high ws = some (l, h, w) ∧ Fm l h w ∧ (∀ x ∈ w, x ∈ ws) ∧ ∀ v, Mem l h w v ↔ Mem low high ws v := by
  unfold m_one_form
  have hf : compL (m_one_form_c1 low high) ws = some ((ws.filter (btw low high)).map id) := compL_fil fun x _ => by
    unfold m_one_form_c1
    simp only [between_ok, bindO_s, letO_s]
    cases btw low high x <;> rfl
  have hgl : (sset (ws.filter (btw low high))).length < 64 := hw.2 _ (sset_asc _) fun x hx => (List.mem_filter.mp (sset_mem.mp hx)).1
  have hss : pySS2 ((ws.filter (btw low high)).map id) = some (sset (ws.filter (btw low high))) := by rw [List.map_id]; exact if_pos ⟨Nat.lt_of_le_of_lt (List.length_filter_le _ _) hw.1, hgl⟩
  have hm : ∀ v, v ∈ sset (ws.filter (btw low high)) ↔ v ∈ ws ∧ LoOk low v ∧ HiOk high v := fun v => by rw [sset_mem, List.mem_filter, btw_iff]
  have hasc := sset_asc (ws.filter (btw low high))
  generalize sset (ws.filter (btw low high)) = gs at hss hgl hm hasc
  obtain ⟨l1, s, e1, hs, a1, b1⟩ := lo_loop gs low hasc (fun x hx => ((hm x).mp hx).2.1) (by omega)
  obtain ⟨h1, e, e2, hse, he, a2, b2⟩ := hi_loop gs l1 high s hs hasc (fun x hx => ((hm x).mp hx).2.2) (by omega)
  simp only [hf, bindO_s, hss, letO_s, e1, stepO_N, e2]
  have hmem : ∀ v, Mem l1 h1 ((gs.take e).drop s) v ↔ Mem low high ws v := fun v => by
    have q1 := b1 v
    have q2 := b2 v
    have q3 := hm v
    unfold Mem
    constructor
    · rintro ⟨x1, x2, x3⟩
      obtain ⟨y1, y2⟩ := q2.mp ⟨x2, x3⟩
      obtain ⟨z1, z2⟩ := q1.mp ⟨x1, y2⟩
      exact ⟨z1, y1, fun z => z2 (q3.mpr ⟨z, z1, y1⟩)⟩
    · rintro ⟨x1, x2, x3⟩
      obtain ⟨y1, y2⟩ := q1.mpr ⟨x1, fun z => x3 (q3.mp z).1⟩
      obtain ⟨z1, z2⟩ := q2.mpr ⟨x2, y2⟩
      exact ⟨y1, z1, z2⟩
  have hpw : ((gs.take e).drop s).Pairwise (· < ·) := hasc.sublist ((List.drop_sublist _ _).trans (List.take_sublist _ _))
  have hsub : ∀ x ∈ (gs.take e).drop s, x ∈ gs.drop s := fun x hx => by
    rw [List.drop_take] at hx
    exact List.mem_of_mem_take hx
  have fin : (∀ a b, l1 = some a → h1 = some b → a ≤ b) → Fm l1 h1 ((gs.take e).drop s) := fun hab => .inl ⟨hpw, fun x hx => ⟨fun a ea => a1 x (hsub x hx) a ea, fun b eb => a2 x hx b eb⟩, hab⟩
  rw [cut_nat gs hse he]
  have hlen : ∀ x ∈ (gs.take e).drop s, x ∈ ws := fun x hx => ((hm x).mp (List.mem_of_mem_take (List.mem_of_mem_drop hx))).1
  cases l1 with
  | none => exact ⟨_, _, _, rfl, fin ((fun _ _ h => nomatch h)), hlen, hmem⟩
  | some a =>
    cases h1 with
    | none => exact ⟨_, _, _, rfl, fin ((fun _ _ _ h => nomatch h)), hlen, hmem⟩
    | some b =>
      show ∃ l h w, bindO (some (decide (b < a))) _ = _ ∧ _
      rw [bindO_s]
      by_cases hab : b < a
      · rw [decide_eq_true hab]
        refine ⟨_, _, _, rfl, .inr ⟨rfl, rfl, rfl⟩, (fun _ z => nomatch z), fun v => ?_⟩
        rw [← hmem v]
        unfold Mem
        rw [lo_some, hi_some, lo_some, hi_some]
        constructor
        · rintro ⟨x, y, _⟩; omega
        · rintro ⟨x, y, _⟩; omega
      · rw [decide_eq_false hab]
        exact ⟨_, _, _, rfl, fin (fun x y e1 e2 => by cases e1; cases e2; omega), hlen, hmem⟩
/-! ### the object -/
abbrev Rg := Option Int × Option Int × List Int × Option Int × Option Int × List (Int × Bool)
def szR (l h : Option Int) (w : List Int) : Option Int := match l, h with
  | some a, some b => some (b - a + 1 - (w.length : Int))
  | _, _ => none
def mkR (l h : Option Int) (w : List Int) : Rg := (l, h, w, szR l h w, (if szR l h w = some 1 then l else none), w.map fun x => (x, true))
theorem size_ok (l h : Option Int) (w : List Int) : m_size_of l h w = some (szR l h w) := by
  cases l <;> cases h <;> rfl
theorem putM_new {d : List (Int × Bool)} {x : Int} (h : ∀ p ∈ d, p.1 ≠ x) : putM d x true = d ++ [(x, true)] := by
  induction d with
  | nil => rfl
  | cons p ps ih =>
    have h1 := h p List.mem_cons_self
    have h2 := ih fun q hq => h q (List.mem_cons_of_mem _ hq)
    first
    | (unfold putM; rw [if_neg h1, h2]; rfl)
    | (unfold putM at h2 ⊢; simp_all)
theorem dict_ok : ∀ (w : List Int) (d : List (Int × Bool)), w.Pairwise (· < ·) → (∀ x ∈ w, ∀ p ∈ d, p.1 ≠ x) → compD m_Region___init_c1 w d = some (d ++ w.map fun x => (x, true))
  | [], d, _, _ => by rw [List.map_nil, List.append_nil]; rfl
  | x :: xs, d, hp, hd => by
    have hp' := List.pairwise_cons.mp hp
    show compD m_Region___init_c1 xs (putM d x true) = _
    rw [putM_new (hd x List.mem_cons_self), dict_ok xs _ hp'.2 fun y hy p hpp => ?_, List.append_assoc]
    · rfl
    · rcases List.mem_append.mp hpp with h | h
      · exact hd y (List.mem_cons_of_mem _ hy) p h
      · rw [List.mem_singleton.mp h]
        have := hp'.1 y hy
        show x ≠ y
        omega
theorem fm_asc {l h : Option Int} {w : List Int} (f : Fm l h w) : w.Pairwise (· < ·) := by
  rcases f with f | ⟨_, _, rfl⟩
  · exact f.1
  · exact .nil
theorem init_ok (low high : Option Int) (ws : List Int) (hw : OkW ws) : ∃ l h w, m_Region___init low high ws = some (mkR l h w) ∧ Fm l h w ∧ (∀ x ∈ w, x ∈ ws) ∧ ∀ v, Mem l h w v ↔ Mem low high ws v := by
  obtain ⟨l, h, w, e, f, n, m⟩ := form_ok low high ws hw
  refine ⟨l, h, w, ?_, f, n, m⟩
  unfold m_Region___init
  simp only [e, bindO_s, letO_s, size_ok, dict_ok w [] (fm_asc f) ((fun _ _ _ z => nomatch z)), List.nil_append]
  unfold mkR
  by_cases h1 : szR l h w = some 1
  · rw [h1, decide_eq_true rfl]; rfl
  · rw [decide_eq_false h1, if_neg h1]; rfl
theorem dict_in (w : List Int) (v : Int) : (getM (w.map fun x => (x, true)) v).isSome = decide (v ∈ w) := by
  unfold getM
  rw [Option.isSome_map]
  induction w with
  | nil => rfl
  | cons x xs ih =>
    rw [List.map_cons]
    by_cases h : x = v
    · rw [List.find?_cons_of_pos (by simpa using h)]
      subst h; simp
    · rw [List.find?_cons_of_neg (by simpa using h), ih]
      have h' : ¬ v = x := fun e => h e.symm
      simp [h']
/-! ### one form: equal members, equal ends -/
theorem below (w : List Int) (c : Int) : ∃ v, v ≤ c ∧ ∀ x ∈ w, v < x := by
  induction w with
  | nil => exact ⟨c, Int.le_refl _, (fun _ h => nomatch h)⟩
  | cons x xs ih =>
    obtain ⟨v, h1, h2⟩ := ih
    refine ⟨min v (x - 1), by omega, fun y hy => ?_⟩
    rcases List.mem_cons.mp hy with rfl | hy
    · omega
    · have := h2 y hy; omega
theorem above (w : List Int) (c : Int) : ∃ v, c ≤ v ∧ ∀ x ∈ w, x < v := by
  induction w with
  | nil => exact ⟨c, Int.le_refl _, (fun _ h => nomatch h)⟩
  | cons x xs ih =>
    obtain ⟨v, h1, h2⟩ := ih
    refine ⟨max v (x + 1), by omega, fun y hy => ?_⟩
    rcases List.mem_cons.mp hy with rfl | hy
    · omega
    · have := h2 y hy; omega
theorem low_mem {a : Int} {h : Option Int} {w : List Int} (f : NF (some a) h w) : Mem (some a) h w a :=
  ⟨lo_some.mpr (Int.le_refl _), fun b eb => f.2.2 a b rfl eb, fun z => by have := (f.2.1 a z).1 a rfl; omega⟩
theorem high_mem {l : Option Int} {b : Int} {w : List Int} (f : NF l (some b) w) : Mem l (some b) w b :=
  ⟨fun a ea => f.2.2 a b ea rfl, hi_some.mpr (Int.le_refl _), fun z => by have := (f.2.1 b z).2 b rfl; omega⟩
theorem far_low {h : Option Int} {w : List Int} (c : Int) : ∃ v, v ≤ c ∧ Mem none h w v := by
  obtain ⟨v, h1, h2⟩ := below w (match h with | none => c | some b => min b c)
  refine ⟨v, ?_, lo_none _, fun b eb => ?_, fun z => by have := h2 v z; omega⟩
  · cases h with
    | none => exact h1
    | some b => have h1 : v ≤ min b c := h1; omega
  · subst eb
    have h1 : v ≤ min b c := h1
    omega
theorem far_high {l : Option Int} {w : List Int} (c : Int) : ∃ v, c ≤ v ∧ Mem l none w v := by
  obtain ⟨v, h1, h2⟩ := above w (match l with | none => c | some b => max b c)
  refine ⟨v, ?_, fun a ea => ?_, hi_none _, fun z => by have := h2 v z; omega⟩
  · cases l with
    | none => exact h1
    | some b => have h1 : max b c ≤ v := h1; omega
  · subst ea
    have h1 : max a c ≤ v := h1
    omega
theorem nf_some {l h : Option Int} {w : List Int} (f : NF l h w) : ∃ v, Mem l h w v := by
  cases l with
  | some a => exact ⟨a, low_mem f⟩
  | none =>
    obtain ⟨v, _, h⟩ := far_low (h := h) (w := w) 0
    exact ⟨v, h⟩
theorem no_mem (v : Int) : ¬ Mem (some 1) (some 0) [] v := fun ⟨a, b, _⟩ => by
  have := lo_some.mp a
  have := hi_some.mp b
  omega
theorem uniq {l h l' h' : Option Int} {w w' : List Int} (f : Fm l h w) (f' : Fm l' h' w') (m : ∀ v, Mem l h w v ↔ Mem l' h' w' v) : l = l' ∧ h = h' ∧ w = w' := by
  rcases f with f | ⟨rfl, rfl, rfl⟩
  · rcases f' with f' | ⟨rfl, rfl, rfl⟩
    · have el : l = l' := by
        cases l with
        | none => cases l' with
          | none => rfl
          | some a =>
            obtain ⟨v, h1, h2⟩ := far_low (h := h) (w := w) (a - 1)
            have := lo_some.mp ((m v).mp h2).1
            omega
        | some a => cases l' with
          | none =>
            obtain ⟨v, h1, h2⟩ := far_low (h := h') (w := w') (a - 1)
            have := lo_some.mp ((m v).mpr h2).1
            omega
          | some a' =>
            have h1 := lo_some.mp ((m a).mp (low_mem f)).1
            have h2 := lo_some.mp ((m a').mpr (low_mem f')).1
            congr 1; omega
      have eh : h = h' := by
        cases h with
        | none => cases h' with
          | none => rfl
          | some a =>
            obtain ⟨v, h1, h2⟩ := far_high (l := l) (w := w) (a + 1)
            have := hi_some.mp ((m v).mp h2).2.1
            omega
        | some a => cases h' with
          | none =>
            obtain ⟨v, h1, h2⟩ := far_high (l := l') (w := w') (a + 1)
            have := hi_some.mp ((m v).mpr h2).2.1
            omega
          | some a' =>
            have h1 := hi_some.mp ((m a).mp (high_mem f)).2.1
            have h2 := hi_some.mp ((m a').mpr (high_mem f')).2.1
            congr 1; omega
      subst el
      subst eh
      refine ⟨rfl, rfl, asc_eq f.1 f'.1 fun z => ⟨fun hz => ?_, fun hz => ?_⟩⟩
      · by_cases hz' : z ∈ w'
        · exact hz'
        · have q := f.2.1 z hz
          exact absurd hz ((m z).mpr ⟨fun a ea => Int.le_of_lt (q.1 a ea), fun b eb => Int.le_of_lt (q.2 b eb), hz'⟩).2.2
      · by_cases hz' : z ∈ w
        · exact hz'
        · have q := f'.2.1 z hz
          exact absurd hz ((m z).mp ⟨fun a ea => Int.le_of_lt (q.1 a ea), fun b eb => Int.le_of_lt (q.2 b eb), hz'⟩).2.2
    · obtain ⟨v, hv⟩ := nf_some f
      exact absurd ((m v).mp hv) (no_mem v)
  · rcases f' with f' | ⟨rfl, rfl, rfl⟩
    · obtain ⟨v, hv⟩ := nf_some f'
      exact absurd ((m v).mpr hv) (no_mem v)
    · exact ⟨rfl, rfl, rfl⟩
/-! ### data -/
theorem lay_nil : PyData.canLayAll0 [] = true := by simp [PyData.canLayAll0]
theorem lay_cons {x : PyData} {xs : List PyData} (h : x.canLay0 = true) (h2 : PyData.canLayAll0 xs = true) : PyData.canLayAll0 (x :: xs) = true := by simp [PyData.canLayAll0, h, h2]
theorem lay_tup {xs : List PyData} (h : PyData.canLayAll0 xs = true) : PyData.canLay0 (.tuple xs) = true := by simpa [PyData.canLay0] using h
theorem lay_list {xs : List PyData} (h : PyData.canLayAll0 xs = true) : PyData.canLay0 (.list xs) = true := by simpa [PyData.canLay0] using h
theorem lay_int (i : Int) : PyData.canLay0 (.int i) = true := by simp [PyData.canLay0]
theorem lay_none : PyData.canLay0 .none = true := by simp [PyData.canLay0]
theorem lay_bool (b : Bool) : PyData.canLay0 (.bool b) = true := by simp [PyData.canLay0]
theorem lay_opt (o : Option Int) : PyData.canLay0 (dOpt PyData.int o) = true := by
  cases o with
  | none => exact lay_none
  | some i => exact lay_int i
theorem lay_ints : ∀ l : List Int, PyData.canLayAll0 (l.map PyData.int) = true
  | [] => lay_nil
  | x :: xs => lay_cons (lay_int x) (lay_ints xs)
theorem dep_opt (o : Option Int) : (dOpt PyData.int o).depth = 0 := by cases o <;> simp [dOpt, PyData.depth]
theorem dep_ints : ∀ l : List Int, PyData.depthAll (l.map PyData.int) = 0
  | [] => by simp [PyData.depthAll]
  | x :: xs => by simp [PyData.depthAll, PyData.depth, dep_ints xs]
theorem eq_some {d e : PyData} (h : d.canLay0 = true) (hd : d.depth ≤ 64) (h2 : e.canLay0 = true) (he : e.depth ≤ 64) : pyEq d e = some (PyData.eqv d e) := by
  unfold pyEq
  have hs : ∀ d : PyData, d.canLay0 = true → d.depth ≤ 64 → SeqAt.shaped d = true := fun d h hd => by
    unfold SeqAt.shaped
    rw [h, decide_eq_true hd]; rfl
  rw [if_pos ⟨hs d h hd, hs e h2 he⟩]
theorem eqv_int (i j : Int) : PyData.eqv (.int i) (.int j) = decide (i = j) := by
  simp only [PyData.eqv]
  by_cases h : i = j <;> simp [h]
theorem eqv_opt (o p : Option Int) : PyData.eqv (dOpt PyData.int o) (dOpt PyData.int p) = decide (o = p) := by
  cases o with
  | none => cases p with
    | none => simp [dOpt, PyData.eqv]
    | some j => simp [dOpt, PyData.eqv]
  | some i => cases p with
    | none => simp [dOpt, PyData.eqv]
    | some j =>
      show PyData.eqv (.int i) (.int j) = _
      rw [eqv_int]
      by_cases h : i = j <;> simp [h]
theorem eqvAll_ints : ∀ a b : List Int, PyData.eqvAll (a.map PyData.int) (b.map PyData.int) = decide (a = b)
  | [], [] => by simp [PyData.eqvAll]
  | [], y :: ys => by simp [PyData.eqvAll]
  | x :: xs, [] => by simp [PyData.eqvAll]
  | x :: xs, y :: ys => by
    rw [List.map_cons, List.map_cons, PyData.eqvAll, eqv_int, eqvAll_ints xs ys]
    by_cases h : x = y <;> by_cases h2 : xs = ys <;> simp [h, h2]
theorem eq_tpl (a b : List Int) : pyEq (dTpl PyData.int a) (dTpl PyData.int b) = some (decide (a = b)) := by
  refine (eq_some (lay_tup (lay_ints _)) (by simp [PyData.depth, dep_ints]) (lay_tup (lay_ints _)) (by simp [PyData.depth, dep_ints])).trans (congrArg some ?_)
  show PyData.eqv (.tuple _) (.tuple _) = _
  simp only [PyData.eqv]
  exact eqvAll_ints a b
theorem eq_lst (a b : List Int) : pyEq (dLst PyData.int a) (dLst PyData.int b) = some (decide (a = b)) := by
  refine (eq_some (lay_list (lay_ints _)) (by simp [PyData.depth, dep_ints]) (lay_list (lay_ints _)) (by simp [PyData.depth, dep_ints])).trans (congrArg some ?_)
  show PyData.eqv (.list _) (.list _) = _
  simp only [PyData.eqv]
  exact eqvAll_ints a b
theorem eq_nil {α : Type} (d : α → PyData) (l : List α) (h : PyData.canLayAll0 (l.map d) = true) (hd : PyData.depthAll (l.map d) ≤ 60) : pyEq (dLst d l) (dHls dw0 ()) = some l.isEmpty := by
  refine (eq_some (lay_list h) (by show (PyData.list (l.map d)).depth ≤ 64; simp only [PyData.depth]; omega) (lay_list lay_nil) (by show (PyData.list []).depth ≤ 64; simp [PyData.depth, PyData.depthAll])).trans (congrArg some ?_)
  show PyData.eqv (.list (l.map d)) (.list []) = _
  simp only [PyData.eqv]
  cases l with
  | nil => simp [PyData.eqvAll]
  | cons x xs => simp [PyData.eqvAll]
theorem eq_ints_nil (l : List Int) : pyEq (dLst PyData.int l) (dHls dw0 ()) = some l.isEmpty := eq_nil _ l (lay_ints l) (by rw [dep_ints]; decide)
end Law

set_option maxHeartbeats 4000000
namespace Law
open PySem L2 G
theorem eq_ok {l1 h1 l2 h2 : Option Int} {w1 w2 : List Int} (f1 : Fm l1 h1 w1) (f2 : Fm l2 h2 w2) : ∃ b, m_Region___eq (mkR l1 h1 w1) (mkR l2 h2 w2) = some b ∧ (b = true ↔ ∀ v, Mem l1 h1 w1 v ↔ Mem l2 h2 w2 v) := by
  have key : m_Region___eq (mkR l1 h1 w1) (mkR l2 h2 w2) = some (decide (l1 = l2) && (decide (h1 = h2) && decide (w1 = w2))) := by
    unfold m_Region___eq
    show bindO (iteO true (bindO (iteO (decide (l1 = l2)) (bindO (iteO (decide (h1 = h2)) (bindO (pyEq (dTpl PyData.int w1) (dTpl PyData.int w2)) fun q1 => some q1) (some false)) fun b2 => some b2) (some false)) fun b4 => some b4) (some false)) (fun b6 => some b6) = _
    rw [eq_tpl]
    cases decide (l1 = l2) <;> cases decide (h1 = h2) <;> rfl
  refine ⟨_, key, ?_⟩
  rw [Bool.and_eq_true, Bool.and_eq_true, decide_eq_true_eq, decide_eq_true_eq, decide_eq_true_eq]
  constructor
  · rintro ⟨rfl, rfl, rfl⟩ v; exact Iff.rfl
  · exact fun h => uniq f1 f2 h
end Law

set_option maxHeartbeats 4000000
/-! # meets, equality, within -/
namespace Law
open PySem L2 G
theorem meet_ok {l1 h1 l2 h2 : Option Int} {w1 w2 : List Int} (hw : OkW (w1 ++ w2)) : ∃ l h w, m_meet [mkR l1 h1 w1, mkR l2 h2 w2] = some (mkR l h w) ∧ Fm l h w ∧ (∀ x ∈ w, x ∈ w1 ++ w2) ∧ ∀ v, Mem l h w v ↔ Mem l1 h1 w1 v ∧ Mem l2 h2 w2 v := by
  have e3 : comp2 m_meet_ci3 m_meet_c4 [mkR l1 h1 w1, mkR l2 h2 w2] = some (w1 ++ w2) := by
    have e : ∀ (g : Rg) (w : List Int), compL (m_meet_c4 g) w = some w := fun g w => by
      have := compL_all (f := m_meet_c4 g) (g := fun x => x) (xs := w) fun x _ => rfl
      rw [List.map_id'] at this; exact this
    unfold comp2
    have e2 : compL2 m_meet_ci3 m_meet_c4 [mkR l1 h1 w1, mkR l2 h2 w2] = some (w1 ++ (w2 ++ [])) := by
      show bindO (some w1) _ = _
      rw [bindO_s, e, bindO_s]
      show bindO (bindO (some w2) _) _ = _
      rw [bindO_s, e, bindO_s]
      rfl
    rw [e2, bindO_s, List.append_nil, if_pos (by have := hw.1; omega)]
  obtain ⟨lo, e1, m1⟩ : ∃ lo, (bindO (compL m_meet_c1 [mkR l1 h1 w1, mkR l2 h2 w2]) fun l => some (pyMaxN l)) = some lo ∧ ∀ v, LoOk lo v ↔ LoOk l1 v ∧ LoOk l2 v := by
    cases l1 with
    | none => cases l2 with
      | none => exact ⟨_, rfl, fun v => ⟨fun h => ⟨h, h⟩, fun h => h.1⟩⟩
      | some b => exact ⟨_, rfl, fun v => ⟨fun h => ⟨lo_none _, h⟩, fun h => h.2⟩⟩
    | some a => cases l2 with
      | none => exact ⟨_, rfl, fun v => ⟨fun h => ⟨h, lo_none _⟩, fun h => h.1⟩⟩
      | some b =>
        refine ⟨some (max a b), rfl, fun v => ?_⟩
        rw [lo_some, lo_some, lo_some]; omega
  obtain ⟨hi, e2, m2⟩ : ∃ hi, (bindO (compL m_meet_c2 [mkR l1 h1 w1, mkR l2 h2 w2]) fun l => some (pyMinN l)) = some hi ∧ ∀ v, HiOk hi v ↔ HiOk h1 v ∧ HiOk h2 v := by
    cases h1 with
    | none => cases h2 with
      | none => exact ⟨_, rfl, fun v => ⟨fun h => ⟨h, h⟩, fun h => h.1⟩⟩
      | some b => exact ⟨_, rfl, fun v => ⟨fun h => ⟨hi_none _, h⟩, fun h => h.2⟩⟩
    | some a => cases h2 with
      | none => exact ⟨_, rfl, fun v => ⟨fun h => ⟨h, hi_none _⟩, fun h => h.1⟩⟩
      | some b =>
        refine ⟨some (min a b), rfl, fun v => ?_⟩
        rw [hi_some, hi_some, hi_some]; omega
  obtain ⟨x1, y1, e1⟩ := bindO_some e1
  obtain ⟨x2, y2, e2⟩ := bindO_some e2
  cases e1
  cases e2
  obtain ⟨l, h, w, e, f, n, m⟩ := init_ok (pyMaxN x1) (pyMinN x2) (w1 ++ w2) hw
  refine ⟨l, h, w, ?_, f, n, fun v => (m v).trans ?_⟩
  · unfold m_meet
    simp only [y1, y2, e3, bindO_s, letO_s, e]
  · unfold Mem
    rw [m1, m2, List.mem_append]
    constructor
    · rintro ⟨⟨a, b⟩, ⟨c, d⟩, e⟩; exact ⟨⟨a, c, fun z => e (.inl z)⟩, b, d, fun z => e (.inr z)⟩
    · rintro ⟨⟨a, b, c⟩, d, e, f⟩; exact ⟨⟨a, d⟩, ⟨b, e⟩, fun z => z.elim c f⟩
end Law

set_option maxHeartbeats 4000000
namespace Law
open PySem L2 G
theorem contains_ok (l h : Option Int) (w : List Int) (v : Int) : m_Region___contains (mkR l h w) v = some (mb l h w v) := by
  unfold m_Region___contains
  have e : (mkR l h w).2.2.2.2.2 = w.map fun x => (x, true) := rfl
  rw [e, dict_in]
  show bindO (m_between l h v) _ = _
  rw [between_ok]; rfl
end Law

set_option maxHeartbeats 4000000
namespace Law
open PySem L2 G
theorem asc_len : ∀ (w : List Int) (a b : Int), w.Pairwise (· < ·) → (∀ x ∈ w, a < x ∧ x < b) → w.length ≤ (b - a - 1).toNat
  | [], _, _, _, _ => Nat.zero_le _
  | x :: xs, a, b, hp, h => by
    have hp' := List.pairwise_cons.mp hp
    have hx := h x List.mem_cons_self
    have := asc_len xs x b hp'.2 fun y hy => ⟨hp'.1 y hy, (h y (List.mem_cons_of_mem _ hy)).2⟩
    rw [List.length_cons]
    omega
/-- what the size says -/
theorem size_zero {l h : Option Int} {w : List Int} (f : Fm l h w) : szR l h w = some 0 ↔ (l = some 1 ∧ h = some 0) := by
  rcases f with f | ⟨rfl, rfl, rfl⟩
  · cases l with
    | none => simp [szR]
    | some a => cases h with
      | none => simp [szR]
      | some b =>
        have hab := f.2.2 a b rfl rfl
        have hl := asc_len w a b f.1 fun x hx => ⟨(f.2.1 x hx).1 a rfl, (f.2.1 x hx).2 b rfl⟩
        show some (b - a + 1 - (w.length : Int)) = some 0 ↔ _
        constructor
        · intro e; injection e with e; omega
        · rintro ⟨e1, e2⟩; cases e1; cases e2; omega
  · simp [szR]
theorem size_one {l h : Option Int} {w : List Int} (f : Fm l h w) (hz : ¬ (l = some 1 ∧ h = some 0)) : szR l h w = some 1 ↔ (l.isSome = true ∧ l = h) := by
  rcases f with f | ⟨rfl, rfl, rfl⟩
  · cases l with
    | none => simp [szR]
    | some a => cases h with
      | none => simp [szR]
      | some b =>
        have hab := f.2.2 a b rfl rfl
        have hl := asc_len w a b f.1 fun x hx => ⟨(f.2.1 x hx).1 a rfl, (f.2.1 x hx).2 b rfl⟩
        show some (b - a + 1 - (w.length : Int)) = some 1 ↔ _
        constructor
        · intro e; injection e with e
          have : a = b := by omega
          rw [this]; exact ⟨rfl, rfl⟩
        · rintro ⟨_, e2⟩; cases e2
          congr 1; omega
  · exact absurd ⟨rfl, rfl⟩ hz
end Law

set_option maxHeartbeats 4000000
/-! # the mathematics of k07 -/
namespace G
theorem forL_inv {α ρ ς : Type} {f : α → ς → Option (Step ρ ς)} (P : Nat → ς → Prop) : ∀ {xs : List α} {s : ς} {k : Nat}, P k s → (∀ (i : Nat) (x : α) (s : ς), xs[i]? = some x → P (k + i) s → ∃ s', f x s = some (.nx s') ∧ P (k + i + 1) s') → ∃ s', forL f xs s = some (.nx s') ∧ P (k + xs.length) s'
  | [], s, k, h, _ => ⟨s, rfl, h⟩
  | x :: xs, s, k, h, st => by
    obtain ⟨s1, e1, h1⟩ := st 0 x s rfl h
    obtain ⟨s2, e2, h2⟩ := forL_inv (xs := xs) (k := k + 1) P h1 fun i y s' hy hp => by
      have q := st (i + 1) y s' (by simpa using hy) (by rw [show k + (i + 1) = k + 1 + i by omega]; exact hp)
      rw [show k + (i + 1) + 1 = k + 1 + i + 1 by omega] at q
      exact q
    refine ⟨s2, ?_, by rw [List.length_cons, show k + (xs.length + 1) = k + 1 + xs.length by omega]; exact h2⟩
    unfold forL
    rw [e1]
    exact e2
end G
namespace Law
open PySem L2 G
theorem at_some {α : Type} {l : List α} {i : Int} (h0 : 0 ≤ i) (h : i < (l.length : Int)) : ∃ x, atI l i = some x := by
  unfold atI ixN
  rw [if_pos h0, if_pos h]
  exact ⟨l[i.toNat]'(by omega), by rw [Option.bind_some]; exact List.getElem?_eq_getElem (by omega)⟩
theorem at_mem {α : Type} {l : List α} {i : Int} {x : α} (h : atI l i = some x) : x ∈ l := by
  unfold atI at h
  cases q : ixN l.length i with
  | none => rw [q] at h; cases h
  | some j => rw [q] at h; exact List.mem_of_getElem? h
theorem rng_nat {n : Nat} (h : n ≤ 1000) : pyRng (n : Int) = some (rng 0 n) := by
  have : pyRng (n : Int) = some (rng 0 (n : Int).toNat) := if_pos ⟨by omega, by omega⟩
  rw [this, Int.toNat_natCast]
theorem mem_rng {lo v : Int} {n : Nat} : v ∈ rng lo n ↔ lo ≤ v ∧ v < lo + (n : Int) := by
  unfold rng
  rw [List.mem_map]
  constructor
  · rintro ⟨i, hi, rfl⟩
    have := List.mem_range.mp hi
    omega
  · intro ⟨h1, h2⟩
    exact ⟨(v - lo).toNat, List.mem_range.mpr (by omega), by omega⟩
theorem rng_asc (lo : Int) (n : Nat) : (rng lo n).Pairwise (· < ·) := by
  unfold rng
  rw [List.pairwise_map]
  exact List.pairwise_lt_range.imp fun h => by omega
theorem forL_cons {α ρ ς : Type} (f : α → ς → Option (Step ρ ς)) (x : α) (xs : List α) (s : ς) : forL f (x :: xs) s = (match f x s with
    | none => none
    | some (.nx s') => forL f xs s'
    | some (.brk s') => some (.nx s')
    | some (.ret b) => some (.ret b)) := rfl
theorem forL_same {α ρ ς : Type} {f : α → ς → Option (Step ρ ς)} {s : ς} : ∀ {xs : List α}, (∀ x ∈ xs, f x s = some (.nx s)) → forL f xs s = some (.nx s)
  | [], _ => rfl
  | x :: xs, h => by
    rw [forL_cons, h x List.mem_cons_self]
    exact forL_same fun y hy => h y (List.mem_cons_of_mem _ hy)
theorem cat_some {l m : List Int} (h : l.length + m.length ≤ 1000) : pyCat l m = some (l ++ m) := if_pos (by first | omega | exact Nat.le_trans h (by decide))
theorem app_some {α : Type} {l : List α} {x : α} (h : l.length < 1000) : pyApp l x = some (l ++ [x]) := if_pos (by omega)
theorem cut_to {α : Type} (l : List α) (k : Nat) : cut l none (some (k : Int)) = l.take k := by
  unfold cut
  rw [HT.sIx_nat, HT.sIx_none, List.drop_zero, Nat.sub_zero]
  by_cases h : k ≤ l.length
  · rw [Nat.min_eq_left h]
  · rw [Nat.min_eq_right (by omega), List.take_of_length_le (Nat.le_refl _), List.take_of_length_le (by omega)]
/-! ### conditions -/
inductive Kd | eq | ne | lt | le | gt | ge
  deriving DecidableEq
def sg : Kd → Str
  | .eq => Str.ofString "="
  | .ne => Str.ofString "!="
  | .lt => Str.ofString "<"
  | .le => Str.ofString "<="
  | .gt => Str.ofString ">"
  | .ge => Str.ofString ">="
abbrev Cd := Kd × Int
def enc (c : Cd) : Str × Int := (sg c.1, c.2)
theorem s_eq (k : Kd) : decide (sg k = Str.ofString "=") = decide (k = .eq) := by cases k <;> decide +kernel
theorem s_ne (k : Kd) : decide (sg k = Str.ofString "!=") = decide (k = .ne) := by cases k <;> decide +kernel
theorem s_lt (k : Kd) : decide (sg k = Str.ofString "<") = decide (k = .lt) := by cases k <;> decide +kernel
theorem s_le (k : Kd) : decide (sg k = Str.ofString "<=") = decide (k = .le) := by cases k <;> decide +kernel
theorem s_gt (k : Kd) : decide (sg k = Str.ofString ">") = decide (k = .gt) := by cases k <;> decide +kernel
theorem s_ge (k : Kd) : decide (sg k = Str.ofString ">=") = decide (k = .ge) := by cases k <;> decide +kernel
theorem s_lo (k : Kd) : decide (sg k ∈ [(Str.ofString ">="), (Str.ofString "=")]) = decide (k = .ge ∨ k = .eq) := by cases k <;> decide +kernel
theorem s_hi (k : Kd) : decide (sg k ∈ [(Str.ofString "<="), (Str.ofString "=")]) = decide (k = .le ∨ k = .eq) := by cases k <;> decide +kernel
def lowOf (c : Cd) : Option Int := match c.1 with
  | .ge => some c.2
  | .eq => some c.2
  | .gt => some (c.2 + 1)
  | _ => none
def highOf (c : Cd) : Option Int := match c.1 with
  | .le => some c.2
  | .eq => some c.2
  | .lt => some (c.2 - 1)
  | _ => none
def holeOf (c : Cd) : Option Int := match c.1 with
  | .ne => some c.2
  | _ => none
def Sat (c : Cd) (v : Int) : Prop := LoOk (lowOf c) v ∧ HiOk (highOf c) v ∧ holeOf c ≠ some v
def AllS (cs : List Cd) (v : Int) : Prop := ∀ c ∈ cs, Sat c v
def holes (cs : List Cd) : List Int := cs.filterMap holeOf
theorem stands_ok (c : Cd) (v : Int) : ∃ b, m_l_stands v (sg c.1) c.2 = some b ∧ (b = true ↔ Sat c v) := by
  obtain ⟨k, n⟩ := c
  unfold m_l_stands Sat lowOf highOf holeOf
  simp only [letO_s, s_eq, s_ne, s_lt, s_le, s_gt]
  cases k with
  | eq => exact ⟨_, rfl, by simp [lo_some, hi_some]; omega⟩
  | ne => exact ⟨_, rfl, by simp [lo_none, hi_none]; exact ⟨fun h e => h e.symm, fun h e => h e.symm⟩⟩
  | lt => exact ⟨_, rfl, by simp [lo_none, hi_some]; omega⟩
  | le => exact ⟨_, rfl, by simp [lo_none, hi_some]⟩
  | gt => exact ⟨_, rfl, by simp [lo_some, hi_none]; omega⟩
  | ge => exact ⟨_, rfl, by simp [lo_some, hi_none]⟩
theorem all_ok (v : Int) : ∀ cs : List Cd, ∃ b, m_l_all (cs.map enc) v = some b ∧ (b = true ↔ AllS cs v) := fun cs => by
  have key : ∀ cs : List Cd, ∃ r b, forL (m_l_all_b1 v) (cs.map enc) () = some r ∧ (stepO r fun _ => some true) = some b ∧ (b = true ↔ AllS cs v) := fun cs => by
    induction cs with
    | nil => exact ⟨_, _, rfl, rfl, by simp [AllS]⟩
    | cons c cs ih =>
      obtain ⟨r, b, e1, e2, e3⟩ := ih
      obtain ⟨b0, e0, h0⟩ := stands_ok c v
      rw [List.map_cons, forL_cons]
      have e4 : m_l_all_b1 v (enc c) () = (if b0 = true then some (.nx ()) else some (.ret false)) := by
        unfold m_l_all_b1 enc
        rw [e0, bindO_s, letO_s]
        cases b0 <;> rfl
      rw [e4]
      have ha : AllS (c :: cs) v ↔ Sat c v ∧ AllS cs v := by simp [AllS]
      cases b0 with
      | true =>
        refine ⟨r, b, e1, e2, ?_⟩
        rw [ha, e3]
        exact ⟨fun h => ⟨h0.mp rfl, h⟩, fun h => h.2⟩
      | false =>
        refine ⟨_, false, rfl, rfl, ?_⟩
        rw [ha]
        exact ⟨fun h => (nomatch h), fun h => absurd (h0.mpr h.1) (by decide)⟩
  obtain ⟨r, b, e1, e2, e3⟩ := key cs
  refine ⟨b, ?_, e3⟩
  unfold m_l_all
  rw [e1, bindO_s]
  exact e2
/-! ### regions of conditions -/
def RG (L : List Int) (g : Rg) (P : Int → Prop) : Prop := ∃ l h w, g = mkR l h w ∧ Fm l h w ∧ (∀ x ∈ w, x ∈ L) ∧ ∀ v, Mem l h w v ↔ P v
theorem okw_nil : OkW [] := ⟨by decide, fun gs _ h => by
  cases gs with
  | nil => decide
  | cons x xs => exact absurd (h x List.mem_cons_self) (by simp)⟩
theorem okw_in {L ws : List Int} (hL : L.length < 64) (hl : ws.length < 1000) (h : ∀ x ∈ ws, x ∈ L) : OkW ws := ⟨hl, fun gs ha hs => Nat.lt_of_le_of_lt (nodup_len (asc_nodup ha) fun z hz => h z (hs z hz)) hL⟩
theorem rg_of {L : List Int} (c : Cd) (hc : ∀ n, holeOf c = some n → n ∈ L) : ∃ g, m_Region_of (sg c.1) c.2 = some (.ok g) ∧ RG L g (Sat c) := by
  have key : ∀ (lo hi : Option Int) (ws : List Int), OkW ws → (∀ x ∈ ws, x ∈ L) → ∃ g, m_Region___init lo hi ws = some g ∧ RG L g (Mem lo hi ws) := fun lo hi ws ho hs => by
    obtain ⟨l, h, w, e, f, n, m⟩ := init_ok lo hi ws ho
    exact ⟨_, e, l, h, w, rfl, f, fun x hx => hs x (n x hx), m⟩
  obtain ⟨k, n⟩ := c
  unfold m_Region_of
  simp only [letO_s, s_eq, s_ne, s_lt, s_le, s_gt, s_ge]
  have fin : ∀ (lo hi : Option Int) (g : Rg), RG L g (Mem lo hi []) → (∀ v, Mem lo hi [] v ↔ Sat (k, n) v) → RG L g (Sat (k, n)) := fun lo hi g ⟨l, h, w, e, f, m, q⟩ z => ⟨l, h, w, e, f, m, fun v => (q v).trans (z v)⟩
  have nl : ∀ (lo hi : Option Int) (v : Int), Mem lo hi [] v ↔ LoOk lo v ∧ HiOk hi v := fun lo hi v => by unfold Mem; simp
  have hn : ∀ x ∈ ([] : List Int), x ∈ L := fun x hx => nomatch hx
  cases k with
  | eq =>
    obtain ⟨g, e, r⟩ := key (some n) (some n) [] okw_nil hn
    have e' : m_Region___init___Vk (some n) (some n) [] = some g := e
    refine ⟨g, by rw [e']; rfl, fin _ _ g r fun v => ?_⟩
    rw [nl]; simp [Sat, lowOf, highOf, holeOf]
  | ne =>
    have hx : ∀ x ∈ [n], x ∈ L := fun x hx => by rw [List.mem_singleton.mp hx]; exact hc n rfl
    obtain ⟨g, e, l, h, w, rfl, f, m, q⟩ := key none none [n] ⟨by simp, fun gs ha hs => Nat.lt_of_le_of_lt (nodup_len (asc_nodup ha) hs) (by simp)⟩ hx
    refine ⟨_, by rw [e]; rfl, l, h, w, rfl, f, m, fun v => (q v).trans ?_⟩
    simp [Sat, Mem, lowOf, highOf, holeOf]
    exact fun _ _ => ⟨fun h e => h e.symm, fun h e => h e.symm⟩
  | lt =>
    obtain ⟨g, e, r⟩ := key none (some (n - 1)) [] okw_nil hn
    have e' : m_Region___init___Vk none (some (n - 1)) [] = some g := e
    refine ⟨g, by rw [e']; rfl, fin _ _ g r fun v => ?_⟩
    rw [nl]; simp [Sat, lowOf, highOf, holeOf]
  | le =>
    obtain ⟨g, e, r⟩ := key none (some n) [] okw_nil hn
    have e' : m_Region___init___Vk none (some n) [] = some g := e
    refine ⟨g, by rw [e']; rfl, fin _ _ g r fun v => ?_⟩
    rw [nl]; simp [Sat, lowOf, highOf, holeOf]
  | gt =>
    obtain ⟨g, e, r⟩ := key (some (n + 1)) none [] okw_nil hn
    have e' : m_Region___init___Vk (some (n + 1)) none [] = some g := e
    refine ⟨g, by rw [e']; rfl, fin _ _ g r fun v => ?_⟩
    rw [nl]; simp [Sat, lowOf, highOf, holeOf]
  | ge =>
    obtain ⟨g, e, r⟩ := key (some n) none [] okw_nil hn
    have e' : m_Region___init___Vk (some n) none [] = some g := e
    refine ⟨g, by rw [e']; rfl, fin _ _ g r fun v => ?_⟩
    rw [nl]; simp [Sat, lowOf, highOf, holeOf]
section
variable {L : List Int} (hL : L.length < 64)
include hL
theorem rg_and {g1 g2 : Rg} {P1 P2 : Int → Prop} (h1 : RG L g1 P1) (h2 : RG L g2 P2) : ∃ g, m_meet [g1, g2] = some g ∧ RG L g (fun v => P1 v ∧ P2 v) := by
  obtain ⟨l1, u1, w1, rfl, f1, c1, m1⟩ := h1
  obtain ⟨l2, u2, w2, rfl, f2, c2, m2⟩ := h2
  have n1 := nodup_len (asc_nodup (fm_asc f1)) c1
  have n2 := nodup_len (asc_nodup (fm_asc f2)) c2
  have hs : ∀ x ∈ w1 ++ w2, x ∈ L := fun x hx => (List.mem_append.mp hx).elim (c1 x) (c2 x)
  obtain ⟨l, u, w, e, f, c, m⟩ := meet_ok (l1 := l1) (h1 := u1) (l2 := l2) (h2 := u2) (okw_in hL (by rw [List.length_append]; omega) hs)
  exact ⟨_, e, l, u, w, rfl, f, fun x hx => hs x (c x hx), fun v => (m v).trans (and_congr (m1 v) (m2 v))⟩
theorem rg_andO {g1 g2 : Rg} {P1 P2 : Int → Prop} (h1 : RG L g1 P1) (h2 : RG L g2 P2) : ∃ g, m_Region___and g1 g2 = some g ∧ RG L g (fun v => P1 v ∧ P2 v) := by
  obtain ⟨g, e, r⟩ := rg_and hL h1 h2
  exact ⟨g, by unfold m_Region___and; rw [e, bindO_s], r⟩
theorem rg_eqT {g1 g2 : Rg} {P1 P2 : Int → Prop} (h1 : RG L g1 P1) (h2 : RG L g2 P2) (h : ∀ v, P1 v ↔ P2 v) : m_Region___eq g1 g2 = some true := by
  obtain ⟨l1, u1, w1, rfl, f1, c1, m1⟩ := h1
  obtain ⟨l2, u2, w2, rfl, f2, c2, m2⟩ := h2
  obtain ⟨b, e, z⟩ := eq_ok f1 f2
  rw [e, z.mpr fun v => (m1 v).trans ((h v).trans (m2 v).symm)]
theorem rg_within {g1 g2 : Rg} {P1 P2 : Int → Prop} (h1 : RG L g1 P1) (h2 : RG L g2 P2) (h : ∀ v, P1 v → P2 v) : m_Region_within g1 g2 = some true := by
  obtain ⟨g, e, r⟩ := rg_and hL h1 h2
  unfold m_Region_within
  rw [e, bindO_s, rg_eqT hL r h1 fun v => ⟨fun z => z.1, fun z => ⟨z, h v z⟩⟩]
  rfl
theorem rg_plain : ∃ g, m_Region___init___Vk none none [] = some g ∧ RG L g (fun _ => True) := by
  obtain ⟨l, h, w, e, f, c, m⟩ := init_ok none none [] okw_nil
  exact ⟨_, e, l, h, w, rfl, f, fun x hx => (nomatch c x hx), fun v => (m v).trans ⟨fun _ => trivial, fun _ => ⟨lo_none _, hi_none _, (fun z => nomatch z)⟩⟩⟩
end
theorem rg_in {L : List Int} {g : Rg} {P : Int → Prop} (h : RG L g P) (v : Int) : ∃ b, m_Region___contains g v = some b ∧ (b = true ↔ P v) := by
  obtain ⟨l, u, w, rfl, f, c, m⟩ := h
  exact ⟨_, contains_ok l u w v, (mb_iff _ _ _ _).trans (m v)⟩
theorem rg_imp {L : List Int} {g : Rg} {P Q : Int → Prop} (h : RG L g P) (z : ∀ v, P v ↔ Q v) : RG L g Q := by
  obtain ⟨l, u, w, rfl, f, c, m⟩ := h
  exact ⟨l, u, w, rfl, f, c, fun v => (m v).trans (z v)⟩
/-! ### the conditions and the values of the law -/
theorem conditions_ok (ns : List Int) (h : ns.length ≤ 63) : ∃ cs : List Cd, m_l_conditions ns = some (cs.map enc) ∧ cs.length ≤ 63 := by
  unfold m_l_conditions
  obtain ⟨j, ej⟩ : ∃ j : Bool, (iteO (decide ((0 : Int) < (ns.length : Int))) (bindO (atI ns (0 : Int)) fun y4 => some (decide ((y4 % (2 : Int)) = (1 : Int)))) (some false)) = some j := by
    cases hc : decide ((0 : Int) < (ns.length : Int)) with
    | false => exact ⟨_, rfl⟩
    | true =>
      obtain ⟨x, hx⟩ := at_some (l := ns) (i := 0) (by decide) (of_decide_eq_true hc)
      rw [iteO_T, hx]
      exact ⟨_, rfl⟩
  have ec : pyCutC ns none (some (63 : Int)) = some (ns.take 63) := by
    unfold pyCutC
    rw [if_pos (by omega)]
    exact congrArg some (cut_to ns 63)
  simp only [letO_s, ej, bindO_s, ec]
  obtain ⟨s', es, cs, ecs, hl⟩ := forL_inv (ρ := List (Str × Int)) (f := m_l_conditions_b1 j [(Str.ofString "!="), (Str.ofString "<"), (Str.ofString "!="), (Str.ofString "<="), (Str.ofString "!="), (Str.ofString ">"), (Str.ofString "!="), (Str.ofString ">="), (Str.ofString "!="), (Str.ofString "="), (Str.ofString "!=")]) (xs := ns.take 63) (s := []) (k := 0) (fun i s => ∃ cs : List Cd, s = cs.map enc ∧ cs.length = i) ⟨[], rfl, rfl⟩ fun i x s hx hs => by
    obtain ⟨cs, rfl, hl⟩ := hs
    have hi : i < 63 := by
      have := (List.getElem?_eq_some_iff.mp hx).1
      rw [List.length_take] at this; omega
    have m0 := Int.emod_nonneg (x / 2) (show (11 : Int) ≠ 0 by decide)
    have m1 := Int.emod_lt_of_pos (x / 2) (show (0 : Int) < 11 by decide)
    obtain ⟨z, hz⟩ := at_some (l := [(Str.ofString "!="), (Str.ofString "<"), (Str.ofString "!="), (Str.ofString "<="), (Str.ofString "!="), (Str.ofString ">"), (Str.ofString "!="), (Str.ofString ">="), (Str.ofString "!="), (Str.ofString "="), (Str.ofString "!=")]) m0 (by exact m1)
    obtain ⟨k, hk⟩ : ∃ k, z = sg k := by
      have := at_mem hz
      simp only [List.mem_cons, List.mem_nil_iff, or_false] at this
      rcases this with h | h | h | h | h | h | h | h | h | h | h
      · exact ⟨.ne, h⟩
      · exact ⟨.lt, h⟩
      · exact ⟨.ne, h⟩
      · exact ⟨.le, h⟩
      · exact ⟨.ne, h⟩
      · exact ⟨.gt, h⟩
      · exact ⟨.ne, h⟩
      · exact ⟨.ge, h⟩
      · exact ⟨.ne, h⟩
      · exact ⟨.eq, h⟩
      · exact ⟨.ne, h⟩
    have a0 := Int.emod_nonneg (x / 902) (show (4 : Int) ≠ 0 by decide)
    have a1 := Int.emod_lt_of_pos (x / 902) (show (0 : Int) < 4 by decide)
    obtain ⟨y, hy⟩ := at_some (l := [(0 : Int), (7 : Int), ((10 : Int) ^ ((9 : Int)).toNat), ((10 : Int) ^ ((29 : Int)).toNat)]) a0 (by exact a1)
    have b0 := Int.emod_nonneg (x / 3608) (show (19 : Int) ≠ 0 by decide)
    have b1 := Int.emod_lt_of_pos (x / 3608) (show (0 : Int) < 19 by decide)
    have hm : pyMul y (x / 3608 % 19 - 9) = some (y * (x / 3608 % 19 - 9)) := if_pos (.inr ⟨by omega, by omega⟩)
    obtain ⟨n, hn⟩ : ∃ n, (iteO (j && !decide (z = Str.ofString "=")) (bindO (some y) fun y16 => bindO (pyMul y16 (x / 3608 % 19 - 9)) fun m17 => some (x / 22 % 41 - 20 + m17)) (some (x / 22 % 41 - 20))) = some n := by
      cases (j && !decide (z = Str.ofString "=")) with
      | true => rw [iteO_T, bindO_s, hm]; exact ⟨_, rfl⟩
      | false => exact ⟨_, rfl⟩
    refine ⟨(cs ++ [(k, n)]).map enc, ?_, cs ++ [(k, n)], rfl, by rw [List.length_append, List.length_singleton]; omega⟩
    unfold m_l_conditions_b1
    simp only [hz, bindO_s, letO_s, hy]
    rw [bindO_s] at hn
    rw [hn, bindO_s, app_some (by rw [List.length_map]; omega), bindO_s, hk, List.map_append]
    rfl
  subst ecs
  rw [es, bindO_s, stepO_N]
  refine ⟨cs, rfl, ?_⟩
  rw [hl, List.length_take]
  omega
theorem values_ok (cs : List Cd) (h : cs.length ≤ 63) : ∃ vs, m_l_values (cs.map enc) = some vs := by
  unfold m_l_values
  obtain ⟨s', es, hl⟩ := forL_inv (ρ := List Int) (f := m_l_values_b1) (xs := cs.map enc) (s := [(0 : Int)]) (k := 0) (fun i s => s.length = 1 + 3 * i) rfl fun i x s hx hs => by
    have hi : i < 63 := by
      have := (List.getElem?_eq_some_iff.mp hx).1
      rw [List.length_map] at this; omega
    refine ⟨_, by unfold m_l_values_b1; rw [cat_some (by simp; omega), bindO_s, letO_s], ?_⟩
    rw [List.length_append]; simp; omega
  rw [List.length_map] at hl
  simp only [letO_s, es, bindO_s, stepO_N]
  cases s' with
  | nil => simp at hl; omega
  | cons x xs =>
    simp only [pyMaxN, pyMinN, bindO_s]
    rw [cat_some (by simp at hl; simp; omega), bindO_s]
    exact ⟨_, rfl⟩
/-! ### the least and the greatest -/
def up (H : List Int) : Nat → Int → Int
  | 0, m => m
  | k + 1, m => if m ∈ H then up H k (m + 1) else up H k m
theorem up_loop (H : List Int) : ∀ (k : Nat) (lo m : Int), forL (m_l_least_b1 H) (rng lo k) m = some (.nx (up H k m))
  | 0, _, _ => rfl
  | k + 1, lo, m => by
    have er : rng lo (k + 1) = lo :: rng (lo + 1) k := by
      unfold rng
      rw [List.range_succ_eq_map, List.map_cons, List.map_map]
      congr 1
      · simp
      · apply List.map_congr_left
        intro i _
        show lo + ((i + 1 : Nat) : Int) = lo + 1 + (i : Int)
        omega
    rw [er, forL_cons]
    unfold m_l_least_b1 up
    by_cases h : m ∈ H
    · rw [letO_s, decide_eq_true h, iteO_T, letO_s, if_pos h]
      exact up_loop H k (lo + 1) (m + 1)
    · rw [letO_s, decide_eq_false h, iteO_F, if_neg h]
      exact up_loop H k (lo + 1) m
theorem up_ge (H : List Int) : ∀ (k : Nat) (m : Int), m ≤ up H k m
  | 0, m => Int.le_refl _
  | k + 1, m => by
    unfold up
    split
    · have := up_ge H k (m + 1); omega
    · exact up_ge H k m
theorem up_le (H : List Int) : ∀ (k : Nat) (m v : Int), m ≤ v → v ∉ H → up H k m ≤ v
  | 0, m, v, h, _ => h
  | k + 1, m, v, h, hv => by
    unfold up
    split
    · rename_i hm
      have : m ≠ v := fun e => hv (by rw [← e]; exact hm)
      exact up_le H k (m + 1) v (by omega) hv
    · exact up_le H k m v h hv
theorem up_bad (H : List Int) : ∀ (k : Nat) (m : Int), up H k m ∈ H → ∀ v, m ≤ v → v ≤ m + (k : Int) → v ∈ H
  | 0, m, h, v, h1, h2 => by
    have : v = m := by omega
    rw [this]; exact h
  | k + 1, m, h, v, h1, h2 => by
    unfold up at h
    split at h
    · rename_i hm
      by_cases e : v = m
      · rw [e]; exact hm
      · exact up_bad H k (m + 1) h v (by omega) (by omega)
    · rename_i hm
      exact absurd (up_bad H k m h m (Int.le_refl _) (by omega)) hm
theorem up_good (H : List Int) (m : Int) : up H H.length m ∉ H := fun h => by
  have h1 := up_bad H H.length m h
  have := nodup_len (a := rng m (H.length + 1)) (b := H) (asc_nodup (rng_asc _ _)) fun z hz => by
    have := mem_rng.mp hz
    exact h1 z this.1 (by omega)
  rw [rng_len] at this
  omega
def dn (H : List Int) : Nat → Int → Int
  | 0, m => m
  | k + 1, m => if m ∈ H then dn H k (m - 1) else dn H k m
theorem dn_loop (H : List Int) : ∀ (k : Nat) (lo m : Int), forL (m_l_greatest_b1 H) (rng lo k) m = some (.nx (dn H k m))
  | 0, _, _ => rfl
  | k + 1, lo, m => by
    have er : rng lo (k + 1) = lo :: rng (lo + 1) k := by
      unfold rng
      rw [List.range_succ_eq_map, List.map_cons, List.map_map]
      congr 1
      · simp
      · apply List.map_congr_left
        intro i _
        show lo + ((i + 1 : Nat) : Int) = lo + 1 + (i : Int)
        omega
    rw [er, forL_cons]
    unfold m_l_greatest_b1 dn
    by_cases h : m ∈ H
    · rw [letO_s, decide_eq_true h, iteO_T, letO_s, if_pos h]
      exact dn_loop H k (lo + 1) (m - 1)
    · rw [letO_s, decide_eq_false h, iteO_F, if_neg h]
      exact dn_loop H k (lo + 1) m
theorem dn_le (H : List Int) : ∀ (k : Nat) (m : Int), dn H k m ≤ m
  | 0, m => Int.le_refl _
  | k + 1, m => by
    unfold dn
    split
    · have := dn_le H k (m - 1); omega
    · exact dn_le H k m
theorem dn_ge (H : List Int) : ∀ (k : Nat) (m v : Int), v ≤ m → v ∉ H → v ≤ dn H k m
  | 0, m, v, h, _ => h
  | k + 1, m, v, h, hv => by
    unfold dn
    split
    · rename_i hm
      have : m ≠ v := fun e => hv (by rw [← e]; exact hm)
      exact dn_ge H k (m - 1) v (by omega) hv
    · exact dn_ge H k m v h hv
theorem dn_bad (H : List Int) : ∀ (k : Nat) (m : Int), dn H k m ∈ H → ∀ v, m - (k : Int) ≤ v → v ≤ m → v ∈ H
  | 0, m, h, v, h1, h2 => by
    have : v = m := by omega
    rw [this]; exact h
  | k + 1, m, h, v, h1, h2 => by
    unfold dn at h
    split at h
    · rename_i hm
      by_cases e : v = m
      · rw [e]; exact hm
      · exact dn_bad H k (m - 1) h v (by omega) (by omega)
    · rename_i hm
      exact absurd (dn_bad H k m h m (by omega) (Int.le_refl _)) hm
theorem dn_good (H : List Int) (m : Int) : dn H H.length m ∉ H := fun h => by
  have h1 := dn_bad H H.length m h
  have := nodup_len (a := rng (m - (H.length : Int)) (H.length + 1)) (b := H) (asc_nodup (rng_asc _ _)) fun z hz => by
    have := mem_rng.mp hz
    exact h1 z this.1 (by omega)
  rw [rng_len] at this
  omega
theorem holes_mem {cs : List Cd} {v : Int} : v ∈ holes cs ↔ ∃ c ∈ cs, holeOf c = some v := by
  unfold holes; rw [List.mem_filterMap]
theorem holes_map (cs : List Cd) : ((cs.filter fun c => decide (c.1 = Kd.ne)).map fun c => c.2) = holes cs := by
  unfold holes
  induction cs with
  | nil => rfl
  | cons c cs ih =>
    obtain ⟨k, n⟩ := c
    cases k <;> simp [holeOf, ih] <;> rfl
theorem least_ok (cs : List Cd) (hcs : cs.length ≤ 63) : ∃ o, m_l_least (cs.map enc) = some o ∧ (∀ a, o = some a → a ∉ holes cs) ∧ ∀ v, v ∉ holes cs → (LoOk o v ↔ ∀ c ∈ cs, LoOk (lowOf c) v) := by
  have c1 : compL m_l_least_c1 (cs.map enc) = some (((cs.map enc).filter fun e => decide (e.1 ∈ [(Str.ofString ">="), (Str.ofString "=")])).map fun e => e.2) := compL_fil fun x _ => by
    unfold m_l_least_c1
    rw [letO_s]
    cases decide (x.1 ∈ [(Str.ofString ">="), (Str.ofString "=")]) <;> rfl
  have c2 : compL m_l_least_c2 (cs.map enc) = some (((cs.map enc).filter fun e => decide (e.1 = Str.ofString ">")).map fun e => e.2 + 1) := compL_fil fun x _ => by
    unfold m_l_least_c2
    rw [letO_s]
    cases decide (x.1 = Str.ofString ">") <;> rfl
  have c3 : compL m_l_least_c3 (cs.map enc) = some (holes cs) := by
    rw [compL_fil (f := m_l_least_c3) (p := fun e => decide (e.1 = Str.ofString "!=")) (g := fun e => e.2) fun x _ => ?_, List.filter_map, List.map_map]
    · have : ((fun e : Str × Int => decide (e.1 = Str.ofString "!=")) ∘ enc) = fun c : Cd => decide (c.1 = Kd.ne) := funext fun c => s_ne c.1
      rw [this]
      exact congrArg some (holes_map cs)
    · unfold m_l_least_c3
      rw [letO_s]
      cases decide (x.1 = Str.ofString "!=") <;> rfl
  unfold m_l_least
  simp only [c1, c2, bindO_s, letO_s]
  generalize eA : (((cs.map enc).filter fun e => decide (e.1 ∈ [(Str.ofString ">="), (Str.ofString "=")])).map fun e => e.2) = A
  generalize eB : (((cs.map enc).filter fun e => decide (e.1 = Str.ofString ">")).map fun e => e.2 + 1) = B
  have lA : A.length ≤ 63 := by rw [← eA, List.length_map]; refine Nat.le_trans (List.length_filter_le _ _) ?_; rw [List.length_map]; exact hcs
  have lB : B.length ≤ 63 := by rw [← eB, List.length_map]; refine Nat.le_trans (List.length_filter_le _ _) ?_; rw [List.length_map]; exact hcs
  have hm : ∀ a, a ∈ A ++ B ↔ ∃ c ∈ cs, lowOf c = some a := fun a => by
    rw [List.mem_append, ← eA, ← eB]
    simp only [List.mem_map, List.mem_filter]
    constructor
    · rintro (⟨e, ⟨⟨c, hc, rfl⟩, hd⟩, rfl⟩ | ⟨e, ⟨⟨c, hc, rfl⟩, hd⟩, rfl⟩)
      · refine ⟨c, hc, ?_⟩
        rw [show decide ((enc c).1 ∈ [(Str.ofString ">="), (Str.ofString "=")]) = decide (c.1 = .ge ∨ c.1 = .eq) from s_lo c.1, decide_eq_true_eq] at hd
        obtain ⟨k, n⟩ := c
        rcases hd with h | h
        · have : k = .ge := h
          subst this; rfl
        · have : k = .eq := h
          subst this; rfl
      · refine ⟨c, hc, ?_⟩
        rw [show decide ((enc c).1 = Str.ofString ">") = decide (c.1 = .gt) from s_gt c.1, decide_eq_true_eq] at hd
        obtain ⟨k, n⟩ := c
        have : k = .gt := hd
        subst this; rfl
    · rintro ⟨⟨k, n⟩, hc, e⟩
      cases k with
      | ge => cases e; exact .inl ⟨enc (.ge, n), ⟨⟨_, hc, rfl⟩, by rw [show decide ((enc (Kd.ge, n)).1 ∈ [(Str.ofString ">="), (Str.ofString "=")]) = _ from s_lo .ge]; decide⟩, rfl⟩
      | eq => cases e; exact .inl ⟨enc (.eq, n), ⟨⟨_, hc, rfl⟩, by rw [show decide ((enc (Kd.eq, n)).1 ∈ [(Str.ofString ">="), (Str.ofString "=")]) = _ from s_lo .eq]; decide⟩, rfl⟩
      | gt => cases e; exact .inr ⟨enc (.gt, n), ⟨⟨_, hc, rfl⟩, by rw [show decide ((enc (Kd.gt, n)).1 = Str.ofString ">") = _ from s_gt .gt]; decide⟩, rfl⟩
      | ne => cases e
      | lt => cases e
      | le => cases e
  rw [cat_some (by omega), bindO_s, eq_ints_nil, bindO_s]
  cases hn : A ++ B with
  | nil =>
    refine ⟨none, rfl, (fun _ z => nomatch z), fun v _ => ⟨fun _ c hc a ea => ?_, fun _ => lo_none _⟩⟩
    have := (hm a).mpr ⟨c, hc, ea⟩
    rw [hn] at this; cases this
  | cons x xs =>
    obtain ⟨f1, f2⟩ := foldl_max_mem xs x
    have hl : (holes cs).length ≤ 63 := Nat.le_trans (List.length_filterMap_le _ _) hcs
    have e0 : (x :: xs).isEmpty = false := rfl
    simp only [e0, iteO_F, pyMaxN, bindO_s, c3, rng_nat (show (holes cs).length ≤ 1000 by omega), up_loop, stepO_N]
    refine ⟨_, rfl, fun a ea => by cases ea; exact up_good _ _, fun v hv => ?_⟩
    rw [lo_some]
    constructor
    · intro h c hc a ea
      have h1 := f2 a (by rw [← hn]; exact (hm a).mpr ⟨c, hc, ea⟩)
      have h2 := up_ge (holes cs) (holes cs).length (xs.foldl max x)
      omega
    · intro h
      obtain ⟨c, hc, ec⟩ := (hm _).mp (by rw [hn]; exact f1)
      exact up_le _ _ _ _ (h c hc _ ec) hv
theorem greatest_ok (cs : List Cd) (hcs : cs.length ≤ 63) : ∃ o, m_l_greatest (cs.map enc) = some o ∧ (∀ a, o = some a → a ∉ holes cs) ∧ ∀ v, v ∉ holes cs → (HiOk o v ↔ ∀ c ∈ cs, HiOk (highOf c) v) := by
  have c1 : compL m_l_greatest_c1 (cs.map enc) = some (((cs.map enc).filter fun e => decide (e.1 ∈ [(Str.ofString "<="), (Str.ofString "=")])).map fun e => e.2) := compL_fil fun x _ => by
    unfold m_l_greatest_c1
    rw [letO_s]
    cases decide (x.1 ∈ [(Str.ofString "<="), (Str.ofString "=")]) <;> rfl
  have c2 : compL m_l_greatest_c2 (cs.map enc) = some (((cs.map enc).filter fun e => decide (e.1 = Str.ofString "<")).map fun e => e.2 - 1) := compL_fil fun x _ => by
    unfold m_l_greatest_c2
    rw [letO_s]
    cases decide (x.1 = Str.ofString "<") <;> rfl
  have c3 : compL m_l_greatest_c3 (cs.map enc) = some (holes cs) := by
    rw [compL_fil (f := m_l_greatest_c3) (p := fun e => decide (e.1 = Str.ofString "!=")) (g := fun e => e.2) fun x _ => ?_, List.filter_map, List.map_map]
    · have : ((fun e : Str × Int => decide (e.1 = Str.ofString "!=")) ∘ enc) = fun c : Cd => decide (c.1 = Kd.ne) := funext fun c => s_ne c.1
      rw [this]
      exact congrArg some (holes_map cs)
    · unfold m_l_greatest_c3
      rw [letO_s]
      cases decide (x.1 = Str.ofString "!=") <;> rfl
  unfold m_l_greatest
  simp only [c1, c2, bindO_s, letO_s]
  generalize eA : (((cs.map enc).filter fun e => decide (e.1 ∈ [(Str.ofString "<="), (Str.ofString "=")])).map fun e => e.2) = A
  generalize eB : (((cs.map enc).filter fun e => decide (e.1 = Str.ofString "<")).map fun e => e.2 - 1) = B
  have lA : A.length ≤ 63 := by rw [← eA, List.length_map]; refine Nat.le_trans (List.length_filter_le _ _) ?_; rw [List.length_map]; exact hcs
  have lB : B.length ≤ 63 := by rw [← eB, List.length_map]; refine Nat.le_trans (List.length_filter_le _ _) ?_; rw [List.length_map]; exact hcs
  have hm : ∀ a, a ∈ A ++ B ↔ ∃ c ∈ cs, highOf c = some a := fun a => by
    rw [List.mem_append, ← eA, ← eB]
    simp only [List.mem_map, List.mem_filter]
    constructor
    · rintro (⟨e, ⟨⟨c, hc, rfl⟩, hd⟩, rfl⟩ | ⟨e, ⟨⟨c, hc, rfl⟩, hd⟩, rfl⟩)
      · refine ⟨c, hc, ?_⟩
        rw [show decide ((enc c).1 ∈ [(Str.ofString "<="), (Str.ofString "=")]) = decide (c.1 = .le ∨ c.1 = .eq) from s_hi c.1, decide_eq_true_eq] at hd
        obtain ⟨k, n⟩ := c
        rcases hd with h | h
        · have : k = .le := h
          subst this; rfl
        · have : k = .eq := h
          subst this; rfl
      · refine ⟨c, hc, ?_⟩
        rw [show decide ((enc c).1 = Str.ofString "<") = decide (c.1 = .lt) from s_lt c.1, decide_eq_true_eq] at hd
        obtain ⟨k, n⟩ := c
        have : k = .lt := hd
        subst this; rfl
    · rintro ⟨⟨k, n⟩, hc, e⟩
      cases k with
      | le => cases e; exact .inl ⟨enc (.le, n), ⟨⟨_, hc, rfl⟩, by rw [show decide ((enc (Kd.le, n)).1 ∈ [(Str.ofString "<="), (Str.ofString "=")]) = _ from s_hi .le]; decide⟩, rfl⟩
      | eq => cases e; exact .inl ⟨enc (.eq, n), ⟨⟨_, hc, rfl⟩, by rw [show decide ((enc (Kd.eq, n)).1 ∈ [(Str.ofString "<="), (Str.ofString "=")]) = _ from s_hi .eq]; decide⟩, rfl⟩
      | lt => cases e; exact .inr ⟨enc (.lt, n), ⟨⟨_, hc, rfl⟩, by rw [show decide ((enc (Kd.lt, n)).1 = Str.ofString "<") = _ from s_lt .lt]; decide⟩, rfl⟩
      | ne => cases e
      | gt => cases e
      | ge => cases e
  rw [cat_some (by omega), bindO_s, eq_ints_nil, bindO_s]
  cases hn : A ++ B with
  | nil =>
    refine ⟨none, rfl, (fun _ z => nomatch z), fun v _ => ⟨fun _ c hc a ea => ?_, fun _ => hi_none _⟩⟩
    have := (hm a).mpr ⟨c, hc, ea⟩
    rw [hn] at this; cases this
  | cons x xs =>
    obtain ⟨f1, f2⟩ := foldl_min_mem xs x
    have hl : (holes cs).length ≤ 63 := Nat.le_trans (List.length_filterMap_le _ _) hcs
    have e0 : (x :: xs).isEmpty = false := rfl
    simp only [e0, iteO_F, pyMinN, bindO_s, c3, rng_nat (show (holes cs).length ≤ 1000 by omega), dn_loop, stepO_N]
    refine ⟨_, rfl, fun a ea => by cases ea; exact dn_good _ _, fun v hv => ?_⟩
    rw [hi_some]
    constructor
    · intro h c hc a ea
      have h1 := f2 a (by rw [← hn]; exact (hm a).mpr ⟨c, hc, ea⟩)
      have h2 := dn_le (holes cs) (holes cs).length (xs.foldl min x)
      omega
    · intro h
      obtain ⟨c, hc, ec⟩ := (hm _).mp (by rw [hn]; exact f1)
      exact dn_ge _ _ _ _ (h c hc _ ec) hv
/-! ### each number left out once -/
def dd : List Int → List Int → List Int
  | _, [] => []
  | s, x :: t => if x ∈ s then dd (s ++ [x]) t else x :: dd (s ++ [x]) t
theorem dd_mem : ∀ (t s : List Int) (z : Int), z ∈ dd s t ↔ z ∈ t ∧ z ∉ s
  | [], s, z => by simp [dd]
  | x :: t, s, z => by
    have ih := dd_mem t (s ++ [x]) z
    rw [List.mem_append, List.mem_singleton] at ih
    unfold dd
    by_cases h : x ∈ s
    · rw [if_pos h, ih, List.mem_cons]
      constructor
      · rintro ⟨a, b⟩; exact ⟨.inr a, fun c => b (.inl c)⟩
      · rintro ⟨a | a, b⟩
        · rw [a] at b; exact absurd h b
        · exact ⟨a, fun c => c.elim b fun e => b (by rw [e]; exact h)⟩
    · rw [if_neg h, List.mem_cons, ih, List.mem_cons]
      constructor
      · rintro (a | ⟨a, b⟩)
        · rw [a]; exact ⟨.inl rfl, h⟩
        · exact ⟨.inr a, fun c => b (.inl c)⟩
      · rintro ⟨a, b⟩
        by_cases e : z = x
        · exact .inl e
        · exact .inr ⟨a.resolve_left e, fun c => c.elim b e⟩
theorem dd_nodup : ∀ (t s : List Int), (dd s t).Nodup
  | [], s => by unfold dd; exact List.nodup_nil
  | x :: t, s => by
    unfold dd
    split
    · exact dd_nodup t _
    · refine List.nodup_cons.mpr ⟨fun h => ?_, dd_nodup t _⟩
      exact ((dd_mem t (s ++ [x]) x).mp h).2 (by simp)
theorem compL_cons {α β : Type} (f : α → Option (Option β)) (x : α) (xs : List α) : compL f (x :: xs) = (match f x with
    | none => none
    | some none => compL f xs
    | some (some y) => match compL f xs with
      | none => none
      | some ys => some (y :: ys)) := rfl
/-- strictly between -/
def sbt (lo hi : Option Int) (v : Int) : Bool := (match lo with | none => true | some a => decide (a < v)) && (match hi with | none => true | some b => decide (v < b))
theorem sbt_iff (lo hi : Option Int) (v : Int) : sbt lo hi v = true ↔ (∀ a, lo = some a → a < v) ∧ (∀ b, hi = some b → v < b) := by
  unfold sbt
  cases lo <;> cases hi <;> simp
theorem sbt_ok (lo hi : Option Int) (x : Int) : m_l_formed_c2 lo hi x = some (if sbt lo hi x = true then some x else none) := by
  unfold m_l_formed_c2 sbt
  cases lo with
  | none => cases hi with
    | none => rfl
    | some y => by_cases c : x < y <;> simp [c, bindO_s, letO_s, iteO_T, iteO_F]
  | some a =>
    by_cases d : a < x
    · cases hi with
      | none => simp [d, bindO_s, letO_s, iteO_T, iteO_F]
      | some y => by_cases c : x < y <;> simp [c, d, bindO_s, letO_s, iteO_T, iteO_F]
    · simp [d, bindO_s, letO_s, iteO_T, iteO_F]
theorem rng_succ (lo : Int) (k : Nat) : rng lo (k + 1) = lo :: rng (lo + 1) k := by
  unfold rng
  rw [List.range_succ_eq_map, List.map_cons, List.map_map]
  congr 1
  · simp
  · apply List.map_congr_left
    intro i _
    show lo + ((i + 1 : Nat) : Int) = lo + 1 + (i : Int)
    omega
theorem dd_ok (out : List Int) : ∀ (t s : List Int), out = s ++ t → compL (m_l_formed_c3 out) (rng (s.length : Int) t.length) = some (dd s t)
  | [], s, _ => rfl
  | x :: t, s, e => by
    have e1 : atI out (s.length : Int) = some x := by rw [atI_nat2, e]; simp
    have e2 : cut out none (some (s.length : Int)) = s := by rw [cut_to, e]; simp
    have ih := dd_ok out t (s ++ [x]) (by rw [e]; simp)
    rw [List.length_append, List.length_singleton, Int.natCast_add] at ih
    rw [List.length_cons, rng_succ, compL_cons]
    unfold dd
    have e3 : m_l_formed_c3 out (s.length : Int) = some (if x ∈ s then none else some x) := by
      unfold m_l_formed_c3
      rw [e1, bindO_s, e2, letO_s]
      by_cases h : x ∈ s
      · rw [decide_eq_true h, if_pos h]; rfl
      · rw [decide_eq_false h, if_neg h]; rfl
    rw [e3]
    have ih' : compL (m_l_formed_c3 out) (rng ((s.length : Int) + 1) t.length) = some (dd (s ++ [x]) t) := ih
    by_cases h : x ∈ s
    · rw [if_pos h, if_pos h]
      exact ih'
    · rw [if_neg h, if_neg h]
      dsimp only
      rw [ih']
theorem allS_mem {cs : List Cd} {lo hi : Option Int} (h1 : ∀ v, v ∉ holes cs → (LoOk lo v ↔ ∀ c ∈ cs, LoOk (lowOf c) v)) (h2 : ∀ v, v ∉ holes cs → (HiOk hi v ↔ ∀ c ∈ cs, HiOk (highOf c) v)) (v : Int) : AllS cs v ↔ Mem lo hi (holes cs) v := by
  unfold AllS Mem Sat
  constructor
  · intro h
    have hv : v ∉ holes cs := fun z => by
      obtain ⟨c, hc, e⟩ := holes_mem.mp z
      exact (h c hc).2.2 e
    exact ⟨(h1 v hv).mpr fun c hc => (h c hc).1, (h2 v hv).mpr fun c hc => (h c hc).2.1, hv⟩
  · rintro ⟨a, b, hv⟩ c hc
    exact ⟨(h1 v hv).mp a c hc, (h2 v hv).mp b c hc, fun e => hv (holes_mem.mpr ⟨c, hc, e⟩)⟩
theorem formed_ok {L : List Int} {g : Rg} {cs : List Cd} (hcs : cs.length ≤ 63) (h : RG L g (AllS cs)) : m_l_formed g (cs.map enc) = some true := by
  obtain ⟨lo, e1, a1, b1⟩ := least_ok cs hcs
  obtain ⟨hi, e2, a2, b2⟩ := greatest_ok cs hcs
  have hP := allS_mem b1 b2
  obtain ⟨l, u, w, rfl, f, _, m⟩ := h
  have hm : ∀ v, Mem l u w v ↔ Mem lo hi (holes cs) v := fun v => (m v).trans (hP v)
  have s1 : (mkR l u w).1 = l := rfl
  have s2 : (mkR l u w).2.1 = u := rfl
  have s3 : (mkR l u w).2.2.1 = w := rfl
  have s4 : (mkR l u w).2.2.2.1 = szR l u w := rfl
  have s5 : (mkR l u w).2.2.2.2.1 = if szR l u w = some 1 then l else none := rfl
  have s6 : m_Region___bool (mkR l u w) = some (!decide (szR l u w = some 0)) := rfl
  unfold m_l_formed
  simp only [e1, e2, bindO_s, letO_s, s1, s2, s3, s4, s5, s6]
  have hb : ∃ b, (iteO lo.isSome (bindO (iteO hi.isSome (bindO lo fun g5 => bindO hi fun g6 => some (decide (g6 < g5))) (some false)) fun b7 => some b7) (some false)) = some b ∧ (b = true ↔ ∃ x y, lo = some x ∧ hi = some y ∧ y < x) := by
    cases lo with
    | none => exact ⟨_, rfl, by simp⟩
    | some x => cases hi with
      | none => exact ⟨_, rfl, by simp⟩
      | some y => exact ⟨_, rfl, by simp⟩
  obtain ⟨b, eb, hb⟩ := hb
  rw [eb, bindO_s]
  cases b with
  | true =>
    obtain ⟨x, y, rfl, rfl, hxy⟩ := hb.mp rfl
    have hno : ∀ v, ¬ Mem (some x) (some y) (holes cs) v := fun v ⟨p, q, _⟩ => by
      have := lo_some.mp p
      have := hi_some.mp q
      omega
    obtain ⟨rfl, rfl, rfl⟩ := uniq (l' := some 1) (h' := some 0) (w' := []) f (.inr ⟨rfl, rfl, rfl⟩) fun v => ⟨fun z => absurd ((hm v).mp z) (hno v), fun z => absurd z (no_mem v)⟩
    rw [iteO_T]
    refine (congrArg (fun o => bindO o fun q13 => some q13) ((eq_some (d := PyData.list [.int 1, .int 0, .tuple [], .int 0, .bool false]) (e := PyData.list [.int 1, .int 0, .tuple [], .int 0, .bool false]) ?_ ?_ ?_ ?_).trans (congrArg some ?_))).trans (bindO_s _ _)
    · exact lay_list (lay_cons (lay_int _) (lay_cons (lay_int _) (lay_cons (lay_tup lay_nil) (lay_cons (lay_int _) (lay_cons (lay_bool _) lay_nil)))))
    · simp [PyData.depth, PyData.depthAll]
    · exact lay_list (lay_cons (lay_int _) (lay_cons (lay_int _) (lay_cons (lay_tup lay_nil) (lay_cons (lay_int _) (lay_cons (lay_bool _) lay_nil)))))
    · simp [PyData.depth, PyData.depthAll]
    · simp [PyData.eqv, PyData.eqvAll]
  | false =>
    rw [iteO_F]
    have c1 : compL m_l_formed_c1 (cs.map enc) = some (holes cs) := by
      rw [compL_fil (f := m_l_formed_c1) (p := fun e => decide (e.1 = Str.ofString "!=")) (g := fun e => e.2) fun x _ => ?_, List.filter_map, List.map_map]
      · have : ((fun e : Str × Int => decide (e.1 = Str.ofString "!=")) ∘ enc) = fun c : Cd => decide (c.1 = Kd.ne) := funext fun c => s_ne c.1
        rw [this]
        exact congrArg some (holes_map cs)
      · unfold m_l_formed_c1
        rw [letO_s]
        cases decide (x.1 = Str.ofString "!=") <;> rfl
    have c2 : compL (m_l_formed_c2 lo hi) (holes cs) = some ((holes cs).filter (sbt lo hi)) := by
      rw [compL_fil (f := m_l_formed_c2 lo hi) (p := sbt lo hi) (g := fun x => x) fun x _ => sbt_ok lo hi x, List.map_id']
    simp only [c1, c2, bindO_s]
    generalize eO : (holes cs).filter (sbt lo hi) = out
    have hout : ∀ v, v ∈ out ↔ v ∈ holes cs ∧ (∀ a, lo = some a → a < v) ∧ (∀ b, hi = some b → v < b) := fun v => by
      rw [← eO, List.mem_filter, sbt_iff]
    have hlen : out.length ≤ 63 := by
      rw [← eO]
      exact Nat.le_trans (List.length_filter_le _ _) (Nat.le_trans (List.length_filterMap_le _ _) hcs)
    have c3 := dd_ok out out [] rfl
    have er : pyRng (out.length : Int) = some (rng (([] : List Int).length : Int) out.length) := rng_nat (by omega)
    simp only [er, bindO_s, c3]
    have hwm : ∀ z, z ∈ isortI (dd [] out) ↔ z ∈ out := fun z => by rw [(isortI_perm _).mem_iff, dd_mem]; simp
    have hwn : (isortI (dd [] out)).Nodup := (isortI_perm _).nodup_iff.mpr (dd_nodup out [])
    have hwa : (isortI (dd [] out)).Pairwise (· < ·) := by
      have h1 := isortI_asc (dd [] out)
      refine (h1.and hwn).imp fun {a b} h => ?_
      have := h.1
      have := h.2
      omega
    have hwl : ((isortI (dd [] out)).length : Int) = ((dd [] out).length : Int) := by rw [(isortI_perm _).length_eq]
    generalize eW : isortI (dd [] out) = W at hwm hwa hwl
    have hnb : ∀ a b, lo = some a → hi = some b → a ≤ b := fun a b ea eb => by
      by_cases c : b < a
      · exact absurd (hb.mpr ⟨a, b, ea, eb, c⟩) (by decide)
      · omega
    have nf : NF lo hi W := ⟨hwa, fun x hx => ((hout x).mp ((hwm x).mp hx)).2, hnb⟩
    obtain ⟨rfl, rfl, rfl⟩ := uniq f (.inl nf) fun v => (hm v).trans (by
      unfold Mem
      constructor
      · rintro ⟨p, q, r⟩
        exact ⟨p, q, fun z => r ((hout v).mp ((hwm v).mp z)).1⟩
      · rintro ⟨p, q, r⟩
        refine ⟨p, q, fun z => r ((hwm v).mpr ((hout v).mpr ⟨z, fun a ea => ?_, fun b eb => ?_⟩))⟩
        · have := p a ea
          have : a ≠ v := fun e => a1 a ea (by rw [e]; exact z)
          omega
        · have := q b eb
          have : b ≠ v := fun e => a2 b eb (by rw [e]; exact z)
          omega)
    have h0 : ¬ szR l u w = some 0 := fun z => by
      obtain ⟨z1, z2⟩ := (size_zero (.inl nf)).mp z
      have := hnb 1 0 z1 z2
      omega
    have hq : pyEq ((dHls (dwC (dOpt PyData.int) (dwC (dOpt PyData.int) (dwC (dTpl PyData.int) (dw1 PyData.bool))))) (l, u, w, !decide (szR l u w = some 0))) ((dHls (dwC (dOpt PyData.int) (dwC (dOpt PyData.int) (dwC (dTpl PyData.int) (dw1 PyData.bool))))) (l, u, w, true)) = some true := by
      rw [decide_eq_false h0]
      refine (eq_some (d := PyData.list [dOpt PyData.int l, dOpt PyData.int u, dTpl PyData.int w, .bool true]) (e := PyData.list [dOpt PyData.int l, dOpt PyData.int u, dTpl PyData.int w, .bool true]) ?_ ?_ ?_ ?_).trans (congrArg some ?_)
      · exact lay_list (lay_cons (lay_opt _) (lay_cons (lay_opt _) (lay_cons (lay_tup (lay_ints _)) (lay_cons (lay_bool _) lay_nil))))
      · simp [dTpl, PyData.depth, PyData.depthAll, dep_opt, dep_ints]
      · exact lay_list (lay_cons (lay_opt _) (lay_cons (lay_opt _) (lay_cons (lay_tup (lay_ints _)) (lay_cons (lay_bool _) lay_nil))))
      · simp [dTpl, PyData.depth, PyData.depthAll, dep_opt, dep_ints]
      · have e1 : PyData.eqv (dTpl PyData.int w) (dTpl PyData.int w) = true := by
          show PyData.eqv (.tuple _) (.tuple _) = true
          simp only [PyData.eqv]
          rw [eqvAll_ints, decide_eq_true rfl]
        simp only [PyData.eqv, PyData.eqvAll, eqv_opt, e1, decide_true, Bool.and_true]
        rfl
    rw [eW] at *
    simp only [hq, bindO_s, Bool.not_true, iteO_F]
    cases l with
    | none => rfl
    | some x => cases u with
      | none => rfl
      | some y =>
        show some (decide (some (y - x + 1 - (w.length : Int)) = some (y - x + 1 - ((dd [] out).length : Int)))) = some true
        rw [hwl, decide_eq_true rfl]
/-! ### the law -/
theorem take_enc (cs : List Cd) (k : Nat) : (cs.map enc).take k = (cs.take k).map enc := (List.map_take ..).symm
theorem law_true (ns : List Int) (h : ns.length ≤ 63) : m_law ns = some true := by
  obtain ⟨cs, ec, hcs⟩ := conditions_ok ns h
  obtain ⟨vs, ev⟩ := values_ok cs hcs
  have hL : (holes cs).length < 64 := by
    have : (holes cs).length ≤ cs.length := List.length_filterMap_le _ _
    omega
  have hh : ∀ c ∈ cs, ∀ n, holeOf c = some n → n ∈ holes cs := fun c hc n e => holes_mem.mpr ⟨c, hc, e⟩
  obtain ⟨g0, ep, r0⟩ := rg_plain (L := holes cs) hL
  have r0' : RG (holes cs) g0 (AllS []) := rg_imp r0 fun v => ⟨fun _ c hc => (nomatch hc), fun _ => trivial⟩
  unfold m_law
  have e1 : pyRng ((cs.map enc).length : Int) = some (rng 0 cs.length) := by rw [List.length_map]; exact rng_nat (by omega)
  obtain ⟨ms, em, hml, hmr⟩ := forL_inv (ρ := Bool) (f := m_law_b1 (cs.map enc)) (xs := rng 0 cs.length) (s := [g0]) (k := 0) (fun i s => s.length = i + 1 ∧ ∀ j, j ≤ i → ∃ g, s[j]? = some g ∧ RG (holes cs) g (AllS (cs.take j))) ⟨rfl, fun j hj => by
    have : j = 0 := by omega
    subst this
    exact ⟨g0, rfl, by rw [List.take_zero]; exact r0'⟩⟩ fun i x s hx hs => by
    obtain ⟨hi, rfl⟩ := rng_get hx
    obtain ⟨hl, hr⟩ := hs
    rw [Nat.zero_add] at hl hr ⊢
    have hc : cs[i]? = some cs[i] := List.getElem?_eq_getElem hi
    obtain ⟨gs, eo, rs⟩ := rg_of (L := holes cs) cs[i] (hh _ (List.getElem_mem hi))
    obtain ⟨g, eg, rg⟩ := hr i (Nat.le_refl _)
    obtain ⟨g2, e2, r2⟩ := rg_andO hL rg rs
    have ht : ∀ v, (AllS (cs.take i) v ∧ Sat cs[i] v) ↔ AllS (cs.take (i + 1)) v := fun v => by
      rw [List.take_add_one, hc]
      unfold AllS
      simp only [Option.toList, List.mem_append, List.mem_singleton]
      constructor
      · rintro ⟨a, b⟩ c (hc | rfl)
        · exact a c hc
        · exact b
      · intro a
        exact ⟨fun c hc => a c (.inl hc), a _ (.inr rfl)⟩
    have r3 := rg_imp r2 ht
    have w1 := rg_within hL r2 rg fun v z => z.1
    have w2 := rg_within hL r2 rs fun v z => z.2
    have a1 : atI (cs.map enc) (0 + (i : Int)) = some (enc cs[i]) := by rw [Int.zero_add, atI_nat2, List.getElem?_map, hc]; rfl
    have a2 : atI s (0 + (i : Int)) = some g := by rw [Int.zero_add, atI_nat2]; exact eg
    have a3 : atI (s ++ [g2]) (0 + (i : Int)) = some g := by rw [Int.zero_add, atI_nat2, List.getElem?_append_left (by omega)]; exact eg
    have a4 : atI (s ++ [g2]) (0 + (i : Int) + 1) = some g2 := by
      rw [show (0 : Int) + (i : Int) + 1 = ((i + 1 : Nat) : Int) by omega, atI_nat2, ← hl]
      simp
    refine ⟨s ++ [g2], ?_, by rw [List.length_append, List.length_singleton]; omega, fun j hj => ?_⟩
    · unfold m_law_b1
      have eo' : m_Region_of (enc cs[i]).1 (enc cs[i]).2 = some (.ok gs) := eo
      simp only [a1, bindO_s, eo', okR_ok, letO_s, a2, e2, app_some (show s.length < 1000 by omega), a3, a4, w1, w2, Bool.not_true, iteO_F]
    · by_cases hji : j ≤ i
      · obtain ⟨g', eg', rg'⟩ := hr j hji
        exact ⟨g', by rw [List.getElem?_append_left (by omega)]; exact eg', rg'⟩
      · have : j = i + 1 := by omega
        subst this
        exact ⟨g2, by rw [← hl]; simp, r3⟩
  rw [Nat.zero_add, rng_len] at hml hmr
  have e2 : pyRng (ms.length : Int) = some (rng 0 ms.length) := rng_nat (by omega)
  have e3 : forL (m_law_b2 (cs.map enc) vs ms) (rng 0 ms.length) () = some (.nx ()) := forL_same fun x hx => by
    have hx' := mem_rng.mp hx
    obtain ⟨k, rfl⟩ : ∃ k : Nat, x = (k : Int) := ⟨x.toNat, by omega⟩
    obtain ⟨g, eg, rg⟩ := hmr k (by omega)
    have a1 : atI ms (k : Int) = some g := by rw [atI_nat2]; exact eg
    have a2 : cut (cs.map enc) none (some (k : Int)) = (cs.take k).map enc := by rw [cut_to, take_enc]
    have f1 := formed_ok (by rw [List.length_take]; omega) rg
    have c1 : compL (m_law_c1 (cs.map enc) ms (k : Int)) vs = some [] := by
      rw [compL_fil (p := fun _ => false) (g := fun x => x) fun v _ => ?_]
      · simp
      · obtain ⟨b, eb, hb⟩ := rg_in rg v
        obtain ⟨b2, eb2, hb2⟩ := all_ok v (cs.take k)
        have : b = b2 := by
          cases b with
          | true => exact (hb2.mpr (hb.mp rfl)).symm
          | false =>
            cases b2 with
            | false => rfl
            | true => exact absurd (hb.mpr (hb2.mp rfl)) (by decide)
        unfold m_law_c1
        rw [a1, bindO_s, eb, bindO_s, a2, eb2, bindO_s, letO_s, this, decide_eq_true rfl]
        rfl
    unfold m_law_b2
    simp only [letO_s, a1, a2, bindO_s, f1, c1, eq_ints_nil]
    have hz : (iteO (decide ((k : Int) % 5 = 0) || decide ((k : Int) = ((cs.map enc).length : Int))) (some (!true)) (some false)) = some false := by
      cases (decide ((k : Int) % 5 = 0) || decide ((k : Int) = ((cs.map enc).length : Int))) <;> rfl
    rw [hz, bindO_s, iteO_F]
    cases (decide ((k : Int) = ((cs.map enc).length : Int) / 2) || decide ((k : Int) = ((cs.map enc).length : Int))) <;> rfl
  obtain ⟨gb, e4, rb⟩ := forL_inv (ρ := Bool) (f := m_law_b3) (xs := (cs.map enc).reverse) (s := g0) (k := 0) (fun i g => RG (holes cs) g (AllS (cs.reverse.take i))) (by rw [List.take_zero]; exact r0') fun i x g hx hg => by
    rw [Nat.zero_add] at hg ⊢
    rw [← List.map_reverse, List.getElem?_map] at hx
    cases hc : cs.reverse[i]? with
    | none => rw [hc] at hx; cases hx
    | some c =>
      rw [hc] at hx
      cases hx
      have hm : c ∈ cs := List.mem_reverse.mp (List.mem_of_getElem? hc)
      obtain ⟨gs, eo, rs⟩ := rg_of (L := holes cs) c (hh _ hm)
      obtain ⟨g2, e2, r2⟩ := rg_andO hL rs hg
      refine ⟨g2, ?_, rg_imp r2 fun v => ?_⟩
      · unfold m_law_b3
        have eo' : m_Region_of (enc c).1 (enc c).2 = some (.ok gs) := eo
        rw [eo', bindO_s, okR_ok, bindO_s, e2, bindO_s, letO_s]
      · rw [List.take_add_one, hc]
        unfold AllS
        simp only [Option.toList, List.mem_append, List.mem_singleton]
        constructor
        · rintro ⟨b, a⟩ c' (h | rfl)
          · exact a c' h
          · exact b
        · intro a
          exact ⟨a _ (.inr rfl), fun c' h => a c' (.inl h)⟩
  rw [Nat.zero_add, List.length_reverse, List.length_map, ← List.length_reverse (as := cs), List.take_length] at rb
  obtain ⟨gl, egl, rl⟩ := hmr cs.length (Nat.le_refl _)
  rw [List.take_length] at rl
  have a5 : atI ms ((cs.map enc).length : Int) = some gl := by rw [List.length_map, atI_nat2]; exact egl
  have q := rg_eqT hL rb rl fun v => by
    unfold AllS
    simp only [List.mem_reverse]
  simp only [ec, ev, ep, bindO_s, letO_s, e1, em, stepO_N, e2, e3, e4, a5, q]
end Law

set_option maxHeartbeats 4000000
namespace Law
open PySem PySem.Spec PyProof.Rows L2 G
abbrev topS (i : Nat) : Stmt := PySem.Challenge.pw_shownwrites_k07_whole_conditions_meet.main.body.getD i (.Pass ⟨0, 0, 0, 0⟩)
abbrev s_between : Stmt := topS 5
abbrev N_between : List Str := ["low", "high", "number"]
theorem sc_between : FnScope N_between ["low", "high", "number"] (defScope s_between) := ⟨rfl, rfl, rfl, by decide +kernel, rfl, by decide +kernel, by decide +kernel⟩
abbrev s_one_form : Stmt := topS 6
abbrev N_one_form : List Str := ["low", "high", "without", "gaps", "start", "end", "number"]
theorem sc_one_form : FnScope N_one_form ["low", "high", "without"] (defScope s_one_form) := ⟨rfl, rfl, rfl, by decide +kernel, rfl, by decide +kernel, by decide +kernel⟩
abbrev s_size_of : Stmt := topS 7
abbrev N_size_of : List Str := ["low", "high", "without"]
theorem sc_size_of : FnScope N_size_of ["low", "high", "without"] (defScope s_size_of) := ⟨rfl, rfl, rfl, by decide +kernel, rfl, by decide +kernel, by decide +kernel⟩
abbrev s_Region___init : Stmt := inClass (topS 11) 0
abbrev N_Region___init : List Str := ["self", "low", "high", "without", "number"]
theorem sc_Region___init : FnScope N_Region___init ["self", "low", "high", "without"] (defScope s_Region___init) := ⟨rfl, rfl, rfl, by decide +kernel, rfl, by decide +kernel, by decide +kernel⟩
abbrev s_meet : Stmt := topS 8
abbrev N_meet : List Str := ["regions", "lows", "highs", "without", "region", "number"]
theorem sc_meet : FnScope N_meet ["regions"] (defScope s_meet) := ⟨rfl, rfl, rfl, by decide +kernel, rfl, by decide +kernel, by decide +kernel⟩
abbrev s_Region___contains : Stmt := inClass (topS 11) 1
abbrev N_Region___contains : List Str := ["self", "x"]
theorem sc_Region___contains : FnScope N_Region___contains ["self", "x"] (defScope s_Region___contains) := ⟨rfl, rfl, rfl, by decide +kernel, rfl, by decide +kernel, by decide +kernel⟩
abbrev s_Region___and : Stmt := inClass (topS 11) 2
abbrev N_Region___and : List Str := ["self", "other"]
theorem sc_Region___and : FnScope N_Region___and ["self", "other"] (defScope s_Region___and) := ⟨rfl, rfl, rfl, by decide +kernel, rfl, by decide +kernel, by decide +kernel⟩
abbrev s_Region___eq : Stmt := inClass (topS 11) 3
abbrev N_Region___eq : List Str := ["self", "other"]
theorem sc_Region___eq : FnScope N_Region___eq ["self", "other"] (defScope s_Region___eq) := ⟨rfl, rfl, rfl, by decide +kernel, rfl, by decide +kernel, by decide +kernel⟩
abbrev s_Region___bool : Stmt := inClass (topS 11) 4
abbrev N_Region___bool : List Str := ["self"]
theorem sc_Region___bool : FnScope N_Region___bool ["self"] (defScope s_Region___bool) := ⟨rfl, rfl, rfl, by decide +kernel, rfl, by decide +kernel, by decide +kernel⟩
abbrev s_Region_within : Stmt := inClass (topS 11) 6
abbrev N_Region_within : List Str := ["self", "other"]
theorem sc_Region_within : FnScope N_Region_within ["self", "other"] (defScope s_Region_within) := ⟨rfl, rfl, rfl, by decide +kernel, rfl, by decide +kernel, by decide +kernel⟩
abbrev s_Region_of : Stmt := inClass (topS 11) 9
abbrev N_Region_of : List Str := ["sign", "number"]
theorem sc_Region_of : FnScope N_Region_of ["sign", "number"] (defScope s_Region_of) := ⟨rfl, rfl, rfl, by decide +kernel, rfl, by decide +kernel, by decide +kernel⟩
abbrev s_l_stands : Stmt := topS 13
abbrev N_l_stands : List Str := ["_law_value", "_law_sign", "_law_number"]
theorem sc_l_stands : FnScope N_l_stands ["_law_value", "_law_sign", "_law_number"] (defScope s_l_stands) := ⟨rfl, rfl, rfl, by decide +kernel, rfl, by decide +kernel, by decide +kernel⟩
abbrev s_l_all : Stmt := topS 14
abbrev N_l_all : List Str := ["_law_conditions_here", "_law_value", "_law_sign", "_law_number"]
theorem sc_l_all : FnScope N_l_all ["_law_conditions_here", "_law_value"] (defScope s_l_all) := ⟨rfl, rfl, rfl, by decide +kernel, rfl, by decide +kernel, by decide +kernel⟩
abbrev s_l_conditions : Stmt := topS 15
abbrev N_l_conditions : List Str := ["_law_script", "_law_wide", "_law_signs", "_law_found", "_law_cell", "_law_sign", "_law_number"]
theorem sc_l_conditions : FnScope N_l_conditions ["_law_script"] (defScope s_l_conditions) := ⟨rfl, rfl, rfl, by decide +kernel, rfl, by decide +kernel, by decide +kernel⟩
abbrev s_l_values : Stmt := topS 16
abbrev N_l_values : List Str := ["_law_conditions_here", "_law_near", "_law_sign", "_law_number"]
theorem sc_l_values : FnScope N_l_values ["_law_conditions_here"] (defScope s_l_values) := ⟨rfl, rfl, rfl, by decide +kernel, rfl, by decide +kernel, by decide +kernel⟩
abbrev s_l_least : Stmt := topS 17
abbrev N_l_least : List Str := ["_law_conditions_here", "_law_lows", "_law_value", "_law_holes", "_law_k", "_law_condition"]
theorem sc_l_least : FnScope N_l_least ["_law_conditions_here"] (defScope s_l_least) := ⟨rfl, rfl, rfl, by decide +kernel, rfl, by decide +kernel, by decide +kernel⟩
abbrev s_l_greatest : Stmt := topS 18
abbrev N_l_greatest : List Str := ["_law_conditions_here", "_law_highs", "_law_value", "_law_holes", "_law_k", "_law_condition"]
theorem sc_l_greatest : FnScope N_l_greatest ["_law_conditions_here"] (defScope s_l_greatest) := ⟨rfl, rfl, rfl, by decide +kernel, rfl, by decide +kernel, by decide +kernel⟩
abbrev s_l_formed : Stmt := topS 19
abbrev N_l_formed : List Str := ["_law_region", "_law_conditions_here", "_law_least_here", "_law_most", "_law_out", "_law_condition", "_law_number", "_law_k"]
theorem sc_l_formed : FnScope N_l_formed ["_law_region", "_law_conditions_here"] (defScope s_l_formed) := ⟨rfl, rfl, rfl, by decide +kernel, rfl, by decide +kernel, by decide +kernel⟩
abbrev s_law : Stmt := topS 20
abbrev N_law : List Str := ["_law_script", "_law_conditions_here", "_law_values_here", "_law_meets", "_law_k", "_law_step", "_law_backward", "_law_sign", "_law_number", "_law_value"]
theorem sc_law : FnScope N_law ["_law_script"] (defScope s_law) := ⟨rfl, rfl, rfl, by decide +kernel, rfl, by decide +kernel, by decide +kernel⟩
abbrev s_e_BadSign : Stmt := inClass (topS 2) 0
theorem sc_e_BadSign : FnScope ["self", "sign"] ["self", "sign"] (defScope s_e_BadSign) := ⟨rfl, rfl, rfl, by decide +kernel, rfl, by decide +kernel, by decide +kernel⟩
structure Ad where
  f_between : Addr
  d_between : FuncData
  f_one_form : Addr
  d_one_form : FuncData
  f_size_of : Addr
  d_size_of : FuncData
  f_Region___init : Addr
  d_Region___init : FuncData
  f_meet : Addr
  d_meet : FuncData
  f_Region___contains : Addr
  d_Region___contains : FuncData
  f_Region___and : Addr
  d_Region___and : FuncData
  f_Region___eq : Addr
  d_Region___eq : FuncData
  f_Region___bool : Addr
  d_Region___bool : FuncData
  f_Region_within : Addr
  d_Region_within : FuncData
  f_Region_of : Addr
  d_Region_of : FuncData
  f_l_stands : Addr
  d_l_stands : FuncData
  f_l_all : Addr
  d_l_all : FuncData
  f_l_conditions : Addr
  d_l_conditions : FuncData
  f_l_values : Addr
  d_l_values : FuncData
  f_l_least : Addr
  d_l_least : FuncData
  f_l_greatest : Addr
  d_l_greatest : FuncData
  f_l_formed : Addr
  d_l_formed : FuncData
  f_law : Addr
  d_law : FuncData
  e_Region___init_2 : Addr
  z_Region___init_0 : List Value
  z_Region___init_2 : List Value
  z_Region___init_3 : List Value
  p_Region_of : Addr
  C_Region : Addr
  C_BadSign : Addr
  f_e_BadSign : Addr
  d_e_BadSign : FuncData
structure Txt (K : PySem.W.Frag) (mg : Str → Option Value) (a : Ad) : Prop where
  F_between : Fun K "between" "between" s_between a.f_between a.d_between
  g_between : mg "between" = some (.ref a.f_between)
  n_between : Binds K a.d_between ["low", "high", "number"] []
  F_one_form : Fun K "one_form" "one_form" s_one_form a.f_one_form a.d_one_form
  g_one_form : mg "one_form" = some (.ref a.f_one_form)
  n_one_form : Binds K a.d_one_form ["low", "high", "without"] []
  F_size_of : Fun K "size_of" "size_of" s_size_of a.f_size_of a.d_size_of
  g_size_of : mg "size_of" = some (.ref a.f_size_of)
  n_size_of : Binds K a.d_size_of ["low", "high", "without"] []
  F_Region___init : FunD K "__init__" "Region.__init__" (defArgs s_Region___init) (defBody s_Region___init) (defScope s_Region___init) [V.non, V.non, V.ref a.e_Region___init_2] [] a.f_Region___init a.d_Region___init
  t_Region___init_2 : EmpT K a.e_Region___init_2
  n_Region___init_0 : Binds K a.d_Region___init ["self", "low", "high", "without"] a.z_Region___init_0
  v_Region___init_0 : Vals [V.non, V.non, V.ref a.e_Region___init_2] a.z_Region___init_0
  n_Region___init_2 : Binds K a.d_Region___init ["self", "low", "high", "without"] a.z_Region___init_2
  v_Region___init_2 : Vals [V.ref a.e_Region___init_2] a.z_Region___init_2
  n_Region___init_3 : Binds K a.d_Region___init ["self", "low", "high", "without"] a.z_Region___init_3
  v_Region___init_3 : Vals [] a.z_Region___init_3
  F_meet : Fun K "meet" "meet" s_meet a.f_meet a.d_meet
  g_meet : mg "meet" = some (.ref a.f_meet)
  n_meet : Binds K a.d_meet ["regions"] []
  F_Region___contains : Fun K "__contains__" "Region.__contains__" s_Region___contains a.f_Region___contains a.d_Region___contains
  n_Region___contains : Binds K a.d_Region___contains ["self", "x"] []
  F_Region___and : Fun K "__and__" "Region.__and__" s_Region___and a.f_Region___and a.d_Region___and
  n_Region___and : Binds K a.d_Region___and ["self", "other"] []
  F_Region___eq : Fun K "__eq__" "Region.__eq__" s_Region___eq a.f_Region___eq a.d_Region___eq
  n_Region___eq : Binds K a.d_Region___eq ["self", "other"] []
  F_Region___bool : Fun K "__bool__" "Region.__bool__" s_Region___bool a.f_Region___bool a.d_Region___bool
  n_Region___bool : Binds K a.d_Region___bool ["self"] []
  F_Region_within : Fun K "within" "Region.within" s_Region_within a.f_Region_within a.d_Region_within
  n_Region_within : Binds K a.d_Region_within ["self", "other"] []
  F_Region_of : Fun K "of" "Region.of" s_Region_of a.f_Region_of a.d_Region_of
  n_Region_of : Binds K a.d_Region_of ["sign", "number"] []
  F_l_stands : Fun K "_law_stands" "_law_stands" s_l_stands a.f_l_stands a.d_l_stands
  g_l_stands : mg "_law_stands" = some (.ref a.f_l_stands)
  n_l_stands : Binds K a.d_l_stands ["_law_value", "_law_sign", "_law_number"] []
  F_l_all : Fun K "_law_all" "_law_all" s_l_all a.f_l_all a.d_l_all
  g_l_all : mg "_law_all" = some (.ref a.f_l_all)
  n_l_all : Binds K a.d_l_all ["_law_conditions_here", "_law_value"] []
  F_l_conditions : Fun K "_law_conditions" "_law_conditions" s_l_conditions a.f_l_conditions a.d_l_conditions
  g_l_conditions : mg "_law_conditions" = some (.ref a.f_l_conditions)
  n_l_conditions : Binds K a.d_l_conditions ["_law_script"] []
  F_l_values : Fun K "_law_values" "_law_values" s_l_values a.f_l_values a.d_l_values
  g_l_values : mg "_law_values" = some (.ref a.f_l_values)
  n_l_values : Binds K a.d_l_values ["_law_conditions_here"] []
  F_l_least : Fun K "_law_least" "_law_least" s_l_least a.f_l_least a.d_l_least
  g_l_least : mg "_law_least" = some (.ref a.f_l_least)
  n_l_least : Binds K a.d_l_least ["_law_conditions_here"] []
  F_l_greatest : Fun K "_law_greatest" "_law_greatest" s_l_greatest a.f_l_greatest a.d_l_greatest
  g_l_greatest : mg "_law_greatest" = some (.ref a.f_l_greatest)
  n_l_greatest : Binds K a.d_l_greatest ["_law_conditions_here"] []
  F_l_formed : Fun K "_law_formed" "_law_formed" s_l_formed a.f_l_formed a.d_l_formed
  g_l_formed : mg "_law_formed" = some (.ref a.f_l_formed)
  n_l_formed : Binds K a.d_l_formed ["_law_region", "_law_conditions_here"] []
  F_law : Fun K "law" "law" s_law a.f_law a.d_law
  g_law : mg "law" = some (.ref a.f_law)
  n_law : Binds K a.d_law ["_law_script"] []
  b_bool : mg "bool" = none
  b_int : mg "int" = none
  b_isinstance : mg "isinstance" = none
  b_len : mg "len" = none
  b_max : mg "max" = none
  b_min : mg "min" = none
  b_range : mg "range" = none
  b_set : mg "set" = none
  b_sorted : mg "sorted" = none
  b_tuple : mg "tuple" = none
  g_Region : mg "Region" = some (.ref a.C_Region)
  cl_Region : Cls K a.C_Region
  na_Region_low : NoAttr K a.C_Region "low"
  na_Region_high : NoAttr K a.C_Region "high"
  na_Region_without : NoAttr K a.C_Region "without"
  na_Region_size : NoAttr K a.C_Region "size"
  na_Region_value : NoAttr K a.C_Region "value"
  na_Region__gaps : NoAttr K a.C_Region "_gaps"
  M_Region : Mk K a.C_Region a.f_Region___init
  ct_Region : ClsT K a.C_Region
  q_Region_Region : PySem.W.kitOne K (.ref a.C_Region) (.ref a.C_Region) = some true
  me_Region___eq : Meth K a.C_Region "__eq__" a.f_Region___eq
  nf_Region_Region : PySem.W.notFirst K a.C_Region (.ref a.C_Region) = true
  g_BadSign : mg "BadSign" = some (.ref a.C_BadSign)
  me_Region___bool : Meth K a.C_Region "__bool__" a.f_Region___bool
  cr_Region : ClX.CRead K a.C_Region (.type "type")
  sm_Region_of : SMet K a.C_Region (.type "type") "of" a.p_Region_of a.f_Region_of
  me_Region___and : Meth K a.C_Region "__and__" a.f_Region___and
  sf_Region : PySem.W.selfFirst K a.C_Region = true
  me_Region_within : Meth K a.C_Region "within" a.f_Region_within
  me_Region___contains : Meth K a.C_Region "__contains__" a.f_Region___contains
  na_BadSign_sign : PySem.W.findIn K (.ref a.C_BadSign) "sign" = some none
  x_BadSign : OexC K a.C_BadSign
  i_BadSign : PySem.W.findIn K (.ref a.C_BadSign) "__init__" = some (some (.ref a.f_e_BadSign))
  t_BadSign : PySem.W.typeIn K (.ref a.f_e_BadSign) = some (.type "function")
  F_e_BadSign : Fun K "__init__" "BadSign.__init__" s_e_BadSign a.f_e_BadSign a.d_e_BadSign
  n_e_BadSign : Binds K a.d_e_BadSign ["self", "sign"] []
section
variable {P : Program} {w : World} {K : PySem.W.Frag} {mg : Str → Option Value} {base : Heap} {a : Ad}
theorem ok_e_BadSign (T : Txt K mg a) : FnOk P w K mg base CX0 1 a.f_e_BadSign a.d_e_BadSign ["self", "sign"] (SpE1 a.C_BadSign "sign") := okE1 T.F_e_BadSign sc_e_BadSign T.x_BadSign T.na_BadSign_sign rfl rfl rfl (Or.inl rfl) (Or.inl rfl) (by decide) (by decide) rfl
theorem ok_between (T : Txt K mg a) : FnOk P w K mg base CX0 1 a.f_between a.d_between ["low", "high", "number"] (SpP (wC (rOpt rInt) (wC (rOpt rInt) (w1 rInt))) rBool (fun x => m_between x.1 x.2.1 x.2.2)) := by
  refine T.F_between.ok sc_between (fun vs H Q E h => ?_) (fun cdv A outer s H vs Q E hr h => ?_)
  · obtain ⟨B, x, b, z, sm, hw, h, kr⟩ := h
    rw [WLen.len hw]; rfl
  · obtain ⟨B, ⟨low0, high0, number0⟩, b, z, sm, hw, h, kr⟩ := h
    have h : m_between low0 high0 number0 = some b := h
    refine ⟨_, (pss_cons (ps_ret (pe_and (pe_or (pe_cmp (pc_isN (pv 0)) rfl) (pe_one (pe_cmpR op_le (pv 0) (pv 2) (nomark _)))) (pe_one (pe_or (pe_cmp (pc_isN (pv 1)) rfl) (pe_one (pe_cmpR op_le (pv 2) (pv 1) (nomark _))))))) pss_nil), ?_⟩
    refine nx_go (frm_start (N := N_between) (n := 0) z sm hw (by rw [WLen.len hw]; rfl)) ?_
    show Nx _ _ [.imm (rOpt rInt) low0, .imm (rOpt rInt) high0, .imm rInt number0]
    unfold m_between at h
    obtain ⟨c3, hc3, h⟩ := letO_some h
    obtain ⟨b2, hb2, h⟩ := bindO_some h
    obtain ⟨c8, hc8, h⟩ := letO_some h
    obtain ⟨b7, hb7, h⟩ := bindO_some h
    exact (sq_ret (ev_and (ev_to (ev_or (ev_to (ev_isN (ev_var rfl)) hc3.symm) (fun hc => by have hx := iteO_f hc hb2; obtain ⟨g1, hg1, hx⟩ := bindO_some hx; exact ev_to (ev_le (ev_get (ev_var rfl) hg1) (ev_var rfl)) (Option.some.inj hx)) (fun hc => ⟨(Option.some.inj (iteO_t hc hb2)).symm, rfl⟩)) hc8.symm) (fun hc => by have hx := iteO_t hc hb7; obtain ⟨c6, hc6, hx⟩ := letO_some hx; obtain ⟨b5, hb5, hx⟩ := bindO_some hx; exact ev_to (ev_or (ev_to (ev_isN (ev_var rfl)) hc6.symm) (fun hc => by have hx := iteO_f hc hb5; obtain ⟨g4, hg4, hx⟩ := bindO_some hx; exact ev_to (ev_le (ev_var rfl) (ev_get (ev_var rfl) hg4)) (Option.some.inj hx)) (fun hc => ⟨(Option.some.inj (iteO_t hc hb5)).symm, rfl⟩)) (Option.some.inj hx)) (fun hc => ⟨(Option.some.inj (iteO_f hc hb7)).symm, rfl⟩)) h kr)
theorem ok_one_form (T : Txt K mg a) : FnOk P w K mg base CX0 2 a.f_one_form a.d_one_form ["low", "high", "without"] (SpP (wC (rOpt rInt) (wC (rOpt rInt) (w1 (rOb (cLst rInt))))) (rOb (cTup (wC (rOpt rInt) (wC (rOpt rInt) (w1 (rOb (cTpl rInt))))))) (fun x => m_one_form x.1 x.2.1 x.2.2)) := by
  refine T.F_one_form.ok sc_one_form (fun vs H Q E h => ?_) (fun cdv A outer s H vs Q E hr h => ?_)
  · obtain ⟨B, x, b, z, sm, hw, h, kr⟩ := h
    rw [WLen.len hw]; rfl
  · obtain ⟨B, ⟨low0, high0, without0⟩, b, z, sm, hw, h, kr⟩ := h
    have h : m_one_form low0 high0 without0 = some b := h
    refine ⟨_, (pss_cons (ps_set (i := 3) sc_one_form.nd rfl (by first | exact Or.inl rfl | exact Or.inr rfl) (pe_callB (sortedSetK (wd := w) rfl rfl) (by rfl) T.b_sorted (by decide +kernel) (pa_cons (pe_callTy (cr_setI2 (K := K) rfl rfl) (by rfl) T.b_set (by decide +kernel) (pa_cons (pe_lc (own := [("number", 6)]) rfl sc_one_form.nd (pi_list (pv 2)) (blkOk_by (N := N_one_form) (sc := defScope s_one_form) (by decide +kernel)) (fun _ _ _ _ _ => (pg_name (i := 6) sc_one_form.nd rfl (by first | exact Or.inl rfl | exact Or.inr rfl))) (fun _ _ _ _ _ => (pts_one (pt_val (pe_call (ok_between T) (hr.mono (by decide)) rfl T.g_between T.F_between.kp T.n_between .nil pass0 (pa_cons (pv 0) (pa_cons (pv 1) (pa_cons (pv 6) pa_nil))))))) (fun _ _ _ _ _ => (pv 6))) pa_nil)) pa_nil))) (pss_cons (ps_set (i := 4) sc_one_form.nd rfl (by first | exact Or.inl rfl | exact Or.inr rfl) pe_int) (pss_cons (ps_while PassesOwn.never (PW.pt (pw_and (pt_cmpR op_lt (pv 4) (pe_callB (len_seqK (K := K) rfl) (by rfl) T.b_len (by decide +kernel) (pa_cons (pv 3) pa_nil)) (nomark _)) (pw_and1 (pt_cmpR op_eq (pe_ix (ix_listK (K := K) rfl) (pv 3) (pv 4) (fun _ _ => rfl)) (pv 0) (nomark _))))) (pss_cons (ps_set (i := 0) sc_one_form.nd rfl (by first | exact Or.inl rfl | exact Or.inr rfl) (pe_op op_add (pv 0) pe_int)) (pss_cons (ps_set (i := 4) sc_one_form.nd rfl (by first | exact Or.inl rfl | exact Or.inr rfl) (pe_op op_add (pv 4) pe_int)) pss_nil))) (pss_cons (ps_set (i := 5) sc_one_form.nd rfl (by first | exact Or.inl rfl | exact Or.inr rfl) (pe_callB (len_seqK (K := K) rfl) (by rfl) T.b_len (by decide +kernel) (pa_cons (pv 3) pa_nil))) (pss_cons (ps_while PassesOwn.never (PW.pt (pw_and (pt_cmpR op_gt (pv 5) (pv 4) (nomark _)) (pw_and1 (pt_cmpR op_eq (pe_ix (ix_listK (K := K) rfl) (pv 3) (pe_op op_sub (pv 5) pe_int) (fun _ _ => rfl)) (pv 1) (nomark _))))) (pss_cons (ps_set (i := 1) sc_one_form.nd rfl (by first | exact Or.inl rfl | exact Or.inr rfl) (pe_op op_sub (pv 1) pe_int)) (pss_cons (ps_set (i := 5) sc_one_form.nd rfl (by first | exact Or.inl rfl | exact Or.inr rfl) (pe_op op_sub (pv 5) pe_int)) pss_nil))) (pss_cons (ps_if (PW.pt (pw_and (pt_cmp (pc_notN (pv 0))) (pw_and (pt_cmp (pc_notN (pv 1))) (pw_and1 (pt_cmpR op_gt (pv 0) (pv 1) (nomark _)))))) (pss_cons (ps_ret (pe_tup (pa_cons pe_int (pa_cons pe_int (pa_cons (pe_tup pa_nil) pa_nil))))) pss_nil) pss_nil) (pss_cons (ps_ret (pe_tup (pa_cons (pv 0) (pa_cons (pv 1) (pa_cons (pe_callTy (tuple_ofK (K := K) rfl) (by rfl) T.b_tuple (by decide +kernel) (pa_cons (pe_slice (sl_listK (K := K) rfl) (pv 3) (po_some (pv 4)) (po_some (pv 5))) pa_nil)) pa_nil))))) pss_nil))))))), ?_⟩
    refine nx_go (frm_start (N := N_one_form) (n := 4) z sm hw (by rw [WLen.len hw]; rfl)) ?_
    show Nx _ _ [.imm (rOpt rInt) low0, .imm (rOpt rInt) high0, .imm (rOb (cLst rInt)) without0, .no, .no, .no, .no]
    unfold m_one_form at h
    obtain ⟨l4, hl4, h⟩ := bindO_some h
    obtain ⟨l5, hl5, h⟩ := bindO_some h
    obtain ⟨gaps6, hgaps6, h⟩ := letO_some h
    refine (sq_asg (ev_to (ev_new (ec_sortSet2 (ev_new (ec_lc (m_one_form_c1 low0 high0) (it_list (ev_var rfl)) hl4 tg_name (fun k hk => hk) (by rfl) (fun _ => by rfl) (fun number1 o ho => by unfold m_one_form_c1 at ho; obtain ⟨v2, hv2, ho⟩ := bindO_some ho; obtain ⟨c3, hc3, ho⟩ := letO_some ho; cases c3 with | true => (have ho : (some (some number1)) = some o := ho; cases ho; exact ⟨et_to (et_B (ev_call (ew_C (ev_var rfl) (ew_C (ev_var rfl) (ew_1 (ev_var rfl)))) hv2)) hc3.symm, fun y hy => by cases hy; exact ev_to (ev_var rfl) rfl⟩) | false => (have ho : some none = some o := ho; cases ho; exact ⟨et_to (et_B (ev_call (ew_C (ev_var rfl) (ew_C (ev_var rfl) (ew_1 (ev_var rfl)))) hv2)) hc3.symm, fun y hy => by cases hy⟩)))) hl5)) hgaps6.symm) ?_)
    show Nx _ _ [.imm (rOpt rInt) low0, .imm (rOpt rInt) high0, .imm (rOb (cLst rInt)) without0, .imm (rOb (cLst rInt)) gaps6, .no, .no, .no]
    obtain ⟨start7, hstart7, h⟩ := letO_some h
    refine (sq_asg (ev_to ev_int hstart7.symm) ?_)
    show Nx _ _ [.imm (rOpt rInt) low0, .imm (rOpt rInt) high0, .imm (rOb (cLst rInt)) without0, .imm (rOb (cLst rInt)) gaps6, .imm rInt start7, .no, .no]
    obtain ⟨R15, hR15, h⟩ := bindO_some h
    refine (sq_while (ψ := psi (rOb (cTup (wC (rOpt rInt) (wC (rOpt rInt) (w1 (rOb (cTpl rInt)))))))) (m_one_form_w1 gaps6) (m_one_form_b1) (fun z => [.imm (rOpt rInt) z.1, .imm (rOpt rInt) high0, .imm (rOb (cLst rInt)) without0, .imm (rOb (cLst rInt)) gaps6, .imm rInt z.2, .no, .no]) hR15 ?_ (fun s8 b hc => ?_) (fun D1 s8 st h k1 => ?_) ?_ ?_)
    · exact nx_fin
    · have h : m_one_form_w1 gaps6 s8 = some b := hc
      unfold m_one_form_w1 at h
      obtain ⟨c11, hc11, h⟩ := letO_some h
      obtain ⟨b10, hb10, h⟩ := bindO_some h
      exact et_to (et_and (et_to (et_T (ev_lt (ev_var rfl) (ev_lenL (ev_var rfl)))) hc11.symm) (fun hc => by have hx := iteO_t hc hb10; obtain ⟨y9, hy9, hx⟩ := bindO_some hx; exact et_to (et_T (ev_eqS scOI (ev_some nn_int (ev_ixL (ev_var rfl) (ev_var rfl) hy9)) (ev_var rfl) (sc_oi _ _))) (Option.some.inj hx)) (fun hc => ⟨(Option.some.inj (iteO_f hc hb10)).symm, rfl⟩)) (Option.some.inj h)
    · show Nx _ _ [.imm (rOpt rInt) s8.1, .imm (rOpt rInt) high0, .imm (rOb (cLst rInt)) without0, .imm (rOb (cLst rInt)) gaps6, .imm rInt s8.2, .no, .no]
      unfold m_one_form_b1 at h
      obtain ⟨g12, hg12, h⟩ := bindO_some h
      obtain ⟨low13, hlow13, h⟩ := letO_some h
      refine (sq_asg (ev_to (ev_some nn_int (ev_add (ev_get (ev_var rfl) hg12) ev_int)) hlow13.symm) ?_)
      show Nx _ _ [.imm (rOpt rInt) low13, .imm (rOpt rInt) high0, .imm (rOb (cLst rInt)) without0, .imm (rOb (cLst rInt)) gaps6, .imm rInt s8.2, .no, .no]
      obtain ⟨start14, hstart14, h⟩ := letO_some h
      refine (sq_asg (ev_to (ev_add (ev_var rfl) ev_int) hstart14.symm) ?_)
      show Nx _ _ [.imm (rOpt rInt) low13, .imm (rOpt rInt) high0, .imm (rOb (cLst rInt)) without0, .imm (rOb (cLst rInt)) gaps6, .imm rInt start14, .no, .no]
      refine nx_next ?_
      exact k1.nx _ (Option.some.inj h).symm
    · intro b e
      subst e
      obtain rfl := stepO_ret h; exact kr
    · intro e16 e
      subst e
      have h := stepO_nx h
      show Nx _ _ [.imm (rOpt rInt) e16.1, .imm (rOpt rInt) high0, .imm (rOb (cLst rInt)) without0, .imm (rOb (cLst rInt)) gaps6, .imm rInt e16.2, .no, .no]
      obtain ⟨end17, hend17, h⟩ := letO_some h
      refine (sq_asg (ev_to (ev_lenL (ev_var rfl)) hend17.symm) ?_)
      show Nx _ _ [.imm (rOpt rInt) e16.1, .imm (rOpt rInt) high0, .imm (rOb (cLst rInt)) without0, .imm (rOb (cLst rInt)) gaps6, .imm rInt e16.2, .imm rInt end17, .no]
      obtain ⟨R25, hR25, h⟩ := bindO_some h
      refine (sq_while (ψ := psi (rOb (cTup (wC (rOpt rInt) (wC (rOpt rInt) (w1 (rOb (cTpl rInt)))))))) (m_one_form_w2 gaps6 e16) (m_one_form_b2) (fun z => [.imm (rOpt rInt) e16.1, .imm (rOpt rInt) z.1, .imm (rOb (cLst rInt)) without0, .imm (rOb (cLst rInt)) gaps6, .imm rInt e16.2, .imm rInt z.2, .no]) hR25 ?_ (fun s18 b hc => ?_) (fun D1 s18 st h k1 => ?_) ?_ ?_)
      · exact nx_fin
      · have h : m_one_form_w2 gaps6 e16 s18 = some b := hc
        unfold m_one_form_w2 at h
        obtain ⟨c21, hc21, h⟩ := letO_some h
        obtain ⟨b20, hb20, h⟩ := bindO_some h
        exact et_to (et_and (et_to (et_T (ev_gt (ev_var rfl) (ev_var rfl))) hc21.symm) (fun hc => by have hx := iteO_t hc hb20; obtain ⟨y19, hy19, hx⟩ := bindO_some hx; exact et_to (et_T (ev_eqS scOI (ev_some nn_int (ev_ixL (ev_var rfl) (ev_sub (ev_var rfl) ev_int) hy19)) (ev_var rfl) (sc_oi _ _))) (Option.some.inj hx)) (fun hc => ⟨(Option.some.inj (iteO_f hc hb20)).symm, rfl⟩)) (Option.some.inj h)
      · show Nx _ _ [.imm (rOpt rInt) e16.1, .imm (rOpt rInt) s18.1, .imm (rOb (cLst rInt)) without0, .imm (rOb (cLst rInt)) gaps6, .imm rInt e16.2, .imm rInt s18.2, .no]
        unfold m_one_form_b2 at h
        obtain ⟨g22, hg22, h⟩ := bindO_some h
        obtain ⟨high23, hhigh23, h⟩ := letO_some h
        refine (sq_asg (ev_to (ev_some nn_int (ev_sub (ev_get (ev_var rfl) hg22) ev_int)) hhigh23.symm) ?_)
        show Nx _ _ [.imm (rOpt rInt) e16.1, .imm (rOpt rInt) high23, .imm (rOb (cLst rInt)) without0, .imm (rOb (cLst rInt)) gaps6, .imm rInt e16.2, .imm rInt s18.2, .no]
        obtain ⟨end24, hend24, h⟩ := letO_some h
        refine (sq_asg (ev_to (ev_sub (ev_var rfl) ev_int) hend24.symm) ?_)
        show Nx _ _ [.imm (rOpt rInt) e16.1, .imm (rOpt rInt) high23, .imm (rOb (cLst rInt)) without0, .imm (rOb (cLst rInt)) gaps6, .imm rInt e16.2, .imm rInt end24, .no]
        refine nx_next ?_
        exact k1.nx _ (Option.some.inj h).symm
      · intro b e
        subst e
        obtain rfl := stepO_ret h; exact kr
      · intro e26 e
        subst e
        have h := stepO_nx h
        show Nx _ _ [.imm (rOpt rInt) e16.1, .imm (rOpt rInt) e26.1, .imm (rOb (cLst rInt)) without0, .imm (rOb (cLst rInt)) gaps6, .imm rInt e16.2, .imm rInt e26.2, .no]
        obtain ⟨c32, hc32, h⟩ := letO_some h
        obtain ⟨b31, hb31, h⟩ := bindO_some h
        obtain ⟨c33, hc33, h⟩ := letO_some h
        refine (sq_if (et_to (et_and (et_to (et_B (ev_notN (ev_var rfl))) hc32.symm) (fun hc => by have hx := iteO_t hc hb31; obtain ⟨c30, hc30, hx⟩ := letO_some hx; obtain ⟨b29, hb29, hx⟩ := bindO_some hx; exact et_to (et_and (et_to (et_B (ev_notN (ev_var rfl))) hc30.symm) (fun hc => by have hx := iteO_t hc hb29; obtain ⟨g27, hg27, hx⟩ := bindO_some hx; obtain ⟨g28, hg28, hx⟩ := bindO_some hx; exact et_to (et_T (ev_gt (ev_get (ev_var rfl) hg27) (ev_get (ev_var rfl) hg28))) (Option.some.inj hx)) (fun hc => ⟨(Option.some.inj (iteO_f hc hb29)).symm, rfl⟩)) (Option.some.inj hx)) (fun hc => ⟨(Option.some.inj (iteO_f hc hb31)).symm, rfl⟩)) hc33.symm) (fun hc => ?_) (fun hc => ?_))
        · have h := iteO_t hc h
          exact (sq_ret (ev_new (ec_tup (ew_C (ev_some nn_int ev_int) (ew_C (ev_some nn_int ev_int) (ew_1 (ev_new (ec_tpl eh_0 (Nat.le_of_ble_eq_true rfl)))))))) h kr)
        · have h := iteO_f hc h
          refine nx_next ?_
          try dsimp only
          exact (sq_ret (ev_new (ec_tup (ew_C (ev_var rfl) (ew_C (ev_var rfl) (ew_1 (ev_new (ec_tupL (ev_new (ec_slL (ev_var rfl) (eo_some (ev_var rfl)) (eo_some (ev_var rfl))))))))))) h kr)
theorem ok_one_form_Vk (T : Txt K mg a) : FnOk P w K mg base CX0 2 a.f_one_form a.d_one_form ["low", "high", "without"] (SpP (wC (rOpt rInt) (wC (rOpt rInt) (w1 (rTK K rInt)))) (rOb (cTup (wC (rOpt rInt) (wC (rOpt rInt) (w1 (rOb (cTpl rInt))))))) (fun x => m_one_form_Vk x.1 x.2.1 x.2.2)) := by
  refine T.F_one_form.ok sc_one_form (fun vs H Q E h => ?_) (fun cdv A outer s H vs Q E hr h => ?_)
  · obtain ⟨B, x, b, z, sm, hw, h, kr⟩ := h
    rw [WLen.len hw]; rfl
  · obtain ⟨B, ⟨low0, high0, without0⟩, b, z, sm, hw, h, kr⟩ := h
    have h : m_one_form_Vk low0 high0 without0 = some b := h
    refine ⟨_, (pss_cons (ps_set (i := 3) sc_one_form.nd rfl (by first | exact Or.inl rfl | exact Or.inr rfl) (pe_callB (sortedSetK (wd := w) rfl rfl) (by rfl) T.b_sorted (by decide +kernel) (pa_cons (pe_callTy (cr_setI2 (K := K) rfl rfl) (by rfl) T.b_set (by decide +kernel) (pa_cons (pe_lc (own := [("number", 6)]) rfl sc_one_form.nd (pi_tup (pv 2)) (blkOk_by (N := N_one_form) (sc := defScope s_one_form) (by decide +kernel)) (fun _ _ _ _ _ => (pg_name (i := 6) sc_one_form.nd rfl (by first | exact Or.inl rfl | exact Or.inr rfl))) (fun _ _ _ _ _ => (pts_one (pt_val (pe_call (ok_between T) (hr.mono (by decide)) rfl T.g_between T.F_between.kp T.n_between .nil pass0 (pa_cons (pv 0) (pa_cons (pv 1) (pa_cons (pv 6) pa_nil))))))) (fun _ _ _ _ _ => (pv 6))) pa_nil)) pa_nil))) (pss_cons (ps_set (i := 4) sc_one_form.nd rfl (by first | exact Or.inl rfl | exact Or.inr rfl) pe_int) (pss_cons (ps_while PassesOwn.never (PW.pt (pw_and (pt_cmpR op_lt (pv 4) (pe_callB (len_seqK (K := K) rfl) (by rfl) T.b_len (by decide +kernel) (pa_cons (pv 3) pa_nil)) (nomark _)) (pw_and1 (pt_cmpR op_eq (pe_ix (ix_listK (K := K) rfl) (pv 3) (pv 4) (fun _ _ => rfl)) (pv 0) (nomark _))))) (pss_cons (ps_set (i := 0) sc_one_form.nd rfl (by first | exact Or.inl rfl | exact Or.inr rfl) (pe_op op_add (pv 0) pe_int)) (pss_cons (ps_set (i := 4) sc_one_form.nd rfl (by first | exact Or.inl rfl | exact Or.inr rfl) (pe_op op_add (pv 4) pe_int)) pss_nil))) (pss_cons (ps_set (i := 5) sc_one_form.nd rfl (by first | exact Or.inl rfl | exact Or.inr rfl) (pe_callB (len_seqK (K := K) rfl) (by rfl) T.b_len (by decide +kernel) (pa_cons (pv 3) pa_nil))) (pss_cons (ps_while PassesOwn.never (PW.pt (pw_and (pt_cmpR op_gt (pv 5) (pv 4) (nomark _)) (pw_and1 (pt_cmpR op_eq (pe_ix (ix_listK (K := K) rfl) (pv 3) (pe_op op_sub (pv 5) pe_int) (fun _ _ => rfl)) (pv 1) (nomark _))))) (pss_cons (ps_set (i := 1) sc_one_form.nd rfl (by first | exact Or.inl rfl | exact Or.inr rfl) (pe_op op_sub (pv 1) pe_int)) (pss_cons (ps_set (i := 5) sc_one_form.nd rfl (by first | exact Or.inl rfl | exact Or.inr rfl) (pe_op op_sub (pv 5) pe_int)) pss_nil))) (pss_cons (ps_if (PW.pt (pw_and (pt_cmp (pc_notN (pv 0))) (pw_and (pt_cmp (pc_notN (pv 1))) (pw_and1 (pt_cmpR op_gt (pv 0) (pv 1) (nomark _)))))) (pss_cons (ps_ret (pe_tup (pa_cons pe_int (pa_cons pe_int (pa_cons (pe_tup pa_nil) pa_nil))))) pss_nil) pss_nil) (pss_cons (ps_ret (pe_tup (pa_cons (pv 0) (pa_cons (pv 1) (pa_cons (pe_callTy (tuple_ofK (K := K) rfl) (by rfl) T.b_tuple (by decide +kernel) (pa_cons (pe_slice (sl_listK (K := K) rfl) (pv 3) (po_some (pv 4)) (po_some (pv 5))) pa_nil)) pa_nil))))) pss_nil))))))), ?_⟩
    refine nx_go (frm_start (N := N_one_form) (n := 4) z sm hw (by rw [WLen.len hw]; rfl)) ?_
    show Nx _ _ [.imm (rOpt rInt) low0, .imm (rOpt rInt) high0, .imm (rTK K rInt) without0, .no, .no, .no, .no]
    unfold m_one_form_Vk at h
    obtain ⟨l4, hl4, h⟩ := bindO_some h
    obtain ⟨l5, hl5, h⟩ := bindO_some h
    obtain ⟨gaps6, hgaps6, h⟩ := letO_some h
    refine (sq_asg (ev_to (ev_new (ec_sortSet2 (ev_new (ec_lc (m_one_form_Vk_c1 low0 high0) (it_tk (ev_var rfl)) hl4 tg_name (fun k hk => hk) (by rfl) (fun _ => by rfl) (fun number1 o ho => by unfold m_one_form_Vk_c1 at ho; obtain ⟨v2, hv2, ho⟩ := bindO_some ho; obtain ⟨c3, hc3, ho⟩ := letO_some ho; cases c3 with | true => (have ho : (some (some number1)) = some o := ho; cases ho; exact ⟨et_to (et_B (ev_call (ew_C (ev_var rfl) (ew_C (ev_var rfl) (ew_1 (ev_var rfl)))) hv2)) hc3.symm, fun y hy => by cases hy; exact ev_to (ev_var rfl) rfl⟩) | false => (have ho : some none = some o := ho; cases ho; exact ⟨et_to (et_B (ev_call (ew_C (ev_var rfl) (ew_C (ev_var rfl) (ew_1 (ev_var rfl)))) hv2)) hc3.symm, fun y hy => by cases hy⟩)))) hl5)) hgaps6.symm) ?_)
    show Nx _ _ [.imm (rOpt rInt) low0, .imm (rOpt rInt) high0, .imm (rTK K rInt) without0, .imm (rOb (cLst rInt)) gaps6, .no, .no, .no]
    obtain ⟨start7, hstart7, h⟩ := letO_some h
    refine (sq_asg (ev_to ev_int hstart7.symm) ?_)
    show Nx _ _ [.imm (rOpt rInt) low0, .imm (rOpt rInt) high0, .imm (rTK K rInt) without0, .imm (rOb (cLst rInt)) gaps6, .imm rInt start7, .no, .no]
    obtain ⟨R15, hR15, h⟩ := bindO_some h
    refine (sq_while (ψ := psi (rOb (cTup (wC (rOpt rInt) (wC (rOpt rInt) (w1 (rOb (cTpl rInt)))))))) (m_one_form_Vk_w1 gaps6) (m_one_form_Vk_b1) (fun z => [.imm (rOpt rInt) z.1, .imm (rOpt rInt) high0, .imm (rTK K rInt) without0, .imm (rOb (cLst rInt)) gaps6, .imm rInt z.2, .no, .no]) hR15 ?_ (fun s8 b hc => ?_) (fun D1 s8 st h k1 => ?_) ?_ ?_)
    · exact nx_fin
    · have h : m_one_form_Vk_w1 gaps6 s8 = some b := hc
      unfold m_one_form_Vk_w1 at h
      obtain ⟨c11, hc11, h⟩ := letO_some h
      obtain ⟨b10, hb10, h⟩ := bindO_some h
      exact et_to (et_and (et_to (et_T (ev_lt (ev_var rfl) (ev_lenL (ev_var rfl)))) hc11.symm) (fun hc => by have hx := iteO_t hc hb10; obtain ⟨y9, hy9, hx⟩ := bindO_some hx; exact et_to (et_T (ev_eqS scOI (ev_some nn_int (ev_ixL (ev_var rfl) (ev_var rfl) hy9)) (ev_var rfl) (sc_oi _ _))) (Option.some.inj hx)) (fun hc => ⟨(Option.some.inj (iteO_f hc hb10)).symm, rfl⟩)) (Option.some.inj h)
    · show Nx _ _ [.imm (rOpt rInt) s8.1, .imm (rOpt rInt) high0, .imm (rTK K rInt) without0, .imm (rOb (cLst rInt)) gaps6, .imm rInt s8.2, .no, .no]
      unfold m_one_form_Vk_b1 at h
      obtain ⟨g12, hg12, h⟩ := bindO_some h
      obtain ⟨low13, hlow13, h⟩ := letO_some h
      refine (sq_asg (ev_to (ev_some nn_int (ev_add (ev_get (ev_var rfl) hg12) ev_int)) hlow13.symm) ?_)
      show Nx _ _ [.imm (rOpt rInt) low13, .imm (rOpt rInt) high0, .imm (rTK K rInt) without0, .imm (rOb (cLst rInt)) gaps6, .imm rInt s8.2, .no, .no]
      obtain ⟨start14, hstart14, h⟩ := letO_some h
      refine (sq_asg (ev_to (ev_add (ev_var rfl) ev_int) hstart14.symm) ?_)
      show Nx _ _ [.imm (rOpt rInt) low13, .imm (rOpt rInt) high0, .imm (rTK K rInt) without0, .imm (rOb (cLst rInt)) gaps6, .imm rInt start14, .no, .no]
      refine nx_next ?_
      exact k1.nx _ (Option.some.inj h).symm
    · intro b e
      subst e
      obtain rfl := stepO_ret h; exact kr
    · intro e16 e
      subst e
      have h := stepO_nx h
      show Nx _ _ [.imm (rOpt rInt) e16.1, .imm (rOpt rInt) high0, .imm (rTK K rInt) without0, .imm (rOb (cLst rInt)) gaps6, .imm rInt e16.2, .no, .no]
      obtain ⟨end17, hend17, h⟩ := letO_some h
      refine (sq_asg (ev_to (ev_lenL (ev_var rfl)) hend17.symm) ?_)
      show Nx _ _ [.imm (rOpt rInt) e16.1, .imm (rOpt rInt) high0, .imm (rTK K rInt) without0, .imm (rOb (cLst rInt)) gaps6, .imm rInt e16.2, .imm rInt end17, .no]
      obtain ⟨R25, hR25, h⟩ := bindO_some h
      refine (sq_while (ψ := psi (rOb (cTup (wC (rOpt rInt) (wC (rOpt rInt) (w1 (rOb (cTpl rInt)))))))) (m_one_form_Vk_w2 gaps6 e16) (m_one_form_Vk_b2) (fun z => [.imm (rOpt rInt) e16.1, .imm (rOpt rInt) z.1, .imm (rTK K rInt) without0, .imm (rOb (cLst rInt)) gaps6, .imm rInt e16.2, .imm rInt z.2, .no]) hR25 ?_ (fun s18 b hc => ?_) (fun D1 s18 st h k1 => ?_) ?_ ?_)
      · exact nx_fin
      · have h : m_one_form_Vk_w2 gaps6 e16 s18 = some b := hc
        unfold m_one_form_Vk_w2 at h
        obtain ⟨c21, hc21, h⟩ := letO_some h
        obtain ⟨b20, hb20, h⟩ := bindO_some h
        exact et_to (et_and (et_to (et_T (ev_gt (ev_var rfl) (ev_var rfl))) hc21.symm) (fun hc => by have hx := iteO_t hc hb20; obtain ⟨y19, hy19, hx⟩ := bindO_some hx; exact et_to (et_T (ev_eqS scOI (ev_some nn_int (ev_ixL (ev_var rfl) (ev_sub (ev_var rfl) ev_int) hy19)) (ev_var rfl) (sc_oi _ _))) (Option.some.inj hx)) (fun hc => ⟨(Option.some.inj (iteO_f hc hb20)).symm, rfl⟩)) (Option.some.inj h)
      · show Nx _ _ [.imm (rOpt rInt) e16.1, .imm (rOpt rInt) s18.1, .imm (rTK K rInt) without0, .imm (rOb (cLst rInt)) gaps6, .imm rInt e16.2, .imm rInt s18.2, .no]
        unfold m_one_form_Vk_b2 at h
        obtain ⟨g22, hg22, h⟩ := bindO_some h
        obtain ⟨high23, hhigh23, h⟩ := letO_some h
        refine (sq_asg (ev_to (ev_some nn_int (ev_sub (ev_get (ev_var rfl) hg22) ev_int)) hhigh23.symm) ?_)
        show Nx _ _ [.imm (rOpt rInt) e16.1, .imm (rOpt rInt) high23, .imm (rTK K rInt) without0, .imm (rOb (cLst rInt)) gaps6, .imm rInt e16.2, .imm rInt s18.2, .no]
        obtain ⟨end24, hend24, h⟩ := letO_some h
        refine (sq_asg (ev_to (ev_sub (ev_var rfl) ev_int) hend24.symm) ?_)
        show Nx _ _ [.imm (rOpt rInt) e16.1, .imm (rOpt rInt) high23, .imm (rTK K rInt) without0, .imm (rOb (cLst rInt)) gaps6, .imm rInt e16.2, .imm rInt end24, .no]
        refine nx_next ?_
        exact k1.nx _ (Option.some.inj h).symm
      · intro b e
        subst e
        obtain rfl := stepO_ret h; exact kr
      · intro e26 e
        subst e
        have h := stepO_nx h
        show Nx _ _ [.imm (rOpt rInt) e16.1, .imm (rOpt rInt) e26.1, .imm (rTK K rInt) without0, .imm (rOb (cLst rInt)) gaps6, .imm rInt e16.2, .imm rInt e26.2, .no]
        obtain ⟨c32, hc32, h⟩ := letO_some h
        obtain ⟨b31, hb31, h⟩ := bindO_some h
        obtain ⟨c33, hc33, h⟩ := letO_some h
        refine (sq_if (et_to (et_and (et_to (et_B (ev_notN (ev_var rfl))) hc32.symm) (fun hc => by have hx := iteO_t hc hb31; obtain ⟨c30, hc30, hx⟩ := letO_some hx; obtain ⟨b29, hb29, hx⟩ := bindO_some hx; exact et_to (et_and (et_to (et_B (ev_notN (ev_var rfl))) hc30.symm) (fun hc => by have hx := iteO_t hc hb29; obtain ⟨g27, hg27, hx⟩ := bindO_some hx; obtain ⟨g28, hg28, hx⟩ := bindO_some hx; exact et_to (et_T (ev_gt (ev_get (ev_var rfl) hg27) (ev_get (ev_var rfl) hg28))) (Option.some.inj hx)) (fun hc => ⟨(Option.some.inj (iteO_f hc hb29)).symm, rfl⟩)) (Option.some.inj hx)) (fun hc => ⟨(Option.some.inj (iteO_f hc hb31)).symm, rfl⟩)) hc33.symm) (fun hc => ?_) (fun hc => ?_))
        · have h := iteO_t hc h
          exact (sq_ret (ev_new (ec_tup (ew_C (ev_some nn_int ev_int) (ew_C (ev_some nn_int ev_int) (ew_1 (ev_new (ec_tpl eh_0 (Nat.le_of_ble_eq_true rfl)))))))) h kr)
        · have h := iteO_f hc h
          refine nx_next ?_
          try dsimp only
          exact (sq_ret (ev_new (ec_tup (ew_C (ev_var rfl) (ew_C (ev_var rfl) (ew_1 (ev_new (ec_tupL (ev_new (ec_slL (ev_var rfl) (eo_some (ev_var rfl)) (eo_some (ev_var rfl))))))))))) h kr)
theorem ok_size_of (T : Txt K mg a) : FnOk P w K mg base CX0 1 a.f_size_of a.d_size_of ["low", "high", "without"] (SpP (wC (rOpt rInt) (wC (rOpt rInt) (w1 (rOb (cTpl rInt))))) (rOpt rInt) (fun x => m_size_of x.1 x.2.1 x.2.2)) := by
  refine T.F_size_of.ok sc_size_of (fun vs H Q E h => ?_) (fun cdv A outer s H vs Q E hr h => ?_)
  · obtain ⟨B, x, b, z, sm, hw, h, kr⟩ := h
    rw [WLen.len hw]; rfl
  · obtain ⟨B, ⟨low0, high0, without0⟩, b, z, sm, hw, h, kr⟩ := h
    have h : m_size_of low0 high0 without0 = some b := h
    refine ⟨_, (pss_cons (ps_if (PW.pt (pw_or (pt_cmp (pc_isN (pv 0))) (pw_or1 (pt_cmp (pc_isN (pv 1)))))) (pss_cons (ps_ret pe_non) pss_nil) pss_nil) (pss_cons (ps_ret (pe_op op_sub (pe_op op_add (pe_op op_sub (pv 1) (pv 0)) pe_int) (pe_callB (len_seqK (K := K) rfl) (by rfl) T.b_len (by decide +kernel) (pa_cons (pv 2) pa_nil)))) pss_nil)), ?_⟩
    refine nx_go (frm_start (N := N_size_of) (n := 0) z sm hw (by rw [WLen.len hw]; rfl)) ?_
    show Nx _ _ [.imm (rOpt rInt) low0, .imm (rOpt rInt) high0, .imm (rOb (cTpl rInt)) without0]
    unfold m_size_of at h
    obtain ⟨c1, hc1, h⟩ := letO_some h
    refine (sq_if (et_to (et_or0 (et_B (ev_isN (ev_var rfl))) (et_B (ev_isN (ev_var rfl)))) hc1.symm) (fun hc => ?_) (fun hc => ?_))
    · have h := iteO_t hc h
      exact (sq_ret (ev_none (r := rInt)) h kr)
    · have h := iteO_f hc h
      refine nx_next ?_
      try dsimp only
      obtain ⟨g2, hg2, h⟩ := bindO_some h
      obtain ⟨g3, hg3, h⟩ := bindO_some h
      exact (sq_ret (ev_some nn_int (ev_sub (ev_add (ev_sub (ev_get (ev_var rfl) hg2) (ev_get (ev_var rfl) hg3)) ev_int) (ev_lenT (ev_var rfl)))) h kr)
theorem ok_Region___init (T : Txt K mg a) : FnOk P w K mg base CX0 3 a.f_Region___init a.d_Region___init ["self", "low", "high", "without"] (SpJ a.C_Region (wC (rOpt rInt) (wC (rOpt rInt) (w1 (rOb (cLst rInt))))) (cIns a.C_Region [("low" : Str), ("high" : Str), ("without" : Str), ("size" : Str), ("value" : Str), ("_gaps" : Str)] (wC (rOpt rInt) (wC (rOpt rInt) (wC (rOb (cTpl rInt)) (wC (rOpt rInt) (wC (rOpt rInt) (w1 (rOb (cDic kyInt rBool))))))))) (fun x => m_Region___init x.1 x.2.1 x.2.2)) := by
  refine funD_okN T.F_Region___init sc_Region___init (fun vs H Q E h => ?_) (fun cdv A outer s H vs Q E hr h => ?_)
  · obtain ⟨p, dx, vs', B, x, b, rfl, hp, hB, z, sm, hw, h, kr⟩ := h
    show vs'.length + 1 = _; rw [WLen.len hw]; rfl
  · obtain ⟨p, dx, vs', B, ⟨low0, high0, without0⟩, b, rfl, hp, hB, z, sm, hw, h, kr⟩ := h
    have h : m_Region___init low0 high0 without0 = some b := h
    refine ⟨_, (pss_cons (ps_asg (pe_call (ok_one_form T) (hr.mono (by decide)) rfl T.g_one_form T.F_one_form.kp T.n_one_form .nil pass0 (pa_cons (pv 1) (pa_cons (pv 2) (pa_cons (pv 3) pa_nil)))) (pg_tupK (K := K) rfl 3 rfl (pgs_cons (pg_fld (K := K) rfl (pv 0)) (pgs_cons (pg_fld (K := K) rfl (pv 0)) (pgs_cons (pg_fld (K := K) rfl (pv 0)) pgs_nil))))) (pss_cons (ps_fld (pv 0) (pe_call (ok_size_of T) (hr.mono (by decide)) rfl T.g_size_of T.F_size_of.kp T.n_size_of .nil pass0 (pa_cons (fldK (K := K) rfl (pv 0) rfl) (pa_cons (fldK (K := K) rfl (pv 0) rfl) (pa_cons (fldK (K := K) rfl (pv 0) rfl) pa_nil)))) rfl) (pss_cons (ps_fld (pv 0) (pe_ifExp (pt_cmpR op_eq (fldK (K := K) rfl (pv 0) rfl) pe_int (nomark _)) (fldK (K := K) rfl (pv 0) rfl) pe_non) rfl) (pss_cons (ps_fld (pv 0) (pe_dc (own := [("number", 4)]) rfl sc_Region___init.nd (pi_tup (fldK (K := K) rfl (pv 0) rfl)) (blkOk_by (N := N_Region___init) (sc := defScope s_Region___init) (by decide +kernel)) (fun _ _ _ _ _ => (pg_name (i := 4) sc_Region___init.nd rfl (by first | exact Or.inl rfl | exact Or.inr rfl))) (fun _ _ _ _ _ => pts_nil) (fun _ _ _ _ _ => (pv 4)) (fun _ _ _ _ _ => pe_bl)) rfl) pss_nil)))), ?_⟩
    refine nx_go (frm_startS (cc := cIns a.C_Region [] w0) (st := ()) (o := .ins a.C_Region dx []) (N := N_Region___init) (n := 1) z sm hB hp ⟨dx, [], rfl, rfl, rfl⟩ hw (by rw [WLen.len hw]; rfl)) ?_
    show Nx _ _ [.cel p (cIns a.C_Region [] w0) (), .imm (rOpt rInt) low0, .imm (rOpt rInt) high0, .imm (rOb (cLst rInt)) without0, .no]
    unfold m_Region___init at h
    obtain ⟨v1, hv1, h⟩ := bindO_some h
    obtain ⟨u2, hu2, h⟩ := letO_some h
    refine (sq_asgH (ev_to (ev_call (ew_C (ev_var rfl) (ew_C (ev_var rfl) (ew_1 (ev_var rfl)))) hv1) hu2.symm) (th_tup (th_C (th_fld (i := 0) rfl snoc0 (by decide +kernel) (by decide) T.cl_Region T.na_Region_low) (fun _ => (th_C (th_fld (i := 0) rfl snoc1 (by decide +kernel) (by decide) T.cl_Region T.na_Region_high) (fun _ => (th_1 (th_fld (i := 0) rfl (snocC snoc1) (by decide +kernel) (by decide) T.cl_Region T.na_Region_without))))))) ?_)
    show Nx _ _ [.cel p (cIns a.C_Region [("low" : Str), ("high" : Str), ("without" : Str)] (wC (rOpt rInt) (wC (rOpt rInt) (w1 (rOb (cTpl rInt)))))) (u2.1, u2.2.1, u2.2.2), .imm (rOpt rInt) low0, .imm (rOpt rInt) high0, .imm (rOb (cLst rInt)) without0, .no]
    obtain ⟨v3, hv3, h⟩ := bindO_some h
    obtain ⟨size4, hsize4, h⟩ := letO_some h
    refine (sq_fld (i := 0) (ev_to (ev_call (ew_C (ev_celFld rfl (acc0) rfl (by decide +kernel) T.cl_Region T.na_Region_low) (ew_C (ev_celFld rfl (accS (acc0)) rfl (by decide +kernel) T.cl_Region T.na_Region_high) (ew_1 (ev_celFld rfl (accS (accS (acc1))) rfl (by decide +kernel) T.cl_Region T.na_Region_without)))) hv3) hsize4.symm) rfl (snocC (snocC snoc1)) (by decide +kernel) (by decide) T.cl_Region T.na_Region_size ?_)
    show Nx _ _ [.cel p (cIns a.C_Region [("low" : Str), ("high" : Str), ("without" : Str), ("size" : Str)] (wC (rOpt rInt) (wC (rOpt rInt) (wC (rOb (cTpl rInt)) (w1 (rOpt rInt)))))) (u2.1, u2.2.1, u2.2.2, size4), .imm (rOpt rInt) low0, .imm (rOpt rInt) high0, .imm (rOb (cLst rInt)) without0, .no]
    obtain ⟨c6, hc6, h⟩ := letO_some h
    obtain ⟨i5, hi5, h⟩ := bindO_some h
    obtain ⟨value7, hvalue7, h⟩ := letO_some h
    refine (sq_fld (i := 0) (ev_to (ev_if (et_to (et_T (ev_eqS scOI (ev_celFld rfl (accS (accS (accS (acc1)))) rfl (by decide +kernel) T.cl_Region T.na_Region_size) (ev_some nn_int ev_int) (sc_oi _ _))) hc6.symm) (fun hc => by have hx := iteO_t hc hi5; exact ev_to (ev_celFld rfl (acc0) rfl (by decide +kernel) T.cl_Region T.na_Region_low) (Option.some.inj hx)) (fun hc => by have hx := iteO_f hc hi5; exact ev_to (ev_none (r := rInt)) (Option.some.inj hx))) hvalue7.symm) rfl (snocC (snocC (snocC snoc1))) (by decide +kernel) (by decide) T.cl_Region T.na_Region_value ?_)
    show Nx _ _ [.cel p (cIns a.C_Region [("low" : Str), ("high" : Str), ("without" : Str), ("size" : Str), ("value" : Str)] (wC (rOpt rInt) (wC (rOpt rInt) (wC (rOb (cTpl rInt)) (wC (rOpt rInt) (w1 (rOpt rInt))))))) (u2.1, u2.2.1, u2.2.2, size4, value7), .imm (rOpt rInt) low0, .imm (rOpt rInt) high0, .imm (rOb (cLst rInt)) without0, .no]
    obtain ⟨d9, hd9, h⟩ := bindO_some h
    obtain ⟨gaps10, hgaps10, h⟩ := letO_some h
    refine (sq_fld (i := 0) (ev_to (ev_new (ec_dc kyInt (m_Region___init_c1) (it_tpl (ev_celFld rfl (accS (accS (acc0))) rfl (by decide +kernel) T.cl_Region T.na_Region_without)) hd9 tg_name (fun k hk => hk) (by rfl) (fun _ => by rfl) (fun number8 o ho => by unfold m_Region___init_c1 at ho; cases ho; exact ⟨et_yes, fun y hy => by cases hy; exact ⟨(ev_var rfl), ev_bl⟩⟩))) hgaps10.symm) rfl (snocC (snocC (snocC (snocC snoc1)))) (by decide +kernel) (by decide) T.cl_Region T.na_Region__gaps ?_)
    show Nx _ _ [.cel p (cIns a.C_Region [("low" : Str), ("high" : Str), ("without" : Str), ("size" : Str), ("value" : Str), ("_gaps" : Str)] (wC (rOpt rInt) (wC (rOpt rInt) (wC (rOb (cTpl rInt)) (wC (rOpt rInt) (wC (rOpt rInt) (w1 (rOb (cDic kyInt rBool))))))))) (u2.1, u2.2.1, u2.2.2, size4, value7, gaps10), .imm (rOpt rInt) low0, .imm (rOpt rInt) high0, .imm (rOb (cLst rInt)) without0, .no]
    obtain rfl := Option.some.inj h
    exact nx_next (fun σ H B F => kr _ _ F.post (cel_at (i := 0) F rfl).2)
theorem ok_Region___init___Vk (T : Txt K mg a) : FnOk P w K mg base CX0 3 a.f_Region___init a.d_Region___init ["self", "low", "high", "without"] (SpJ a.C_Region (wC (rOpt rInt) (wC (rOpt rInt) (w1 (rTK K rInt)))) (cIns a.C_Region [("low" : Str), ("high" : Str), ("without" : Str), ("size" : Str), ("value" : Str), ("_gaps" : Str)] (wC (rOpt rInt) (wC (rOpt rInt) (wC (rOb (cTpl rInt)) (wC (rOpt rInt) (wC (rOpt rInt) (w1 (rOb (cDic kyInt rBool))))))))) (fun x => m_Region___init___Vk x.1 x.2.1 x.2.2)) := by
  refine funD_okN T.F_Region___init sc_Region___init (fun vs H Q E h => ?_) (fun cdv A outer s H vs Q E hr h => ?_)
  · obtain ⟨p, dx, vs', B, x, b, rfl, hp, hB, z, sm, hw, h, kr⟩ := h
    show vs'.length + 1 = _; rw [WLen.len hw]; rfl
  · obtain ⟨p, dx, vs', B, ⟨low0, high0, without0⟩, b, rfl, hp, hB, z, sm, hw, h, kr⟩ := h
    have h : m_Region___init___Vk low0 high0 without0 = some b := h
    refine ⟨_, (pss_cons (ps_asg (pe_call (ok_one_form_Vk T) (hr.mono (by decide)) rfl T.g_one_form T.F_one_form.kp T.n_one_form .nil pass0 (pa_cons (pv 1) (pa_cons (pv 2) (pa_cons (pv 3) pa_nil)))) (pg_tupK (K := K) rfl 3 rfl (pgs_cons (pg_fld (K := K) rfl (pv 0)) (pgs_cons (pg_fld (K := K) rfl (pv 0)) (pgs_cons (pg_fld (K := K) rfl (pv 0)) pgs_nil))))) (pss_cons (ps_fld (pv 0) (pe_call (ok_size_of T) (hr.mono (by decide)) rfl T.g_size_of T.F_size_of.kp T.n_size_of .nil pass0 (pa_cons (fldK (K := K) rfl (pv 0) rfl) (pa_cons (fldK (K := K) rfl (pv 0) rfl) (pa_cons (fldK (K := K) rfl (pv 0) rfl) pa_nil)))) rfl) (pss_cons (ps_fld (pv 0) (pe_ifExp (pt_cmpR op_eq (fldK (K := K) rfl (pv 0) rfl) pe_int (nomark _)) (fldK (K := K) rfl (pv 0) rfl) pe_non) rfl) (pss_cons (ps_fld (pv 0) (pe_dc (own := [("number", 4)]) rfl sc_Region___init.nd (pi_tup (fldK (K := K) rfl (pv 0) rfl)) (blkOk_by (N := N_Region___init) (sc := defScope s_Region___init) (by decide +kernel)) (fun _ _ _ _ _ => (pg_name (i := 4) sc_Region___init.nd rfl (by first | exact Or.inl rfl | exact Or.inr rfl))) (fun _ _ _ _ _ => pts_nil) (fun _ _ _ _ _ => (pv 4)) (fun _ _ _ _ _ => pe_bl)) rfl) pss_nil)))), ?_⟩
    refine nx_go (frm_startS (cc := cIns a.C_Region [] w0) (st := ()) (o := .ins a.C_Region dx []) (N := N_Region___init) (n := 1) z sm hB hp ⟨dx, [], rfl, rfl, rfl⟩ hw (by rw [WLen.len hw]; rfl)) ?_
    show Nx _ _ [.cel p (cIns a.C_Region [] w0) (), .imm (rOpt rInt) low0, .imm (rOpt rInt) high0, .imm (rTK K rInt) without0, .no]
    unfold m_Region___init___Vk at h
    obtain ⟨v1, hv1, h⟩ := bindO_some h
    obtain ⟨u2, hu2, h⟩ := letO_some h
    refine (sq_asgH (ev_to (ev_call (ew_C (ev_var rfl) (ew_C (ev_var rfl) (ew_1 (ev_var rfl)))) hv1) hu2.symm) (th_tup (th_C (th_fld (i := 0) rfl snoc0 (by decide +kernel) (by decide) T.cl_Region T.na_Region_low) (fun _ => (th_C (th_fld (i := 0) rfl snoc1 (by decide +kernel) (by decide) T.cl_Region T.na_Region_high) (fun _ => (th_1 (th_fld (i := 0) rfl (snocC snoc1) (by decide +kernel) (by decide) T.cl_Region T.na_Region_without))))))) ?_)
    show Nx _ _ [.cel p (cIns a.C_Region [("low" : Str), ("high" : Str), ("without" : Str)] (wC (rOpt rInt) (wC (rOpt rInt) (w1 (rOb (cTpl rInt)))))) (u2.1, u2.2.1, u2.2.2), .imm (rOpt rInt) low0, .imm (rOpt rInt) high0, .imm (rTK K rInt) without0, .no]
    obtain ⟨v3, hv3, h⟩ := bindO_some h
    obtain ⟨size4, hsize4, h⟩ := letO_some h
    refine (sq_fld (i := 0) (ev_to (ev_call (ew_C (ev_celFld rfl (acc0) rfl (by decide +kernel) T.cl_Region T.na_Region_low) (ew_C (ev_celFld rfl (accS (acc0)) rfl (by decide +kernel) T.cl_Region T.na_Region_high) (ew_1 (ev_celFld rfl (accS (accS (acc1))) rfl (by decide +kernel) T.cl_Region T.na_Region_without)))) hv3) hsize4.symm) rfl (snocC (snocC snoc1)) (by decide +kernel) (by decide) T.cl_Region T.na_Region_size ?_)
    show Nx _ _ [.cel p (cIns a.C_Region [("low" : Str), ("high" : Str), ("without" : Str), ("size" : Str)] (wC (rOpt rInt) (wC (rOpt rInt) (wC (rOb (cTpl rInt)) (w1 (rOpt rInt)))))) (u2.1, u2.2.1, u2.2.2, size4), .imm (rOpt rInt) low0, .imm (rOpt rInt) high0, .imm (rTK K rInt) without0, .no]
    obtain ⟨c6, hc6, h⟩ := letO_some h
    obtain ⟨i5, hi5, h⟩ := bindO_some h
    obtain ⟨value7, hvalue7, h⟩ := letO_some h
    refine (sq_fld (i := 0) (ev_to (ev_if (et_to (et_T (ev_eqS scOI (ev_celFld rfl (accS (accS (accS (acc1)))) rfl (by decide +kernel) T.cl_Region T.na_Region_size) (ev_some nn_int ev_int) (sc_oi _ _))) hc6.symm) (fun hc => by have hx := iteO_t hc hi5; exact ev_to (ev_celFld rfl (acc0) rfl (by decide +kernel) T.cl_Region T.na_Region_low) (Option.some.inj hx)) (fun hc => by have hx := iteO_f hc hi5; exact ev_to (ev_none (r := rInt)) (Option.some.inj hx))) hvalue7.symm) rfl (snocC (snocC (snocC snoc1))) (by decide +kernel) (by decide) T.cl_Region T.na_Region_value ?_)
    show Nx _ _ [.cel p (cIns a.C_Region [("low" : Str), ("high" : Str), ("without" : Str), ("size" : Str), ("value" : Str)] (wC (rOpt rInt) (wC (rOpt rInt) (wC (rOb (cTpl rInt)) (wC (rOpt rInt) (w1 (rOpt rInt))))))) (u2.1, u2.2.1, u2.2.2, size4, value7), .imm (rOpt rInt) low0, .imm (rOpt rInt) high0, .imm (rTK K rInt) without0, .no]
    obtain ⟨d9, hd9, h⟩ := bindO_some h
    obtain ⟨gaps10, hgaps10, h⟩ := letO_some h
    refine (sq_fld (i := 0) (ev_to (ev_new (ec_dc kyInt (m_Region___init___Vk_c1) (it_tpl (ev_celFld rfl (accS (accS (acc0))) rfl (by decide +kernel) T.cl_Region T.na_Region_without)) hd9 tg_name (fun k hk => hk) (by rfl) (fun _ => by rfl) (fun number8 o ho => by unfold m_Region___init___Vk_c1 at ho; cases ho; exact ⟨et_yes, fun y hy => by cases hy; exact ⟨(ev_var rfl), ev_bl⟩⟩))) hgaps10.symm) rfl (snocC (snocC (snocC (snocC snoc1)))) (by decide +kernel) (by decide) T.cl_Region T.na_Region__gaps ?_)
    show Nx _ _ [.cel p (cIns a.C_Region [("low" : Str), ("high" : Str), ("without" : Str), ("size" : Str), ("value" : Str), ("_gaps" : Str)] (wC (rOpt rInt) (wC (rOpt rInt) (wC (rOb (cTpl rInt)) (wC (rOpt rInt) (wC (rOpt rInt) (w1 (rOb (cDic kyInt rBool))))))))) (u2.1, u2.2.1, u2.2.2, size4, value7, gaps10), .imm (rOpt rInt) low0, .imm (rOpt rInt) high0, .imm (rTK K rInt) without0, .no]
    obtain rfl := Option.some.inj h
    exact nx_next (fun σ H B F => kr _ _ F.post (cel_at (i := 0) F rfl).2)
theorem ok_meet (T : Txt K mg a) : FnOk P w K mg base CX0 5 a.f_meet a.d_meet ["regions"] (SpP (w1 (rOb (cLst (rIns a.C_Region [("low" : Str), ("high" : Str), ("without" : Str), ("size" : Str), ("value" : Str), ("_gaps" : Str)] (wC (rOpt rInt) (wC (rOpt rInt) (wC (rOb (cTpl rInt)) (wC (rOpt rInt) (wC (rOpt rInt) (w1 (rOb (cDic kyInt rBool)))))))))))) (rIns a.C_Region [("low" : Str), ("high" : Str), ("without" : Str), ("size" : Str), ("value" : Str), ("_gaps" : Str)] (wC (rOpt rInt) (wC (rOpt rInt) (wC (rOb (cTpl rInt)) (wC (rOpt rInt) (wC (rOpt rInt) (w1 (rOb (cDic kyInt rBool))))))))) (fun x => m_meet x)) := by
  refine T.F_meet.ok sc_meet (fun vs H Q E h => ?_) (fun cdv A outer s H vs Q E hr h => ?_)
  · obtain ⟨B, x, b, z, sm, hw, h, kr⟩ := h
    rw [WLen.len hw]; rfl
  · obtain ⟨B, regions0, b, z, sm, hw, h, kr⟩ := h
    have h : m_meet regions0 = some b := h
    refine ⟨_, (pss_cons (ps_setLc (i := 1) (own := [("region", 4)]) rfl sc_meet.nd rfl rfl (sw_true rfl rfl rfl (by decide +kernel)) (pi_list (pv 0)) (blkOk_by (N := N_meet) (sc := defScope s_meet) (by decide +kernel)) (fun _ _ _ _ _ => (pg_name (i := 4) sc_meet.nd rfl (by first | exact Or.inl rfl | exact Or.inr rfl))) (fun _ _ _ _ _ => (pts_one (pt_cmp (pc_notN (fldK (K := K) rfl (pv 4) rfl))))) (fun _ _ _ _ _ => (fldK (K := K) rfl (pv 4) rfl))) (pss_cons (ps_setLc (i := 2) (own := [("region", 4)]) rfl sc_meet.nd rfl rfl (sw_true rfl rfl rfl (by decide +kernel)) (pi_list (pv 0)) (blkOk_by (N := N_meet) (sc := defScope s_meet) (by decide +kernel)) (fun _ _ _ _ _ => (pg_name (i := 4) sc_meet.nd rfl (by first | exact Or.inl rfl | exact Or.inr rfl))) (fun _ _ _ _ _ => (pts_one (pt_cmp (pc_notN (fldK (K := K) rfl (pv 4) rfl))))) (fun _ _ _ _ _ => (fldK (K := K) rfl (pv 4) rfl))) (pss_cons (ps_setLc2 (i := 3) (own := [("region", 4), ("number", 5)]) (vs1 := [5]) rfl sc_meet.nd rfl rfl (sw_true rfl rfl rfl (by decide +kernel)) (pi_list (pv 0)) (blkOk_by (N := N_meet) (sc := defScope s_meet) (by decide +kernel)) (by decide) (fun _ _ _ _ _ => (pg_name (i := 4) sc_meet.nd rfl (by first | exact Or.inl rfl | exact Or.inr rfl))) (fun _ _ _ _ _ => pts_nil) (fun _ _ _ _ _ => (pi_tupK (K := K) rfl (fldK (K := K) rfl (pv 4) rfl))) (fun _ _ _ _ _ => (pg_name (i := 5) sc_meet.nd rfl (by first | exact Or.inl rfl | exact Or.inr rfl))) (fun _ _ _ _ _ => pts_nil) (fun _ _ _ _ _ => (pv 5))) (pss_cons (ps_ret (pe_make T.M_Region (ok_Region___init T) (hr.mono (by decide)) rfl T.g_Region T.n_Region___init_3 T.v_Region___init_3 pass0 (pa_cons (pe_callBK (crk_max (K := K) rfl rfl hr.units) (by rfl) T.b_max (by decide +kernel) (pa_cons (pv 1) pa_nil) (pk_cons pe_non pk_nil)) (pa_cons (pe_callBK (crk_min (K := K) rfl rfl hr.units) (by rfl) T.b_min (by decide +kernel) (pa_cons (pv 2) pa_nil) (pk_cons pe_non pk_nil)) (pa_cons (pv 3) pa_nil))))) pss_nil)))), ?_⟩
    refine nx_go (frm_start (N := N_meet) (n := 5) z sm hw (by rw [WLen.len hw]; rfl)) ?_
    show Nx _ _ [.imm (rOb (cLst (rIns a.C_Region [("low" : Str), ("high" : Str), ("without" : Str), ("size" : Str), ("value" : Str), ("_gaps" : Str)] (wC (rOpt rInt) (wC (rOpt rInt) (wC (rOb (cTpl rInt)) (wC (rOpt rInt) (wC (rOpt rInt) (w1 (rOb (cDic kyInt rBool))))))))))) regions0, .no, .no, .no, .no, .no]
    unfold m_meet at h
    obtain ⟨l4, hl4, h⟩ := bindO_some h
    obtain ⟨lows5, hlows5, h⟩ := letO_some h
    refine (sq_asg (ev_to (ev_new (ec_lc (m_meet_c1) (it_list (ev_var rfl)) hl4 tg_name (fun k hk => hk) (by rfl) (fun _ => by rfl) (fun region1 o ho => by unfold m_meet_c1 at ho; obtain ⟨c3, hc3, ho⟩ := letO_some ho; cases c3 with | true => (have ho : (bindO (region1.1) fun g2 => some (some g2)) = some o := ho; obtain ⟨g2, hg2, ho⟩ := bindO_some ho; cases ho; exact ⟨et_to (et_B (ev_notN (ev_fld (ev_var rfl) (acc0) rfl (by decide +kernel) T.cl_Region T.na_Region_low))) hc3.symm, fun y hy => by cases hy; exact ev_to (ev_get (ev_fld (ev_var rfl) (acc0) rfl (by decide +kernel) T.cl_Region T.na_Region_low) hg2) rfl⟩) | false => (have ho : some none = some o := ho; cases ho; exact ⟨et_to (et_B (ev_notN (ev_fld (ev_var rfl) (acc0) rfl (by decide +kernel) T.cl_Region T.na_Region_low))) hc3.symm, fun y hy => by cases hy⟩)))) hlows5.symm) ?_)
    show Nx _ _ [.imm (rOb (cLst (rIns a.C_Region [("low" : Str), ("high" : Str), ("without" : Str), ("size" : Str), ("value" : Str), ("_gaps" : Str)] (wC (rOpt rInt) (wC (rOpt rInt) (wC (rOb (cTpl rInt)) (wC (rOpt rInt) (wC (rOpt rInt) (w1 (rOb (cDic kyInt rBool))))))))))) regions0, .imm (rOb (cLst rInt)) lows5, .no, .no, .no, .no]
    obtain ⟨l9, hl9, h⟩ := bindO_some h
    obtain ⟨highs10, hhighs10, h⟩ := letO_some h
    refine (sq_asg (ev_to (ev_new (ec_lc (m_meet_c2) (it_list (ev_var rfl)) hl9 tg_name (fun k hk => hk) (by rfl) (fun _ => by rfl) (fun region6 o ho => by unfold m_meet_c2 at ho; obtain ⟨c8, hc8, ho⟩ := letO_some ho; cases c8 with | true => (have ho : (bindO (region6.2.1) fun g7 => some (some g7)) = some o := ho; obtain ⟨g7, hg7, ho⟩ := bindO_some ho; cases ho; exact ⟨et_to (et_B (ev_notN (ev_fld (ev_var rfl) (accS (acc0)) rfl (by decide +kernel) T.cl_Region T.na_Region_high))) hc8.symm, fun y hy => by cases hy; exact ev_to (ev_get (ev_fld (ev_var rfl) (accS (acc0)) rfl (by decide +kernel) T.cl_Region T.na_Region_high) hg7) rfl⟩) | false => (have ho : some none = some o := ho; cases ho; exact ⟨et_to (et_B (ev_notN (ev_fld (ev_var rfl) (accS (acc0)) rfl (by decide +kernel) T.cl_Region T.na_Region_high))) hc8.symm, fun y hy => by cases hy⟩)))) hhighs10.symm) ?_)
    show Nx _ _ [.imm (rOb (cLst (rIns a.C_Region [("low" : Str), ("high" : Str), ("without" : Str), ("size" : Str), ("value" : Str), ("_gaps" : Str)] (wC (rOpt rInt) (wC (rOpt rInt) (wC (rOb (cTpl rInt)) (wC (rOpt rInt) (wC (rOpt rInt) (w1 (rOb (cDic kyInt rBool))))))))))) regions0, .imm (rOb (cLst rInt)) lows5, .imm (rOb (cLst rInt)) highs10, .no, .no, .no]
    obtain ⟨l13, hl13, h⟩ := bindO_some h
    obtain ⟨without14, hwithout14, h⟩ := letO_some h
    refine (sq_asg (ev_to (ev_new (ec_lc2 (r1 := rInt) (m_meet_ci3) (m_meet_c4) (it_list (ev_var rfl)) hl13 tg_name (fun k hk => by revert k hk; decide) (by rfl) (fun _ => by rfl) (fun _ => et_yes) (fun region11 l hl => by unfold m_meet_ci3 at hl; exact it_to (it_tpl (ev_fld (ev_var rfl) (accS (accS (acc0))) rfl (by decide +kernel) T.cl_Region T.na_Region_without)) (Option.some.inj hl)) (fun _ => by rfl) (fun region11 => tg_name) (fun k hk => by revert k hk; decide) (fun _ _ => by rfl) (fun region11 number12 o ho => by unfold m_meet_c4 at ho; cases ho; exact ⟨et_yes, fun y hy => by cases hy; exact ev_to (ev_var rfl) rfl⟩))) hwithout14.symm) ?_)
    show Nx _ _ [.imm (rOb (cLst (rIns a.C_Region [("low" : Str), ("high" : Str), ("without" : Str), ("size" : Str), ("value" : Str), ("_gaps" : Str)] (wC (rOpt rInt) (wC (rOpt rInt) (wC (rOb (cTpl rInt)) (wC (rOpt rInt) (wC (rOpt rInt) (w1 (rOb (cDic kyInt rBool))))))))))) regions0, .imm (rOb (cLst rInt)) lows5, .imm (rOb (cLst rInt)) highs10, .imm (rOb (cLst rInt)) without14, .no, .no]
    obtain ⟨o15, ho15, h⟩ := bindO_some h
    exact (sq_ret (ev_make (ew_C (ev_mxN (ev_var rfl)) (ew_C (ev_mxN (ev_var rfl)) (ew_1 (ev_var rfl)))) ho15) h kr)
theorem ok_Region___contains (T : Txt K mg a) : FnOk P w K mg base CX0 2 a.f_Region___contains a.d_Region___contains ["self", "x"] (SpP (wC (rIns a.C_Region [("low" : Str), ("high" : Str), ("without" : Str), ("size" : Str), ("value" : Str), ("_gaps" : Str)] (wC (rOpt rInt) (wC (rOpt rInt) (wC (rOb (cTpl rInt)) (wC (rOpt rInt) (wC (rOpt rInt) (w1 (rOb (cDic kyInt rBool))))))))) (w1 rInt)) rBool (fun x => m_Region___contains x.1 x.2)) := by
  refine T.F_Region___contains.ok sc_Region___contains (fun vs H Q E h => ?_) (fun cdv A outer s H vs Q E hr h => ?_)
  · obtain ⟨B, x, b, z, sm, hw, h, kr⟩ := h
    rw [WLen.len hw]; rfl
  · obtain ⟨B, ⟨self0, x0⟩, b, z, sm, hw, h, kr⟩ := h
    have h : m_Region___contains self0 x0 = some b := h
    refine ⟨_, (pss_cons (ps_ret (pe_and (pe_call (ok_between T) (hr.mono (by decide)) rfl T.g_between T.F_between.kp T.n_between .nil pass0 (pa_cons (fldK (K := K) rfl (pv 0) rfl) (pa_cons (fldK (K := K) rfl (pv 0) rfl) (pa_cons (pv 1) pa_nil)))) (pe_one (pe_cmp (pc_dnotin hr.units1 (pv 1) (fldK (K := K) rfl (pv 0) rfl)) rfl)))) pss_nil), ?_⟩
    refine nx_go (frm_start (N := N_Region___contains) (n := 0) z sm hw (by rw [WLen.len hw]; rfl)) ?_
    show Nx _ _ [.imm (rIns a.C_Region [("low" : Str), ("high" : Str), ("without" : Str), ("size" : Str), ("value" : Str), ("_gaps" : Str)] (wC (rOpt rInt) (wC (rOpt rInt) (wC (rOb (cTpl rInt)) (wC (rOpt rInt) (wC (rOpt rInt) (w1 (rOb (cDic kyInt rBool))))))))) self0, .imm rInt x0]
    unfold m_Region___contains at h
    obtain ⟨v1, hv1, h⟩ := bindO_some h
    exact (sq_ret (ev_and0 (ev_call (ew_C (ev_fld (ev_var rfl) (acc0) rfl (by decide +kernel) T.cl_Region T.na_Region_low) (ew_C (ev_fld (ev_var rfl) (accS (acc0)) rfl (by decide +kernel) T.cl_Region T.na_Region_high) (ew_1 (ev_var rfl)))) hv1) (ev_dnin kyInt (ev_var rfl) (ev_fld (ev_var rfl) (accS (accS (accS (accS (accS (acc1)))))) rfl (by decide +kernel) T.cl_Region T.na_Region__gaps))) h kr)
theorem ok_Region___and (T : Txt K mg a) : FnOk P w K mg base CX0 6 a.f_Region___and a.d_Region___and ["self", "other"] (SpP (wC (rIns a.C_Region [("low" : Str), ("high" : Str), ("without" : Str), ("size" : Str), ("value" : Str), ("_gaps" : Str)] (wC (rOpt rInt) (wC (rOpt rInt) (wC (rOb (cTpl rInt)) (wC (rOpt rInt) (wC (rOpt rInt) (w1 (rOb (cDic kyInt rBool))))))))) (w1 (rIns a.C_Region [("low" : Str), ("high" : Str), ("without" : Str), ("size" : Str), ("value" : Str), ("_gaps" : Str)] (wC (rOpt rInt) (wC (rOpt rInt) (wC (rOb (cTpl rInt)) (wC (rOpt rInt) (wC (rOpt rInt) (w1 (rOb (cDic kyInt rBool))))))))))) (rIns a.C_Region [("low" : Str), ("high" : Str), ("without" : Str), ("size" : Str), ("value" : Str), ("_gaps" : Str)] (wC (rOpt rInt) (wC (rOpt rInt) (wC (rOb (cTpl rInt)) (wC (rOpt rInt) (wC (rOpt rInt) (w1 (rOb (cDic kyInt rBool))))))))) (fun x => m_Region___and x.1 x.2)) := by
  refine T.F_Region___and.ok sc_Region___and (fun vs H Q E h => ?_) (fun cdv A outer s H vs Q E hr h => ?_)
  · obtain ⟨B, x, b, z, sm, hw, h, kr⟩ := h
    rw [WLen.len hw]; rfl
  · obtain ⟨B, ⟨self0, other0⟩, b, z, sm, hw, h, kr⟩ := h
    have h : m_Region___and self0 other0 = some b := h
    refine ⟨_, (pss_cons (ps_ret (pe_call (ok_meet T) (hr.mono (by decide)) rfl T.g_meet T.F_meet.kp T.n_meet .nil pass0 (pa_cons (pe_lst (pa_cons (pv 0) (pa_cons (pv 1) pa_nil))) pa_nil))) pss_nil), ?_⟩
    refine nx_go (frm_start (N := N_Region___and) (n := 0) z sm hw (by rw [WLen.len hw]; rfl)) ?_
    show Nx _ _ [.imm (rIns a.C_Region [("low" : Str), ("high" : Str), ("without" : Str), ("size" : Str), ("value" : Str), ("_gaps" : Str)] (wC (rOpt rInt) (wC (rOpt rInt) (wC (rOb (cTpl rInt)) (wC (rOpt rInt) (wC (rOpt rInt) (w1 (rOb (cDic kyInt rBool))))))))) self0, .imm (rIns a.C_Region [("low" : Str), ("high" : Str), ("without" : Str), ("size" : Str), ("value" : Str), ("_gaps" : Str)] (wC (rOpt rInt) (wC (rOpt rInt) (wC (rOb (cTpl rInt)) (wC (rOpt rInt) (wC (rOpt rInt) (w1 (rOb (cDic kyInt rBool))))))))) other0]
    unfold m_Region___and at h
    obtain ⟨v1, hv1, h⟩ := bindO_some h
    exact (sq_ret (ev_call (ew_1 (ev_new (ec_lst (eh_C (ev_var rfl) (eh_C (ev_var rfl) eh_0)) (Nat.le_of_ble_eq_true rfl)))) hv1) h kr)
theorem ok_Region___eq (T : Txt K mg a) : FnOk P w K mg base CX0 1 a.f_Region___eq a.d_Region___eq ["self", "other"] (SpP (wC (rIns a.C_Region [("low" : Str), ("high" : Str), ("without" : Str), ("size" : Str), ("value" : Str), ("_gaps" : Str)] (wC (rOpt rInt) (wC (rOpt rInt) (wC (rOb (cTpl rInt)) (wC (rOpt rInt) (wC (rOpt rInt) (w1 (rOb (cDic kyInt rBool))))))))) (w1 (rIns a.C_Region [("low" : Str), ("high" : Str), ("without" : Str), ("size" : Str), ("value" : Str), ("_gaps" : Str)] (wC (rOpt rInt) (wC (rOpt rInt) (wC (rOb (cTpl rInt)) (wC (rOpt rInt) (wC (rOpt rInt) (w1 (rOb (cDic kyInt rBool))))))))))) rBool (fun x => m_Region___eq x.1 x.2)) := by
  refine T.F_Region___eq.ok sc_Region___eq (fun vs H Q E h => ?_) (fun cdv A outer s H vs Q E hr h => ?_)
  · obtain ⟨B, x, b, z, sm, hw, h, kr⟩ := h
    rw [WLen.len hw]; rfl
  · obtain ⟨B, ⟨self0, other0⟩, b, z, sm, hw, h, kr⟩ := h
    have h : m_Region___eq self0 other0 = some b := h
    refine ⟨_, (pss_cons (ps_ret (pe_and (pe_callB (isiK (K := K) rfl) (by rfl) T.b_isinstance (by decide +kernel) (pa_cons (pv 1) (pa_cons (pe_glob (v := .ref a.C_Region) (by rfl) T.g_Region rfl) pa_nil))) (pe_and (pe_cmpR op_eq (fldK (K := K) rfl (pv 0) rfl) (fldK (K := K) rfl (pv 1) rfl) (nomark _)) (pe_and (pe_cmpR op_eq (fldK (K := K) rfl (pv 0) rfl) (fldK (K := K) rfl (pv 1) rfl) (nomark _)) (pe_one (pe_cmpR (eqDK (K := K) rfl hr.units) (fldK (K := K) rfl (pv 0) rfl) (fldK (K := K) rfl (pv 1) rfl) (nomark _))))))) pss_nil), ?_⟩
    refine nx_go (frm_start (N := N_Region___eq) (n := 0) z sm hw (by rw [WLen.len hw]; rfl)) ?_
    show Nx _ _ [.imm (rIns a.C_Region [("low" : Str), ("high" : Str), ("without" : Str), ("size" : Str), ("value" : Str), ("_gaps" : Str)] (wC (rOpt rInt) (wC (rOpt rInt) (wC (rOb (cTpl rInt)) (wC (rOpt rInt) (wC (rOpt rInt) (w1 (rOb (cDic kyInt rBool))))))))) self0, .imm (rIns a.C_Region [("low" : Str), ("high" : Str), ("without" : Str), ("size" : Str), ("value" : Str), ("_gaps" : Str)] (wC (rOpt rInt) (wC (rOpt rInt) (wC (rOb (cTpl rInt)) (wC (rOpt rInt) (wC (rOpt rInt) (w1 (rOb (cDic kyInt rBool))))))))) other0]
    unfold m_Region___eq at h
    obtain ⟨c7, hc7, h⟩ := letO_some h
    obtain ⟨b6, hb6, h⟩ := bindO_some h
    exact (sq_ret (ev_and (ev_to (ev_isi (ev_var rfl) (ty_ins T.ct_Region) (.own _) T.q_Region_Region) hc7.symm) (fun hc => by have hx := iteO_t hc hb6; obtain ⟨c5, hc5, hx⟩ := letO_some hx; obtain ⟨b4, hb4, hx⟩ := bindO_some hx; exact ev_to (ev_and (ev_to (ev_eqS scOI (ev_fld (ev_var rfl) (acc0) rfl (by decide +kernel) T.cl_Region T.na_Region_low) (ev_fld (ev_var rfl) (acc0) rfl (by decide +kernel) T.cl_Region T.na_Region_low) (sc_oi _ _)) hc5.symm) (fun hc => by have hx := iteO_t hc hb4; obtain ⟨c3, hc3, hx⟩ := letO_some hx; obtain ⟨b2, hb2, hx⟩ := bindO_some hx; exact ev_to (ev_and (ev_to (ev_eqS scOI (ev_fld (ev_var rfl) (accS (acc0)) rfl (by decide +kernel) T.cl_Region T.na_Region_high) (ev_fld (ev_var rfl) (accS (acc0)) rfl (by decide +kernel) T.cl_Region T.na_Region_high) (sc_oi _ _)) hc3.symm) (fun hc => by have hx := iteO_t hc hb2; obtain ⟨q1, hq1, hx⟩ := bindO_some hx; exact ev_to (ev_eqD (da_tpl da_int) (da_tpl da_int) (ev_fld (ev_var rfl) (accS (accS (acc0))) rfl (by decide +kernel) T.cl_Region T.na_Region_without) (ev_fld (ev_var rfl) (accS (accS (acc0))) rfl (by decide +kernel) T.cl_Region T.na_Region_without) hq1) (Option.some.inj hx)) (fun hc => ⟨(Option.some.inj (iteO_f hc hb2)).symm, rfl⟩)) (Option.some.inj hx)) (fun hc => ⟨(Option.some.inj (iteO_f hc hb4)).symm, rfl⟩)) (Option.some.inj hx)) (fun hc => ⟨(Option.some.inj (iteO_f hc hb6)).symm, rfl⟩)) h kr)
theorem ok_Region___bool (T : Txt K mg a) : FnOk P w K mg base CX0 1 a.f_Region___bool a.d_Region___bool ["self"] (SpP (w1 (rIns a.C_Region [("low" : Str), ("high" : Str), ("without" : Str), ("size" : Str), ("value" : Str), ("_gaps" : Str)] (wC (rOpt rInt) (wC (rOpt rInt) (wC (rOb (cTpl rInt)) (wC (rOpt rInt) (wC (rOpt rInt) (w1 (rOb (cDic kyInt rBool)))))))))) rBool (fun x => m_Region___bool x)) := by
  refine T.F_Region___bool.ok sc_Region___bool (fun vs H Q E h => ?_) (fun cdv A outer s H vs Q E hr h => ?_)
  · obtain ⟨B, x, b, z, sm, hw, h, kr⟩ := h
    rw [WLen.len hw]; rfl
  · obtain ⟨B, self0, b, z, sm, hw, h, kr⟩ := h
    have h : m_Region___bool self0 = some b := h
    refine ⟨_, (pss_cons (ps_ret (pe_callTy call_bool1 (by rfl) T.b_bool (by decide +kernel) (pa_cons (pe_cmpR op_ne (fldK (K := K) rfl (pv 0) rfl) pe_int (nomark _)) pa_nil))) pss_nil), ?_⟩
    refine nx_go (frm_start (N := N_Region___bool) (n := 0) z sm hw (by rw [WLen.len hw]; rfl)) ?_
    show Nx _ _ [.imm (rIns a.C_Region [("low" : Str), ("high" : Str), ("without" : Str), ("size" : Str), ("value" : Str), ("_gaps" : Str)] (wC (rOpt rInt) (wC (rOpt rInt) (wC (rOb (cTpl rInt)) (wC (rOpt rInt) (wC (rOpt rInt) (w1 (rOb (cDic kyInt rBool))))))))) self0]
    unfold m_Region___bool at h
    exact (sq_ret (ev_bool1 (ev_neS scOI (ev_fld (ev_var rfl) (accS (accS (accS (acc0)))) rfl (by decide +kernel) T.cl_Region T.na_Region_size) (ev_some nn_int ev_int) (sc_oi _ _))) h kr)
theorem ok_Region_within (T : Txt K mg a) : FnOk P w K mg base CX0 6 a.f_Region_within a.d_Region_within ["self", "other"] (SpP (wC (rIns a.C_Region [("low" : Str), ("high" : Str), ("without" : Str), ("size" : Str), ("value" : Str), ("_gaps" : Str)] (wC (rOpt rInt) (wC (rOpt rInt) (wC (rOb (cTpl rInt)) (wC (rOpt rInt) (wC (rOpt rInt) (w1 (rOb (cDic kyInt rBool))))))))) (w1 (rIns a.C_Region [("low" : Str), ("high" : Str), ("without" : Str), ("size" : Str), ("value" : Str), ("_gaps" : Str)] (wC (rOpt rInt) (wC (rOpt rInt) (wC (rOb (cTpl rInt)) (wC (rOpt rInt) (wC (rOpt rInt) (w1 (rOb (cDic kyInt rBool))))))))))) rBool (fun x => m_Region_within x.1 x.2)) := by
  refine T.F_Region_within.ok sc_Region_within (fun vs H Q E h => ?_) (fun cdv A outer s H vs Q E hr h => ?_)
  · obtain ⟨B, x, b, z, sm, hw, h, kr⟩ := h
    rw [WLen.len hw]; rfl
  · obtain ⟨B, ⟨self0, other0⟩, b, z, sm, hw, h, kr⟩ := h
    have h : m_Region_within self0 other0 = some b := h
    refine ⟨_, (pss_cons (ps_ret (pe_cmpR (op_eqO (K := K) (t := (.ref a.C_Region)) rfl T.me_Region___eq (ok_Region___eq T) (hr.mono (by decide)) T.n_Region___eq pass0) (pe_call (ok_meet T) (hr.mono (by decide)) rfl T.g_meet T.F_meet.kp T.n_meet .nil pass0 (pa_cons (pe_lst (pa_cons (pv 0) (pa_cons (pv 1) pa_nil))) pa_nil)) (pv 0) (nomark _))) pss_nil), ?_⟩
    refine nx_go (frm_start (N := N_Region_within) (n := 0) z sm hw (by rw [WLen.len hw]; rfl)) ?_
    show Nx _ _ [.imm (rIns a.C_Region [("low" : Str), ("high" : Str), ("without" : Str), ("size" : Str), ("value" : Str), ("_gaps" : Str)] (wC (rOpt rInt) (wC (rOpt rInt) (wC (rOb (cTpl rInt)) (wC (rOpt rInt) (wC (rOpt rInt) (w1 (rOb (cDic kyInt rBool))))))))) self0, .imm (rIns a.C_Region [("low" : Str), ("high" : Str), ("without" : Str), ("size" : Str), ("value" : Str), ("_gaps" : Str)] (wC (rOpt rInt) (wC (rOpt rInt) (wC (rOb (cTpl rInt)) (wC (rOpt rInt) (wC (rOpt rInt) (w1 (rOb (cDic kyInt rBool))))))))) other0]
    unfold m_Region_within at h
    obtain ⟨v1, hv1, h⟩ := bindO_some h
    obtain ⟨n2, hn2, h⟩ := bindO_some h
    exact (sq_ret (ev_eqO (ev_call (ew_1 (ev_new (ec_lst (eh_C (ev_var rfl) (eh_C (ev_var rfl) eh_0)) (Nat.le_of_ble_eq_true rfl)))) hv1) (ev_var rfl) (ty_ins T.ct_Region) T.nf_Region_Region hn2) h kr)
theorem ok_Region_of (T : Txt K mg a) : FnOk P w K mg base (L2.CX P w) 5 a.f_Region_of a.d_Region_of ["sign", "number"] (SpX (erC a.C_BadSign [("sign" : Str)] (w1 rStr)) (wC rStr (w1 rInt)) (rIns a.C_Region [("low" : Str), ("high" : Str), ("without" : Str), ("size" : Str), ("value" : Str), ("_gaps" : Str)] (wC (rOpt rInt) (wC (rOpt rInt) (wC (rOb (cTpl rInt)) (wC (rOpt rInt) (wC (rOpt rInt) (w1 (rOb (cDic kyInt rBool))))))))) (fun x => m_Region_of x.1 x.2)) := by
  refine T.F_Region_of.okX sc_Region_of (fun vs H Q E h => ?_) (fun cdv A outer s H vs Q E hr h => ?_)
  · obtain ⟨B, x, b, z, sm, hw, h, kr, ke⟩ := h
    rw [WLen.len hw]; rfl
  · obtain ⟨B, ⟨sign0, number0⟩, b, z, sm, hw, h, kr, ke⟩ := h
    have h : m_Region_of sign0 number0 = some b := h
    refine ⟨_, (pss_cons (ps_if (pt_cmpR op_eq (pv 0) pe_str (nomark _)) (pss_cons (ps_ret (pe_make T.M_Region (ok_Region___init___Vk T) (hr.mono (by decide)) rfl T.g_Region T.n_Region___init_2 T.v_Region___init_2 pass0 (pa_cons (pv 1) (pa_cons (pv 1) pa_nil)))) pss_nil) pss_nil) (pss_cons (ps_if (pt_cmpR op_eq (pv 0) pe_str (nomark _)) (pss_cons (ps_ret (pe_make T.M_Region (ok_Region___init T) (hr.mono (by decide)) rfl T.g_Region T.n_Region___init_3 T.v_Region___init_3 pass0 (pa_cons pe_non (pa_cons pe_non (pa_cons (pe_lst (pa_cons (pv 1) pa_nil)) pa_nil))))) pss_nil) pss_nil) (pss_cons (ps_if (pt_cmpR op_eq (pv 0) pe_str (nomark _)) (pss_cons (ps_ret (pe_make T.M_Region (ok_Region___init___Vk T) (hr.mono (by decide)) rfl T.g_Region T.n_Region___init_2 T.v_Region___init_2 pass0 (pa_cons pe_non (pa_cons (pe_op op_sub (pv 1) pe_int) pa_nil)))) pss_nil) pss_nil) (pss_cons (ps_if (pt_cmpR op_eq (pv 0) pe_str (nomark _)) (pss_cons (ps_ret (pe_make T.M_Region (ok_Region___init___Vk T) (hr.mono (by decide)) rfl T.g_Region T.n_Region___init_2 T.v_Region___init_2 pass0 (pa_cons pe_non (pa_cons (pv 1) pa_nil)))) pss_nil) pss_nil) (pss_cons (ps_if (pt_cmpR op_eq (pv 0) pe_str (nomark _)) (pss_cons (ps_ret (pe_make T.M_Region (ok_Region___init___Vk T) (hr.mono (by decide)) rfl T.g_Region T.n_Region___init_2 T.v_Region___init_2 pass0 (pa_cons (pe_op op_add (pv 1) pe_int) (pa_cons pe_non pa_nil)))) pss_nil) pss_nil) (pss_cons (ps_if (pt_cmpR op_eq (pv 0) pe_str (nomark _)) (pss_cons (ps_ret (pe_make T.M_Region (ok_Region___init___Vk T) (hr.mono (by decide)) rfl T.g_Region T.n_Region___init_2 T.v_Region___init_2 pass0 (pa_cons (pv 1) (pa_cons pe_non pa_nil)))) pss_nil) pss_nil) (pss_cons (ps_raise rfl (takes_of rfl rfl rfl rfl) (pmk_oex T.x_BadSign T.i_BadSign T.t_BadSign (ok_e_BadSign T) (hr.mono (by decide)) T.n_e_BadSign .nil pass0 rfl T.g_BadSign (pa_cons (pv 0) pa_nil))) pss_nil))))))), ?_⟩
    refine nx_go (frm_start (N := N_Region_of) (n := 0) z sm hw (by rw [WLen.len hw]; rfl)) ?_
    show Nx _ _ [.imm rStr sign0, .imm rInt number0]
    unfold m_Region_of at h
    obtain ⟨c1, hc1, h⟩ := letO_some h
    refine (sq_if (et_to (et_T (ev_eqS scStr (ev_var rfl) ev_str rfl)) hc1.symm) (fun hc => ?_) (fun hc => ?_))
    · have h := iteO_t hc h
      obtain ⟨o2, ho2, h⟩ := bindO_some h
      obtain rfl := Option.some.inj h
      exact (sq_ret (ev_makeD (ew_C (ev_some nn_int (ev_var rfl)) (ew_1 (ev_some nn_int (ev_var rfl)))) (dapp_C (dapp_1 (tkE T.t_Region___init_2))) ho2) rfl (kr _ rfl))
    · have h := iteO_f hc h
      refine nx_next ?_
      try dsimp only
      obtain ⟨c3, hc3, h⟩ := letO_some h
      refine (sq_if (et_to (et_T (ev_eqS scStr (ev_var rfl) ev_str rfl)) hc3.symm) (fun hc => ?_) (fun hc => ?_))
      · have h := iteO_t hc h
        obtain ⟨o4, ho4, h⟩ := bindO_some h
        obtain rfl := Option.some.inj h
        exact (sq_ret (ev_make (ew_C (ev_none (r := rInt)) (ew_C (ev_none (r := rInt)) (ew_1 (ev_new (ec_lst (eh_C (ev_var rfl) eh_0) (Nat.le_of_ble_eq_true rfl)))))) ho4) rfl (kr _ rfl))
      · have h := iteO_f hc h
        refine nx_next ?_
        try dsimp only
        obtain ⟨c5, hc5, h⟩ := letO_some h
        refine (sq_if (et_to (et_T (ev_eqS scStr (ev_var rfl) ev_str rfl)) hc5.symm) (fun hc => ?_) (fun hc => ?_))
        · have h := iteO_t hc h
          obtain ⟨o6, ho6, h⟩ := bindO_some h
          obtain rfl := Option.some.inj h
          exact (sq_ret (ev_makeD (ew_C (ev_none (r := rInt)) (ew_1 (ev_some nn_int (ev_sub (ev_var rfl) ev_int)))) (dapp_C (dapp_1 (tkE T.t_Region___init_2))) ho6) rfl (kr _ rfl))
        · have h := iteO_f hc h
          refine nx_next ?_
          try dsimp only
          obtain ⟨c7, hc7, h⟩ := letO_some h
          refine (sq_if (et_to (et_T (ev_eqS scStr (ev_var rfl) ev_str rfl)) hc7.symm) (fun hc => ?_) (fun hc => ?_))
          · have h := iteO_t hc h
            obtain ⟨o8, ho8, h⟩ := bindO_some h
            obtain rfl := Option.some.inj h
            exact (sq_ret (ev_makeD (ew_C (ev_none (r := rInt)) (ew_1 (ev_some nn_int (ev_var rfl)))) (dapp_C (dapp_1 (tkE T.t_Region___init_2))) ho8) rfl (kr _ rfl))
          · have h := iteO_f hc h
            refine nx_next ?_
            try dsimp only
            obtain ⟨c9, hc9, h⟩ := letO_some h
            refine (sq_if (et_to (et_T (ev_eqS scStr (ev_var rfl) ev_str rfl)) hc9.symm) (fun hc => ?_) (fun hc => ?_))
            · have h := iteO_t hc h
              obtain ⟨o10, ho10, h⟩ := bindO_some h
              obtain rfl := Option.some.inj h
              exact (sq_ret (ev_makeD (ew_C (ev_some nn_int (ev_add (ev_var rfl) ev_int)) (ew_1 (ev_none (r := rInt)))) (dapp_C (dapp_1 (tkE T.t_Region___init_2))) ho10) rfl (kr _ rfl))
            · have h := iteO_f hc h
              refine nx_next ?_
              try dsimp only
              obtain ⟨c11, hc11, h⟩ := letO_some h
              refine (sq_if (et_to (et_T (ev_eqS scStr (ev_var rfl) ev_str rfl)) hc11.symm) (fun hc => ?_) (fun hc => ?_))
              · have h := iteO_t hc h
                obtain ⟨o12, ho12, h⟩ := bindO_some h
                obtain rfl := Option.some.inj h
                exact (sq_ret (ev_makeD (ew_C (ev_some nn_int (ev_var rfl)) (ew_1 (ev_none (r := rInt)))) (dapp_C (dapp_1 (tkE T.t_Region___init_2))) ho12) rfl (kr _ rfl))
              · have h := iteO_f hc h
                refine nx_next ?_
                try dsimp only
                obtain rfl := Option.some.inj h
                exact (sq_raise1 (ev_var rfl) (ke _ rfl) (fun _ _ _ q => q) (fun _ _ _ _ q => q))
theorem ok_l_stands (T : Txt K mg a) : FnOk P w K mg base CX0 1 a.f_l_stands a.d_l_stands ["_law_value", "_law_sign", "_law_number"] (SpP (wC rInt (wC rStr (w1 rInt))) rBool (fun x => m_l_stands x.1 x.2.1 x.2.2)) := by
  refine T.F_l_stands.ok sc_l_stands (fun vs H Q E h => ?_) (fun cdv A outer s H vs Q E hr h => ?_)
  · obtain ⟨B, x, b, z, sm, hw, h, kr⟩ := h
    rw [WLen.len hw]; rfl
  · obtain ⟨B, ⟨value0, sign0, number0⟩, b, z, sm, hw, h, kr⟩ := h
    have h : m_l_stands value0 sign0 number0 = some b := h
    refine ⟨_, (pss_cons (ps_if (pt_cmpR op_eq (pv 1) pe_str (nomark _)) (pss_cons (ps_ret (pe_cmpR op_eq (pv 0) (pv 2) (nomark _))) pss_nil) pss_nil) (pss_cons (ps_if (pt_cmpR op_eq (pv 1) pe_str (nomark _)) (pss_cons (ps_ret (pe_cmpR op_ne (pv 0) (pv 2) (nomark _))) pss_nil) pss_nil) (pss_cons (ps_if (pt_cmpR op_eq (pv 1) pe_str (nomark _)) (pss_cons (ps_ret (pe_cmpR op_lt (pv 0) (pv 2) (nomark _))) pss_nil) pss_nil) (pss_cons (ps_if (pt_cmpR op_eq (pv 1) pe_str (nomark _)) (pss_cons (ps_ret (pe_cmpR op_le (pv 0) (pv 2) (nomark _))) pss_nil) pss_nil) (pss_cons (ps_if (pt_cmpR op_eq (pv 1) pe_str (nomark _)) (pss_cons (ps_ret (pe_cmpR op_gt (pv 0) (pv 2) (nomark _))) pss_nil) pss_nil) (pss_cons (ps_ret (pe_cmpR op_ge (pv 0) (pv 2) (nomark _))) pss_nil)))))), ?_⟩
    refine nx_go (frm_start (N := N_l_stands) (n := 0) z sm hw (by rw [WLen.len hw]; rfl)) ?_
    show Nx _ _ [.imm rInt value0, .imm rStr sign0, .imm rInt number0]
    unfold m_l_stands at h
    obtain ⟨c1, hc1, h⟩ := letO_some h
    refine (sq_if (et_to (et_T (ev_eqS scStr (ev_var rfl) ev_str rfl)) hc1.symm) (fun hc => ?_) (fun hc => ?_))
    · have h := iteO_t hc h
      exact (sq_ret (ev_eqS scInt (ev_var rfl) (ev_var rfl) rfl) h kr)
    · have h := iteO_f hc h
      refine nx_next ?_
      try dsimp only
      obtain ⟨c2, hc2, h⟩ := letO_some h
      refine (sq_if (et_to (et_T (ev_eqS scStr (ev_var rfl) ev_str rfl)) hc2.symm) (fun hc => ?_) (fun hc => ?_))
      · have h := iteO_t hc h
        exact (sq_ret (ev_neS scInt (ev_var rfl) (ev_var rfl) rfl) h kr)
      · have h := iteO_f hc h
        refine nx_next ?_
        try dsimp only
        obtain ⟨c3, hc3, h⟩ := letO_some h
        refine (sq_if (et_to (et_T (ev_eqS scStr (ev_var rfl) ev_str rfl)) hc3.symm) (fun hc => ?_) (fun hc => ?_))
        · have h := iteO_t hc h
          exact (sq_ret (ev_lt (ev_var rfl) (ev_var rfl)) h kr)
        · have h := iteO_f hc h
          refine nx_next ?_
          try dsimp only
          obtain ⟨c4, hc4, h⟩ := letO_some h
          refine (sq_if (et_to (et_T (ev_eqS scStr (ev_var rfl) ev_str rfl)) hc4.symm) (fun hc => ?_) (fun hc => ?_))
          · have h := iteO_t hc h
            exact (sq_ret (ev_le (ev_var rfl) (ev_var rfl)) h kr)
          · have h := iteO_f hc h
            refine nx_next ?_
            try dsimp only
            obtain ⟨c5, hc5, h⟩ := letO_some h
            refine (sq_if (et_to (et_T (ev_eqS scStr (ev_var rfl) ev_str rfl)) hc5.symm) (fun hc => ?_) (fun hc => ?_))
            · have h := iteO_t hc h
              exact (sq_ret (ev_gt (ev_var rfl) (ev_var rfl)) h kr)
            · have h := iteO_f hc h
              refine nx_next ?_
              try dsimp only
              exact (sq_ret (ev_ge (ev_var rfl) (ev_var rfl)) h kr)
theorem ok_l_all (T : Txt K mg a) : FnOk P w K mg base CX0 2 a.f_l_all a.d_l_all ["_law_conditions_here", "_law_value"] (SpP (wC (rOb (cLst (rOb (cTup (wC rStr (w1 rInt)))))) (w1 rInt)) rBool (fun x => m_l_all x.1 x.2)) := by
  refine T.F_l_all.ok sc_l_all (fun vs H Q E h => ?_) (fun cdv A outer s H vs Q E hr h => ?_)
  · obtain ⟨B, x, b, z, sm, hw, h, kr⟩ := h
    rw [WLen.len hw]; rfl
  · obtain ⟨B, ⟨conditions_here0, value0⟩, b, z, sm, hw, h, kr⟩ := h
    have h : m_l_all conditions_here0 value0 = some b := h
    refine ⟨_, (pss_cons (ps_for PassesOwn.never rfl (pi_list (pv 0)) (pg_tupK (K := K) rfl 2 rfl (pgs_cons (pg_name (i := 2) sc_l_all.nd rfl (by first | exact Or.inl rfl | exact Or.inr rfl)) (pgs_cons (pg_name (i := 3) sc_l_all.nd rfl (by first | exact Or.inl rfl | exact Or.inr rfl)) pgs_nil))) (pss_cons (ps_if (pt_not (pt_val (pe_call (ok_l_stands T) (hr.mono (by decide)) rfl T.g_l_stands T.F_l_stands.kp T.n_l_stands .nil pass0 (pa_cons (pv 1) (pa_cons (pv 2) (pa_cons (pv 3) pa_nil)))))) (pss_cons (ps_ret pe_bl) pss_nil) pss_nil) pss_nil)) (pss_cons (ps_ret pe_bl) pss_nil)), ?_⟩
    refine nx_go (frm_start (N := N_l_all) (n := 2) z sm hw (by rw [WLen.len hw]; rfl)) ?_
    show Nx _ _ [.imm (rOb (cLst (rOb (cTup (wC rStr (w1 rInt)))))) conditions_here0, .imm rInt value0, .no, .no]
    unfold m_l_all at h
    obtain ⟨R5, hR5, h⟩ := bindO_some h
    refine (sq_for (ψ := psi rBool) (m_l_all_b1 value0) (fun z => [.imm (rOb (cLst (rOb (cTup (wC rStr (w1 rInt)))))) conditions_here0, .imm rInt value0, .no, .no]) (it_list (ev_var rfl)) hR5 (fun A1 _ => ?_) (fun _ => (tg_tup (tw_C tg_name (fun _ => (tw_1 tg_name))))) (fun A1 D1 sign2 s1 st hA1 h k1 => ?_) ?_ ?_)
    · exact nx_fin
    · show Nx _ _ [.imm (rOb (cLst (rOb (cTup (wC rStr (w1 rInt)))))) conditions_here0, .imm rInt value0, .imm rStr sign2.1, .imm rInt sign2.2]
      unfold m_l_all_b1 at h
      obtain ⟨v3, hv3, h⟩ := bindO_some h
      obtain ⟨c4, hc4, h⟩ := letO_some h
      refine (sq_if (et_to (et_not (et_B (ev_call (ew_C (ev_var rfl) (ew_C (ev_var rfl) (ew_1 (ev_var rfl)))) hv3))) hc4.symm) (fun hc => ?_) (fun hc => ?_))
      · have h := iteO_t hc h
        exact (sq_ret ev_bl rfl (k1.rt _ (Option.some.inj h).symm))
      · have h := iteO_f hc h
        refine nx_next ?_
        try dsimp only
        refine nx_next ?_
        refine nx_forget 2 ?_
        refine nx_forget 3 ?_
        exact k1.nx _ (Option.some.inj h).symm
    · intro b e
      subst e
      obtain rfl := stepO_ret h; exact kr
    · intro e6 e
      subst e
      have h := stepO_nx h
      show Nx _ _ [.imm (rOb (cLst (rOb (cTup (wC rStr (w1 rInt)))))) conditions_here0, .imm rInt value0, .no, .no]
      exact (sq_ret ev_bl h kr)
theorem ok_l_conditions (T : Txt K mg a) : FnOk P w K mg base CX0 1 a.f_l_conditions a.d_l_conditions ["_law_script"] (SpP (w1 (rScr K)) (rOb (cLst (rOb (cTup (wC rStr (w1 rInt)))))) (fun x => m_l_conditions x)) := by
  refine T.F_l_conditions.ok sc_l_conditions (fun vs H Q E h => ?_) (fun cdv A outer s H vs Q E hr h => ?_)
  · obtain ⟨B, x, b, z, sm, hw, h, kr⟩ := h
    rw [WLen.len hw]; rfl
  · obtain ⟨B, script0, b, z, sm, hw, h, kr⟩ := h
    have h : m_l_conditions script0 = some b := h
    refine ⟨_, (pss_cons (ps_set (i := 1) sc_l_conditions.nd rfl (by first | exact Or.inl rfl | exact Or.inr rfl) pe_bl) (Evl.pss_cut (ps_if (pt_cmpR op_gt (pe_callB (len_seqK (K := K) rfl) (by rfl) T.b_len (by decide +kernel) (pa_cons (pv 0) pa_nil)) pe_int (nomark _)) (pss_cons (ps_set (i := 1) sc_l_conditions.nd rfl (by first | exact Or.inl rfl | exact Or.inr rfl) (pe_cmpR op_eq (pe_op op_mod (pe_callTy call_int1 (by rfl) T.b_int (by decide +kernel) (pa_cons (pe_ix (ix_listK (K := K) rfl) (pv 0) pe_int (fun _ _ => rfl)) pa_nil)) pe_int) pe_int (nomark _))) pss_nil) pss_nil) (pss_cons (ps_set (i := 2) sc_l_conditions.nd rfl (by first | exact Or.inl rfl | exact Or.inr rfl) (pe_lst (pa_cons pe_str (pa_cons pe_str (pa_cons pe_str (pa_cons pe_str (pa_cons pe_str (pa_cons pe_str (pa_cons pe_str (pa_cons pe_str (pa_cons pe_str (pa_cons pe_str (pa_cons pe_str pa_nil))))))))))))) (pss_cons (ps_set (i := 3) sc_l_conditions.nd rfl (by first | exact Or.inl rfl | exact Or.inr rfl) (pe_lst pa_nil)) (pss_cons (ps_for PassesOwn.never rfl (pi_list (pe_slice (sl_listK (K := K) rfl) (pv 0) po_none (po_some pe_int))) (pg_name (i := 4) sc_l_conditions.nd rfl (by first | exact Or.inl rfl | exact Or.inr rfl)) (pss_cons (ps_set (i := 5) sc_l_conditions.nd rfl (by first | exact Or.inl rfl | exact Or.inr rfl) (pe_ix (ix_listK (K := K) rfl) (pv 2) (pe_op op_mod (pe_op op_fdivW (pe_callTy call_int1 (by rfl) T.b_int (by decide +kernel) (pa_cons (pv 4) pa_nil)) pe_int) pe_int) (fun _ _ => rfl))) (pss_cons (ps_set (i := 6) sc_l_conditions.nd rfl (by first | exact Or.inl rfl | exact Or.inr rfl) (pe_op op_sub (pe_op op_mod (pe_op op_fdivW (pe_callTy call_int1 (by rfl) T.b_int (by decide +kernel) (pa_cons (pv 4) pa_nil)) pe_int) pe_int) pe_int)) (Evl.pss_cut (ps_if (PW.pt (pw_and (pt_val (pv 1)) (pw_and1 (pt_cmpR op_ne (pv 5) pe_str (nomark _))))) (pss_cons (ps_set (i := 6) sc_l_conditions.nd rfl (by first | exact Or.inl rfl | exact Or.inr rfl) (pe_op op_add (pv 6) (pe_op op_mul (pe_ix (ix_listK (K := K) rfl) (pe_lst (pa_cons pe_int (pa_cons pe_int (pa_cons (pe_op op_pow pe_int pe_int) (pa_cons (pe_op op_pow pe_int pe_int) pa_nil))))) (pe_op op_mod (pe_op op_fdivW (pe_callTy call_int1 (by rfl) T.b_int (by decide +kernel) (pa_cons (pv 4) pa_nil)) pe_int) pe_int) (fun _ _ => rfl)) (pe_op op_sub (pe_op op_mod (pe_op op_fdivW (pe_callTy call_int1 (by rfl) T.b_int (by decide +kernel) (pa_cons (pv 4) pa_nil)) pe_int) pe_int) pe_int)))) pss_nil) pss_nil) (pss_cons (ps_expr (pe_bm PySem.F.plainAttrs_list PySem.F.slot_list_append PySem.F.type_list_append mt_append (pv 3) (pa_cons (pe_tup (pa_cons (pv 5) (pa_cons (pv 6) pa_nil))) pa_nil))) pss_nil))))) (pss_cons (ps_ret (pv 3)) pss_nil)))))), ?_⟩
    refine nx_go (frm_start (N := N_l_conditions) (n := 6) z sm hw (by rw [WLen.len hw]; rfl)) ?_
    show Nx _ _ [.imm (rScr K) script0, .no, .no, .no, .no, .no, .no]
    unfold m_l_conditions at h
    obtain ⟨wide1, hwide1, h⟩ := letO_some h
    refine (sq_asg (ev_to ev_bl hwide1.symm) ?_)
    show Nx _ _ [.imm (rScr K) script0, .imm rBool wide1, .no, .no, .no, .no, .no]
    obtain ⟨c2, hc2, h⟩ := letO_some h
    obtain ⟨j3, hj3, h2⟩ := bindO_some h
    have h := hj3
    refine nx_cut [.imm (rScr K) script0, .imm rBool j3, .no, .no, .no, .no, .no] (nx_if (et_to (et_T (ev_gt (ev_lenC (ev_var rfl)) ev_int)) hc2.symm) (fun hc => ?_) (fun hc => ?_)) ?_
    · clear h2 hj3
      have h := iteO_t hc h
      obtain ⟨y4, hy4, h⟩ := bindO_some h
      obtain ⟨wide5, hwide5, h⟩ := letO_some h
      refine (sq_asg (ev_to (ev_eqS scInt (ev_mod (ev_int1 (ev_ixC (ev_var rfl) ev_int hy4)) ev_int (by decide)) ev_int rfl) hwide5.symm) ?_)
      show Nx _ _ [.imm (rScr K) script0, .imm rBool wide5, .no, .no, .no, .no, .no]
      obtain rfl := Option.some.inj h
      exact nx_fin
    · clear h2 hj3
      have h := iteO_f hc h
      obtain rfl := Option.some.inj h
      exact nx_fin
    · clear h
      have h := h2
      obtain ⟨signs6, hsigns6, h⟩ := letO_some h
      refine (sq_asg (ev_to (ev_new (ec_lst (eh_C ev_str (eh_C ev_str (eh_C ev_str (eh_C ev_str (eh_C ev_str (eh_C ev_str (eh_C ev_str (eh_C ev_str (eh_C ev_str (eh_C ev_str (eh_C ev_str eh_0))))))))))) (Nat.le_of_ble_eq_true rfl))) hsigns6.symm) ?_)
      show Nx _ _ [.imm (rScr K) script0, .imm rBool j3, .imm (rOb (cLst rStr)) signs6, .no, .no, .no, .no]
      obtain ⟨found7, hfound7, h⟩ := letO_some h
      refine (sq_asgC (c := (cLst (rOb (cTup (wC rStr (w1 rInt)))))) (ec_to (ec_lst eh_0 (Nat.le_of_ble_eq_true rfl)) hfound7.symm) (fun a_found7 na_found7 => ?_))
      show Nx _ _ [.imm (rScr K) script0, .imm rBool j3, .imm (rOb (cLst rStr)) signs6, .cel a_found7 (cLst (rOb (cTup (wC rStr (w1 rInt))))) found7, .no, .no, .no]
      obtain ⟨l8, hl8, h⟩ := bindO_some h
      obtain ⟨R20, hR20, h⟩ := bindO_some h
      refine (sq_for (ψ := psi (rOb (cLst (rOb (cTup (wC rStr (w1 rInt))))))) (m_l_conditions_b1 j3 signs6) (fun z => [.imm (rScr K) script0, .imm rBool j3, .imm (rOb (cLst rStr)) signs6, .cel a_found7 (cLst (rOb (cTup (wC rStr (w1 rInt))))) z, .no, .no, .no]) (it_list (ev_new (ec_slC (ev_var rfl) eo_none (eo_some ev_int) hl8))) hR20 (fun A1 _ => ?_) (fun _ => tg_name) (fun A1 D1 cell10 s9 st hA1 h k1 => ?_) ?_ ?_)
      · exact nx_fin
      · show Nx _ _ [.imm (rScr K) script0, .imm rBool j3, .imm (rOb (cLst rStr)) signs6, .cel a_found7 (cLst (rOb (cTup (wC rStr (w1 rInt))))) s9, .imm rInt cell10, .no, .no]
        unfold m_l_conditions_b1 at h
        obtain ⟨y11, hy11, h⟩ := bindO_some h
        obtain ⟨sign12, hsign12, h⟩ := letO_some h
        refine (sq_asg (ev_to (ev_ixL (ev_var rfl) (ev_mod (ev_divW (ev_int1 (ev_var rfl)) ev_int (by unfold CDivW; decide)) ev_int (by decide)) hy11) hsign12.symm) ?_)
        show Nx _ _ [.imm (rScr K) script0, .imm rBool j3, .imm (rOb (cLst rStr)) signs6, .cel a_found7 (cLst (rOb (cTup (wC rStr (w1 rInt))))) s9, .imm rInt cell10, .imm rStr sign12, .no]
        obtain ⟨number13, hnumber13, h⟩ := letO_some h
        refine (sq_asg (ev_to (ev_sub (ev_mod (ev_divW (ev_int1 (ev_var rfl)) ev_int (by unfold CDivW; decide)) ev_int (by decide)) ev_int) hnumber13.symm) ?_)
        show Nx _ _ [.imm (rScr K) script0, .imm rBool j3, .imm (rOb (cLst rStr)) signs6, .cel a_found7 (cLst (rOb (cTup (wC rStr (w1 rInt))))) s9, .imm rInt cell10, .imm rStr sign12, .imm rInt number13]
        obtain ⟨c14, hc14, h⟩ := letO_some h
        obtain ⟨j15, hj15, h2⟩ := bindO_some h
        have h := hj15
        refine nx_cut [.imm (rScr K) script0, .imm rBool j3, .imm (rOb (cLst rStr)) signs6, .cel a_found7 (cLst (rOb (cTup (wC rStr (w1 rInt))))) s9, .imm rInt cell10, .imm rStr sign12, .imm rInt j15] (nx_if (et_to (et_and0 (et_B (ev_var rfl)) (et_T (ev_neS scStr (ev_var rfl) ev_str rfl))) hc14.symm) (fun hc => ?_) (fun hc => ?_)) ?_
        · clear h2 hj15
          have h := iteO_t hc h
          obtain ⟨y16, hy16, h⟩ := bindO_some h
          obtain ⟨m17, hm17, h⟩ := bindO_some h
          obtain ⟨number18, hnumber18, h⟩ := letO_some h
          refine (sq_asg (ev_to (ev_add (ev_var rfl) (ev_mulP (ev_ixL (ev_new (ec_lst (eh_C ev_int (eh_C ev_int (eh_C (ev_pow ev_int ev_int (by unfold CPow; decide)) (eh_C (ev_pow ev_int ev_int (by unfold CPow; decide)) eh_0)))) (Nat.le_of_ble_eq_true rfl))) (ev_mod (ev_divW (ev_int1 (ev_var rfl)) ev_int (by unfold CDivW; decide)) ev_int (by decide)) hy16) (ev_sub (ev_mod (ev_divW (ev_int1 (ev_var rfl)) ev_int (by unfold CDivW; decide)) ev_int (by decide)) ev_int) hm17)) hnumber18.symm) ?_)
          show Nx _ _ [.imm (rScr K) script0, .imm rBool j3, .imm (rOb (cLst rStr)) signs6, .cel a_found7 (cLst (rOb (cTup (wC rStr (w1 rInt))))) s9, .imm rInt cell10, .imm rStr sign12, .imm rInt number18]
          obtain rfl := Option.some.inj h
          exact nx_fin
        · clear h2 hj15
          have h := iteO_f hc h
          obtain rfl := Option.some.inj h
          exact nx_fin
        · clear h
          have h := h2
          obtain ⟨found19, hfound19, h⟩ := bindO_some h
          refine (sq_app (ev_new (ec_tup (ew_C (ev_var rfl) (ew_1 (ev_var rfl))))) rfl rfl hfound19 ?_)
          show Nx _ _ [.imm (rScr K) script0, .imm rBool j3, .imm (rOb (cLst rStr)) signs6, .cel a_found7 (cLst (rOb (cTup (wC rStr (w1 rInt))))) found19, .imm rInt cell10, .imm rStr sign12, .imm rInt j15]
          refine nx_next ?_
          refine nx_forget 4 ?_
          refine nx_forget 5 ?_
          refine nx_forget 6 ?_
          exact k1.nx _ (Option.some.inj h).symm
      · intro b e
        subst e
        obtain rfl := stepO_ret h; exact kr
      · intro e21 e
        subst e
        have h := stepO_nx h
        show Nx _ _ [.imm (rScr K) script0, .imm rBool j3, .imm (rOb (cLst rStr)) signs6, .cel a_found7 (cLst (rOb (cTup (wC rStr (w1 rInt))))) e21, .no, .no, .no]
        exact (sq_retCel (i := 3) rfl (fun _ h => h) h kr)
theorem ok_l_values (T : Txt K mg a) : FnOk P w K mg base CX0 1 a.f_l_values a.d_l_values ["_law_conditions_here"] (SpC (w1 (rOb (cLst (rOb (cTup (wC rStr (w1 rInt))))))) (cLst rInt) (fun x => m_l_values x)) := by
  refine T.F_l_values.ok sc_l_values (fun vs H Q E h => ?_) (fun cdv A outer s H vs Q E hr h => ?_)
  · obtain ⟨B, x, b, z, sm, hw, h, kr⟩ := h
    rw [WLen.len hw]; rfl
  · obtain ⟨B, conditions_here0, b, z, sm, hw, h, kr⟩ := h
    have h : m_l_values conditions_here0 = some b := h
    have kr : RtC (amb0 B H) (cLst rInt) b Q := kr
    refine ⟨_, (pss_cons (ps_set (i := 1) sc_l_values.nd rfl (by first | exact Or.inl rfl | exact Or.inr rfl) (pe_lst (pa_cons pe_int pa_nil))) (pss_cons (ps_for PassesOwn.never rfl (pi_list (pv 0)) (pg_tupK (K := K) rfl 2 rfl (pgs_cons (pg_name (i := 2) sc_l_values.nd rfl (by first | exact Or.inl rfl | exact Or.inr rfl)) (pgs_cons (pg_name (i := 3) sc_l_values.nd rfl (by first | exact Or.inl rfl | exact Or.inr rfl)) pgs_nil))) (pss_cons (ps_set (i := 1) sc_l_values.nd rfl (by first | exact Or.inl rfl | exact Or.inr rfl) (pe_op op_cat (pv 1) (pe_lst (pa_cons (pe_op op_sub (pv 3) pe_int) (pa_cons (pv 3) (pa_cons (pe_op op_add (pv 3) pe_int) pa_nil)))))) pss_nil)) (pss_cons (ps_set (i := 1) sc_l_values.nd rfl (by first | exact Or.inl rfl | exact Or.inr rfl) (pe_op op_cat (pv 1) (pe_lst (pa_cons (pe_op op_add (pe_callB (maxK (K := K) rfl rfl) (by rfl) T.b_max (by decide +kernel) (pa_cons (pv 1) pa_nil)) (pe_op op_pow pe_int pe_int)) (pa_cons (pe_op op_sub (pe_callB (minK (K := K) rfl rfl) (by rfl) T.b_min (by decide +kernel) (pa_cons (pv 1) pa_nil)) (pe_op op_pow pe_int pe_int)) pa_nil))))) (pss_cons (ps_ret (pe_callB (sortIK (K := K) rfl) (by rfl) T.b_sorted (by decide +kernel) (pa_cons (pv 1) pa_nil))) pss_nil)))), ?_⟩
    refine nx_go (frm_start (N := N_l_values) (n := 3) z sm hw (by rw [WLen.len hw]; rfl)) ?_
    show Nx _ _ [.imm (rOb (cLst (rOb (cTup (wC rStr (w1 rInt)))))) conditions_here0, .no, .no, .no]
    unfold m_l_values at h
    obtain ⟨near1, hnear1, h⟩ := letO_some h
    refine (sq_asg (ev_to (ev_new (ec_lst (eh_C ev_int eh_0) (Nat.le_of_ble_eq_true rfl))) hnear1.symm) ?_)
    show Nx _ _ [.imm (rOb (cLst (rOb (cTup (wC rStr (w1 rInt)))))) conditions_here0, .imm (rOb (cLst rInt)) near1, .no, .no]
    obtain ⟨R6, hR6, h⟩ := bindO_some h
    refine (sq_for (ψ := (fun _ _ _ _ => False)) (m_l_values_b1) (fun z => [.imm (rOb (cLst (rOb (cTup (wC rStr (w1 rInt)))))) conditions_here0, .imm (rOb (cLst rInt)) z, .no, .no]) (it_list (ev_var rfl)) hR6 (fun A1 _ => ?_) (fun _ => (tg_tup (tw_C tg_name (fun _ => (tw_1 tg_name))))) (fun A1 D1 sign3 s2 st hA1 h k1 => ?_) ?_ ?_)
    · exact nx_fin
    · show Nx _ _ [.imm (rOb (cLst (rOb (cTup (wC rStr (w1 rInt)))))) conditions_here0, .imm (rOb (cLst rInt)) s2, .imm rStr sign3.1, .imm rInt sign3.2]
      unfold m_l_values_b1 at h
      obtain ⟨l4, hl4, h⟩ := bindO_some h
      obtain ⟨near5, hnear5, h⟩ := letO_some h
      refine (sq_asg (ev_to (ev_new (ec_cat (ev_var rfl) (ev_new (ec_lst (eh_C (ev_sub (ev_var rfl) ev_int) (eh_C (ev_var rfl) (eh_C (ev_add (ev_var rfl) ev_int) eh_0))) (Nat.le_of_ble_eq_true rfl))) hl4)) hnear5.symm) ?_)
      show Nx _ _ [.imm (rOb (cLst (rOb (cTup (wC rStr (w1 rInt)))))) conditions_here0, .imm (rOb (cLst rInt)) near5, .imm rStr sign3.1, .imm rInt sign3.2]
      refine nx_next ?_
      refine nx_forget 2 ?_
      refine nx_forget 3 ?_
      exact k1.nx _ (Option.some.inj h).symm
    · intro b e
      subst e
      exact fun _ _ _ _ z => z.elim
    · intro e7 e
      subst e
      have h := stepO_nx h
      show Nx _ _ [.imm (rOb (cLst (rOb (cTup (wC rStr (w1 rInt)))))) conditions_here0, .imm (rOb (cLst rInt)) e7, .no, .no]
      obtain ⟨m8, hm8, h⟩ := bindO_some h
      obtain ⟨m9, hm9, h⟩ := bindO_some h
      obtain ⟨l10, hl10, h⟩ := bindO_some h
      obtain ⟨near11, hnear11, h⟩ := letO_some h
      refine (sq_asg (ev_to (ev_new (ec_cat (ev_var rfl) (ev_new (ec_lst (eh_C (ev_add (ev_max1 (ev_var rfl) hm8) (ev_pow ev_int ev_int (by unfold CPow; decide))) (eh_C (ev_sub (ev_min1 (ev_var rfl) hm9) (ev_pow ev_int ev_int (by unfold CPow; decide))) eh_0)) (Nat.le_of_ble_eq_true rfl))) hl10)) hnear11.symm) ?_)
      show Nx _ _ [.imm (rOb (cLst (rOb (cTup (wC rStr (w1 rInt)))))) conditions_here0, .imm (rOb (cLst rInt)) near11, .no, .no]
      exact (sq_retC (ec_sortI (ev_var rfl)) h kr)
theorem ok_l_least (T : Txt K mg a) : FnOk P w K mg base CX0 1 a.f_l_least a.d_l_least ["_law_conditions_here"] (SpP (w1 (rOb (cLst (rOb (cTup (wC rStr (w1 rInt))))))) (rOpt rInt) (fun x => m_l_least x)) := by
  refine T.F_l_least.ok sc_l_least (fun vs H Q E h => ?_) (fun cdv A outer s H vs Q E hr h => ?_)
  · obtain ⟨B, x, b, z, sm, hw, h, kr⟩ := h
    rw [WLen.len hw]; rfl
  · obtain ⟨B, conditions_here0, b, z, sm, hw, h, kr⟩ := h
    have h : m_l_least conditions_here0 = some b := h
    refine ⟨_, (pss_cons (ps_setLc (i := 1) (own := [("_law_condition", 5)]) rfl sc_l_least.nd rfl rfl (sw_true rfl rfl rfl (by decide +kernel)) (pi_list (pv 0)) (blkOk_by (N := N_l_least) (sc := defScope s_l_least) (by decide +kernel)) (fun _ _ _ _ _ => (pg_name (i := 5) sc_l_least.nd rfl (by first | exact Or.inl rfl | exact Or.inr rfl))) (fun _ _ _ _ _ => (pts_one (pt_cmpR (in_seqK (K := K) rfl) (pe_ix (ix_tupK (K := K) rfl) (pv 5) pe_int (fun _ _ => rfl)) (pe_tup (pa_cons pe_str (pa_cons pe_str pa_nil))) rfl))) (fun _ _ _ _ _ => (pe_ix (ix_tupK (K := K) rfl) (pv 5) pe_int (fun _ _ => rfl)))) (pss_cons (ps_set (i := 1) sc_l_least.nd rfl (by first | exact Or.inl rfl | exact Or.inr rfl) (pe_op op_cat (pv 1) (pe_lc (own := [("_law_condition", 5)]) rfl sc_l_least.nd (pi_list (pv 0)) (blkOk_by (N := N_l_least) (sc := defScope s_l_least) (by decide +kernel)) (fun _ _ _ _ _ => (pg_name (i := 5) sc_l_least.nd rfl (by first | exact Or.inl rfl | exact Or.inr rfl))) (fun _ _ _ _ _ => (pts_one (pt_cmpR op_eq (pe_ix (ix_tupK (K := K) rfl) (pv 5) pe_int (fun _ _ => rfl)) pe_str (nomark _)))) (fun _ _ _ _ _ => (pe_op op_add (pe_ix (ix_tupK (K := K) rfl) (pv 5) pe_int (fun _ _ => rfl)) pe_int))))) (pss_cons (ps_if (pt_cmpR (eqDK (K := K) rfl hr.units) (pv 1) (pe_lst pa_nil) (nomark _)) (pss_cons (ps_ret pe_non) pss_nil) pss_nil) (pss_cons (ps_set (i := 2) sc_l_least.nd rfl (by first | exact Or.inl rfl | exact Or.inr rfl) (pe_callB (maxK (K := K) rfl rfl) (by rfl) T.b_max (by decide +kernel) (pa_cons (pv 1) pa_nil))) (pss_cons (ps_setLc (i := 3) (own := [("_law_condition", 5)]) rfl sc_l_least.nd rfl rfl (sw_true rfl rfl rfl (by decide +kernel)) (pi_list (pv 0)) (blkOk_by (N := N_l_least) (sc := defScope s_l_least) (by decide +kernel)) (fun _ _ _ _ _ => (pg_name (i := 5) sc_l_least.nd rfl (by first | exact Or.inl rfl | exact Or.inr rfl))) (fun _ _ _ _ _ => (pts_one (pt_cmpR op_eq (pe_ix (ix_tupK (K := K) rfl) (pv 5) pe_int (fun _ _ => rfl)) pe_str (nomark _)))) (fun _ _ _ _ _ => (pe_ix (ix_tupK (K := K) rfl) (pv 5) pe_int (fun _ _ => rfl)))) (pss_cons (ps_for PassesOwn.never rfl (pi_range1 rfl T.b_range (pa_cons (pe_callB (len_seqK (K := K) rfl) (by rfl) T.b_len (by decide +kernel) (pa_cons (pv 3) pa_nil)) pa_nil)) (pg_name (i := 4) sc_l_least.nd rfl (by first | exact Or.inl rfl | exact Or.inr rfl)) (pss_cons (ps_if (pt_cmpR (in_seqK (K := K) rfl) (pv 2) (pv 3) rfl) (pss_cons (ps_set (i := 2) sc_l_least.nd rfl (by first | exact Or.inl rfl | exact Or.inr rfl) (pe_op op_add (pv 2) pe_int)) pss_nil) pss_nil) pss_nil)) (pss_cons (ps_ret (pv 2)) pss_nil))))))), ?_⟩
    refine nx_go (frm_start (N := N_l_least) (n := 5) z sm hw (by rw [WLen.len hw]; rfl)) ?_
    show Nx _ _ [.imm (rOb (cLst (rOb (cTup (wC rStr (w1 rInt)))))) conditions_here0, .no, .no, .no, .no, .no]
    unfold m_l_least at h
    obtain ⟨l3, hl3, h⟩ := bindO_some h
    obtain ⟨lows4, hlows4, h⟩ := letO_some h
    refine (sq_asg (ev_to (ev_new (ec_lc (m_l_least_c1) (it_list (ev_var rfl)) hl3 tg_name (fun k hk => hk) (by rfl) (fun _ => by rfl) (fun condition1 o ho => by unfold m_l_least_c1 at ho; obtain ⟨c2, hc2, ho⟩ := letO_some ho; cases c2 with | true => (have ho : (some (some condition1.2)) = some o := ho; cases ho; exact ⟨et_to (et_T (ev_inT fl_str (ev_ixU (k := 0) (ev_var rfl) (acc0)) (ev_new (ec_tpl (eh_C ev_str (eh_C ev_str eh_0)) (Nat.le_of_ble_eq_true rfl))))) hc2.symm, fun y hy => by cases hy; exact ev_to (ev_ixU (k := 1) (ev_var rfl) (accS (acc1))) rfl⟩) | false => (have ho : some none = some o := ho; cases ho; exact ⟨et_to (et_T (ev_inT fl_str (ev_ixU (k := 0) (ev_var rfl) (acc0)) (ev_new (ec_tpl (eh_C ev_str (eh_C ev_str eh_0)) (Nat.le_of_ble_eq_true rfl))))) hc2.symm, fun y hy => by cases hy⟩)))) hlows4.symm) ?_)
    show Nx _ _ [.imm (rOb (cLst (rOb (cTup (wC rStr (w1 rInt)))))) conditions_here0, .imm (rOb (cLst rInt)) lows4, .no, .no, .no, .no]
    obtain ⟨l7, hl7, h⟩ := bindO_some h
    obtain ⟨l8, hl8, h⟩ := bindO_some h
    obtain ⟨lows9, hlows9, h⟩ := letO_some h
    refine (sq_asg (ev_to (ev_new (ec_cat (ev_var rfl) (ev_new (ec_lc (m_l_least_c2) (it_list (ev_var rfl)) hl7 tg_name (fun k hk => hk) (by rfl) (fun _ => by rfl) (fun condition5 o ho => by unfold m_l_least_c2 at ho; obtain ⟨c6, hc6, ho⟩ := letO_some ho; cases c6 with | true => (have ho : (some (some (condition5.2 + (1 : Int)))) = some o := ho; cases ho; exact ⟨et_to (et_T (ev_eqS scStr (ev_ixU (k := 0) (ev_var rfl) (acc0)) ev_str rfl)) hc6.symm, fun y hy => by cases hy; exact ev_to (ev_add (ev_ixU (k := 1) (ev_var rfl) (accS (acc1))) ev_int) rfl⟩) | false => (have ho : some none = some o := ho; cases ho; exact ⟨et_to (et_T (ev_eqS scStr (ev_ixU (k := 0) (ev_var rfl) (acc0)) ev_str rfl)) hc6.symm, fun y hy => by cases hy⟩)))) hl8)) hlows9.symm) ?_)
    show Nx _ _ [.imm (rOb (cLst (rOb (cTup (wC rStr (w1 rInt)))))) conditions_here0, .imm (rOb (cLst rInt)) lows9, .no, .no, .no, .no]
    obtain ⟨q10, hq10, h⟩ := bindO_some h
    obtain ⟨c11, hc11, h⟩ := letO_some h
    refine (sq_if (et_to (et_T (ev_eqD (da_lst da_int) (da_hls daw_0) (ev_var rfl) (ev_new (ec_hls ew_0)) hq10)) hc11.symm) (fun hc => ?_) (fun hc => ?_))
    · have h := iteO_t hc h
      exact (sq_ret (ev_none (r := rInt)) h kr)
    · have h := iteO_f hc h
      refine nx_next ?_
      try dsimp only
      obtain ⟨m12, hm12, h⟩ := bindO_some h
      obtain ⟨value13, hvalue13, h⟩ := letO_some h
      refine (sq_asg (ev_to (ev_max1 (ev_var rfl) hm12) hvalue13.symm) ?_)
      show Nx _ _ [.imm (rOb (cLst (rOb (cTup (wC rStr (w1 rInt)))))) conditions_here0, .imm (rOb (cLst rInt)) lows9, .imm rInt value13, .no, .no, .no]
      obtain ⟨l16, hl16, h⟩ := bindO_some h
      obtain ⟨holes17, hholes17, h⟩ := letO_some h
      refine (sq_asg (ev_to (ev_new (ec_lc (m_l_least_c3) (it_list (ev_var rfl)) hl16 tg_name (fun k hk => hk) (by rfl) (fun _ => by rfl) (fun condition14 o ho => by unfold m_l_least_c3 at ho; obtain ⟨c15, hc15, ho⟩ := letO_some ho; cases c15 with | true => (have ho : (some (some condition14.2)) = some o := ho; cases ho; exact ⟨et_to (et_T (ev_eqS scStr (ev_ixU (k := 0) (ev_var rfl) (acc0)) ev_str rfl)) hc15.symm, fun y hy => by cases hy; exact ev_to (ev_ixU (k := 1) (ev_var rfl) (accS (acc1))) rfl⟩) | false => (have ho : some none = some o := ho; cases ho; exact ⟨et_to (et_T (ev_eqS scStr (ev_ixU (k := 0) (ev_var rfl) (acc0)) ev_str rfl)) hc15.symm, fun y hy => by cases hy⟩)))) hholes17.symm) ?_)
      show Nx _ _ [.imm (rOb (cLst (rOb (cTup (wC rStr (w1 rInt)))))) conditions_here0, .imm (rOb (cLst rInt)) lows9, .imm rInt value13, .imm (rOb (cLst rInt)) holes17, .no, .no]
      obtain ⟨l18, hl18, h⟩ := bindO_some h
      obtain ⟨R23, hR23, h⟩ := bindO_some h
      refine (sq_for (ψ := psi (rOpt rInt)) (m_l_least_b1 holes17) (fun z => [.imm (rOb (cLst (rOb (cTup (wC rStr (w1 rInt)))))) conditions_here0, .imm (rOb (cLst rInt)) lows9, .imm rInt z, .imm (rOb (cLst rInt)) holes17, .no, .no]) (it_rng1 (ew_1 (ev_lenL (ev_var rfl))) hl18) hR23 (fun A1 _ => ?_) (fun _ => tg_name) (fun A1 D1 k20 s19 st hA1 h k1 => ?_) ?_ ?_)
      · exact nx_fin
      · show Nx _ _ [.imm (rOb (cLst (rOb (cTup (wC rStr (w1 rInt)))))) conditions_here0, .imm (rOb (cLst rInt)) lows9, .imm rInt s19, .imm (rOb (cLst rInt)) holes17, .imm rInt k20, .no]
        unfold m_l_least_b1 at h
        obtain ⟨c21, hc21, h⟩ := letO_some h
        refine (sq_if (et_to (et_T (ev_inL fl_int (ev_var rfl) (ev_var rfl))) hc21.symm) (fun hc => ?_) (fun hc => ?_))
        · have h := iteO_t hc h
          obtain ⟨value22, hvalue22, h⟩ := letO_some h
          refine (sq_asg (ev_to (ev_add (ev_var rfl) ev_int) hvalue22.symm) ?_)
          show Nx _ _ [.imm (rOb (cLst (rOb (cTup (wC rStr (w1 rInt)))))) conditions_here0, .imm (rOb (cLst rInt)) lows9, .imm rInt value22, .imm (rOb (cLst rInt)) holes17, .imm rInt k20, .no]
          refine nx_next ?_
          refine nx_forget 4 ?_
          exact k1.nx _ (Option.some.inj h).symm
        · have h := iteO_f hc h
          refine nx_next ?_
          refine nx_forget 4 ?_
          exact k1.nx _ (Option.some.inj h).symm
      · intro b e
        subst e
        obtain rfl := stepO_ret h; exact kr
      · intro e24 e
        subst e
        have h := stepO_nx h
        show Nx _ _ [.imm (rOb (cLst (rOb (cTup (wC rStr (w1 rInt)))))) conditions_here0, .imm (rOb (cLst rInt)) lows9, .imm rInt e24, .imm (rOb (cLst rInt)) holes17, .no, .no]
        exact (sq_ret (ev_some nn_int (ev_var rfl)) h kr)
theorem ok_l_greatest (T : Txt K mg a) : FnOk P w K mg base CX0 1 a.f_l_greatest a.d_l_greatest ["_law_conditions_here"] (SpP (w1 (rOb (cLst (rOb (cTup (wC rStr (w1 rInt))))))) (rOpt rInt) (fun x => m_l_greatest x)) := by
  refine T.F_l_greatest.ok sc_l_greatest (fun vs H Q E h => ?_) (fun cdv A outer s H vs Q E hr h => ?_)
  · obtain ⟨B, x, b, z, sm, hw, h, kr⟩ := h
    rw [WLen.len hw]; rfl
  · obtain ⟨B, conditions_here0, b, z, sm, hw, h, kr⟩ := h
    have h : m_l_greatest conditions_here0 = some b := h
    refine ⟨_, (pss_cons (ps_setLc (i := 1) (own := [("_law_condition", 5)]) rfl sc_l_greatest.nd rfl rfl (sw_true rfl rfl rfl (by decide +kernel)) (pi_list (pv 0)) (blkOk_by (N := N_l_greatest) (sc := defScope s_l_greatest) (by decide +kernel)) (fun _ _ _ _ _ => (pg_name (i := 5) sc_l_greatest.nd rfl (by first | exact Or.inl rfl | exact Or.inr rfl))) (fun _ _ _ _ _ => (pts_one (pt_cmpR (in_seqK (K := K) rfl) (pe_ix (ix_tupK (K := K) rfl) (pv 5) pe_int (fun _ _ => rfl)) (pe_tup (pa_cons pe_str (pa_cons pe_str pa_nil))) rfl))) (fun _ _ _ _ _ => (pe_ix (ix_tupK (K := K) rfl) (pv 5) pe_int (fun _ _ => rfl)))) (pss_cons (ps_set (i := 1) sc_l_greatest.nd rfl (by first | exact Or.inl rfl | exact Or.inr rfl) (pe_op op_cat (pv 1) (pe_lc (own := [("_law_condition", 5)]) rfl sc_l_greatest.nd (pi_list (pv 0)) (blkOk_by (N := N_l_greatest) (sc := defScope s_l_greatest) (by decide +kernel)) (fun _ _ _ _ _ => (pg_name (i := 5) sc_l_greatest.nd rfl (by first | exact Or.inl rfl | exact Or.inr rfl))) (fun _ _ _ _ _ => (pts_one (pt_cmpR op_eq (pe_ix (ix_tupK (K := K) rfl) (pv 5) pe_int (fun _ _ => rfl)) pe_str (nomark _)))) (fun _ _ _ _ _ => (pe_op op_sub (pe_ix (ix_tupK (K := K) rfl) (pv 5) pe_int (fun _ _ => rfl)) pe_int))))) (pss_cons (ps_if (pt_cmpR (eqDK (K := K) rfl hr.units) (pv 1) (pe_lst pa_nil) (nomark _)) (pss_cons (ps_ret pe_non) pss_nil) pss_nil) (pss_cons (ps_set (i := 2) sc_l_greatest.nd rfl (by first | exact Or.inl rfl | exact Or.inr rfl) (pe_callB (minK (K := K) rfl rfl) (by rfl) T.b_min (by decide +kernel) (pa_cons (pv 1) pa_nil))) (pss_cons (ps_setLc (i := 3) (own := [("_law_condition", 5)]) rfl sc_l_greatest.nd rfl rfl (sw_true rfl rfl rfl (by decide +kernel)) (pi_list (pv 0)) (blkOk_by (N := N_l_greatest) (sc := defScope s_l_greatest) (by decide +kernel)) (fun _ _ _ _ _ => (pg_name (i := 5) sc_l_greatest.nd rfl (by first | exact Or.inl rfl | exact Or.inr rfl))) (fun _ _ _ _ _ => (pts_one (pt_cmpR op_eq (pe_ix (ix_tupK (K := K) rfl) (pv 5) pe_int (fun _ _ => rfl)) pe_str (nomark _)))) (fun _ _ _ _ _ => (pe_ix (ix_tupK (K := K) rfl) (pv 5) pe_int (fun _ _ => rfl)))) (pss_cons (ps_for PassesOwn.never rfl (pi_range1 rfl T.b_range (pa_cons (pe_callB (len_seqK (K := K) rfl) (by rfl) T.b_len (by decide +kernel) (pa_cons (pv 3) pa_nil)) pa_nil)) (pg_name (i := 4) sc_l_greatest.nd rfl (by first | exact Or.inl rfl | exact Or.inr rfl)) (pss_cons (ps_if (pt_cmpR (in_seqK (K := K) rfl) (pv 2) (pv 3) rfl) (pss_cons (ps_set (i := 2) sc_l_greatest.nd rfl (by first | exact Or.inl rfl | exact Or.inr rfl) (pe_op op_sub (pv 2) pe_int)) pss_nil) pss_nil) pss_nil)) (pss_cons (ps_ret (pv 2)) pss_nil))))))), ?_⟩
    refine nx_go (frm_start (N := N_l_greatest) (n := 5) z sm hw (by rw [WLen.len hw]; rfl)) ?_
    show Nx _ _ [.imm (rOb (cLst (rOb (cTup (wC rStr (w1 rInt)))))) conditions_here0, .no, .no, .no, .no, .no]
    unfold m_l_greatest at h
    obtain ⟨l3, hl3, h⟩ := bindO_some h
    obtain ⟨highs4, hhighs4, h⟩ := letO_some h
    refine (sq_asg (ev_to (ev_new (ec_lc (m_l_greatest_c1) (it_list (ev_var rfl)) hl3 tg_name (fun k hk => hk) (by rfl) (fun _ => by rfl) (fun condition1 o ho => by unfold m_l_greatest_c1 at ho; obtain ⟨c2, hc2, ho⟩ := letO_some ho; cases c2 with | true => (have ho : (some (some condition1.2)) = some o := ho; cases ho; exact ⟨et_to (et_T (ev_inT fl_str (ev_ixU (k := 0) (ev_var rfl) (acc0)) (ev_new (ec_tpl (eh_C ev_str (eh_C ev_str eh_0)) (Nat.le_of_ble_eq_true rfl))))) hc2.symm, fun y hy => by cases hy; exact ev_to (ev_ixU (k := 1) (ev_var rfl) (accS (acc1))) rfl⟩) | false => (have ho : some none = some o := ho; cases ho; exact ⟨et_to (et_T (ev_inT fl_str (ev_ixU (k := 0) (ev_var rfl) (acc0)) (ev_new (ec_tpl (eh_C ev_str (eh_C ev_str eh_0)) (Nat.le_of_ble_eq_true rfl))))) hc2.symm, fun y hy => by cases hy⟩)))) hhighs4.symm) ?_)
    show Nx _ _ [.imm (rOb (cLst (rOb (cTup (wC rStr (w1 rInt)))))) conditions_here0, .imm (rOb (cLst rInt)) highs4, .no, .no, .no, .no]
    obtain ⟨l7, hl7, h⟩ := bindO_some h
    obtain ⟨l8, hl8, h⟩ := bindO_some h
    obtain ⟨highs9, hhighs9, h⟩ := letO_some h
    refine (sq_asg (ev_to (ev_new (ec_cat (ev_var rfl) (ev_new (ec_lc (m_l_greatest_c2) (it_list (ev_var rfl)) hl7 tg_name (fun k hk => hk) (by rfl) (fun _ => by rfl) (fun condition5 o ho => by unfold m_l_greatest_c2 at ho; obtain ⟨c6, hc6, ho⟩ := letO_some ho; cases c6 with | true => (have ho : (some (some (condition5.2 - (1 : Int)))) = some o := ho; cases ho; exact ⟨et_to (et_T (ev_eqS scStr (ev_ixU (k := 0) (ev_var rfl) (acc0)) ev_str rfl)) hc6.symm, fun y hy => by cases hy; exact ev_to (ev_sub (ev_ixU (k := 1) (ev_var rfl) (accS (acc1))) ev_int) rfl⟩) | false => (have ho : some none = some o := ho; cases ho; exact ⟨et_to (et_T (ev_eqS scStr (ev_ixU (k := 0) (ev_var rfl) (acc0)) ev_str rfl)) hc6.symm, fun y hy => by cases hy⟩)))) hl8)) hhighs9.symm) ?_)
    show Nx _ _ [.imm (rOb (cLst (rOb (cTup (wC rStr (w1 rInt)))))) conditions_here0, .imm (rOb (cLst rInt)) highs9, .no, .no, .no, .no]
    obtain ⟨q10, hq10, h⟩ := bindO_some h
    obtain ⟨c11, hc11, h⟩ := letO_some h
    refine (sq_if (et_to (et_T (ev_eqD (da_lst da_int) (da_hls daw_0) (ev_var rfl) (ev_new (ec_hls ew_0)) hq10)) hc11.symm) (fun hc => ?_) (fun hc => ?_))
    · have h := iteO_t hc h
      exact (sq_ret (ev_none (r := rInt)) h kr)
    · have h := iteO_f hc h
      refine nx_next ?_
      try dsimp only
      obtain ⟨m12, hm12, h⟩ := bindO_some h
      obtain ⟨value13, hvalue13, h⟩ := letO_some h
      refine (sq_asg (ev_to (ev_min1 (ev_var rfl) hm12) hvalue13.symm) ?_)
      show Nx _ _ [.imm (rOb (cLst (rOb (cTup (wC rStr (w1 rInt)))))) conditions_here0, .imm (rOb (cLst rInt)) highs9, .imm rInt value13, .no, .no, .no]
      obtain ⟨l16, hl16, h⟩ := bindO_some h
      obtain ⟨holes17, hholes17, h⟩ := letO_some h
      refine (sq_asg (ev_to (ev_new (ec_lc (m_l_greatest_c3) (it_list (ev_var rfl)) hl16 tg_name (fun k hk => hk) (by rfl) (fun _ => by rfl) (fun condition14 o ho => by unfold m_l_greatest_c3 at ho; obtain ⟨c15, hc15, ho⟩ := letO_some ho; cases c15 with | true => (have ho : (some (some condition14.2)) = some o := ho; cases ho; exact ⟨et_to (et_T (ev_eqS scStr (ev_ixU (k := 0) (ev_var rfl) (acc0)) ev_str rfl)) hc15.symm, fun y hy => by cases hy; exact ev_to (ev_ixU (k := 1) (ev_var rfl) (accS (acc1))) rfl⟩) | false => (have ho : some none = some o := ho; cases ho; exact ⟨et_to (et_T (ev_eqS scStr (ev_ixU (k := 0) (ev_var rfl) (acc0)) ev_str rfl)) hc15.symm, fun y hy => by cases hy⟩)))) hholes17.symm) ?_)
      show Nx _ _ [.imm (rOb (cLst (rOb (cTup (wC rStr (w1 rInt)))))) conditions_here0, .imm (rOb (cLst rInt)) highs9, .imm rInt value13, .imm (rOb (cLst rInt)) holes17, .no, .no]
      obtain ⟨l18, hl18, h⟩ := bindO_some h
      obtain ⟨R23, hR23, h⟩ := bindO_some h
      refine (sq_for (ψ := psi (rOpt rInt)) (m_l_greatest_b1 holes17) (fun z => [.imm (rOb (cLst (rOb (cTup (wC rStr (w1 rInt)))))) conditions_here0, .imm (rOb (cLst rInt)) highs9, .imm rInt z, .imm (rOb (cLst rInt)) holes17, .no, .no]) (it_rng1 (ew_1 (ev_lenL (ev_var rfl))) hl18) hR23 (fun A1 _ => ?_) (fun _ => tg_name) (fun A1 D1 k20 s19 st hA1 h k1 => ?_) ?_ ?_)
      · exact nx_fin
      · show Nx _ _ [.imm (rOb (cLst (rOb (cTup (wC rStr (w1 rInt)))))) conditions_here0, .imm (rOb (cLst rInt)) highs9, .imm rInt s19, .imm (rOb (cLst rInt)) holes17, .imm rInt k20, .no]
        unfold m_l_greatest_b1 at h
        obtain ⟨c21, hc21, h⟩ := letO_some h
        refine (sq_if (et_to (et_T (ev_inL fl_int (ev_var rfl) (ev_var rfl))) hc21.symm) (fun hc => ?_) (fun hc => ?_))
        · have h := iteO_t hc h
          obtain ⟨value22, hvalue22, h⟩ := letO_some h
          refine (sq_asg (ev_to (ev_sub (ev_var rfl) ev_int) hvalue22.symm) ?_)
          show Nx _ _ [.imm (rOb (cLst (rOb (cTup (wC rStr (w1 rInt)))))) conditions_here0, .imm (rOb (cLst rInt)) highs9, .imm rInt value22, .imm (rOb (cLst rInt)) holes17, .imm rInt k20, .no]
          refine nx_next ?_
          refine nx_forget 4 ?_
          exact k1.nx _ (Option.some.inj h).symm
        · have h := iteO_f hc h
          refine nx_next ?_
          refine nx_forget 4 ?_
          exact k1.nx _ (Option.some.inj h).symm
      · intro b e
        subst e
        obtain rfl := stepO_ret h; exact kr
      · intro e24 e
        subst e
        have h := stepO_nx h
        show Nx _ _ [.imm (rOb (cLst (rOb (cTup (wC rStr (w1 rInt)))))) conditions_here0, .imm (rOb (cLst rInt)) highs9, .imm rInt e24, .imm (rOb (cLst rInt)) holes17, .no, .no]
        exact (sq_ret (ev_some nn_int (ev_var rfl)) h kr)
theorem ok_l_formed (T : Txt K mg a) : FnOk P w K mg base CX0 4 a.f_l_formed a.d_l_formed ["_law_region", "_law_conditions_here"] (SpP (wC (rIns a.C_Region [("low" : Str), ("high" : Str), ("without" : Str), ("size" : Str), ("value" : Str), ("_gaps" : Str)] (wC (rOpt rInt) (wC (rOpt rInt) (wC (rOb (cTpl rInt)) (wC (rOpt rInt) (wC (rOpt rInt) (w1 (rOb (cDic kyInt rBool))))))))) (w1 (rOb (cLst (rOb (cTup (wC rStr (w1 rInt)))))))) rBool (fun x => m_l_formed x.1 x.2)) := by
  refine T.F_l_formed.ok sc_l_formed (fun vs H Q E h => ?_) (fun cdv A outer s H vs Q E hr h => ?_)
  · obtain ⟨B, x, b, z, sm, hw, h, kr⟩ := h
    rw [WLen.len hw]; rfl
  · obtain ⟨B, ⟨region0, conditions_here0⟩, b, z, sm, hw, h, kr⟩ := h
    have h : m_l_formed region0 conditions_here0 = some b := h
    refine ⟨_, (pss_cons (ps_set (i := 2) sc_l_formed.nd rfl (by first | exact Or.inl rfl | exact Or.inr rfl) (pe_call (ok_l_least T) (hr.mono (by decide)) rfl T.g_l_least T.F_l_least.kp T.n_l_least .nil pass0 (pa_cons (pv 1) pa_nil))) (pss_cons (ps_set (i := 3) sc_l_formed.nd rfl (by first | exact Or.inl rfl | exact Or.inr rfl) (pe_call (ok_l_greatest T) (hr.mono (by decide)) rfl T.g_l_greatest T.F_l_greatest.kp T.n_l_greatest .nil pass0 (pa_cons (pv 1) pa_nil))) (pss_cons (ps_if (PW.pt (pw_and (pt_cmp (pc_notN (pv 2))) (pw_and (pt_cmp (pc_notN (pv 3))) (pw_and1 (pt_cmpR op_gt (pv 2) (pv 3) (nomark _)))))) (pss_cons (ps_ret (pe_cmpR (eqDK (K := K) rfl hr.units) (pe_lst (pa_cons (fldK (K := K) rfl (pv 0) rfl) (pa_cons (fldK (K := K) rfl (pv 0) rfl) (pa_cons (fldK (K := K) rfl (pv 0) rfl) (pa_cons (fldK (K := K) rfl (pv 0) rfl) (pa_cons (pe_callTy (call_boolO T.me_Region___bool (ok_Region___bool T) (hr.mono (by decide)) T.n_Region___bool pass0) (by rfl) T.b_bool (by decide +kernel) (pa_cons (pv 0) pa_nil)) pa_nil)))))) (pe_lst (pa_cons pe_int (pa_cons pe_int (pa_cons (pe_tup pa_nil) (pa_cons pe_int (pa_cons pe_bl pa_nil)))))) (nomark _))) pss_nil) pss_nil) (pss_cons (ps_set (i := 4) sc_l_formed.nd rfl (by first | exact Or.inl rfl | exact Or.inr rfl) (pe_lc (own := [("_law_condition", 5)]) rfl sc_l_formed.nd (pi_list (pv 1)) (blkOk_by (N := N_l_formed) (sc := defScope s_l_formed) (by decide +kernel)) (fun _ _ _ _ _ => (pg_name (i := 5) sc_l_formed.nd rfl (by first | exact Or.inl rfl | exact Or.inr rfl))) (fun _ _ _ _ _ => (pts_one (pt_cmpR op_eq (pe_ix (ix_tupK (K := K) rfl) (pv 5) pe_int (fun _ _ => rfl)) pe_str (nomark _)))) (fun _ _ _ _ _ => (pe_ix (ix_tupK (K := K) rfl) (pv 5) pe_int (fun _ _ => rfl))))) (pss_cons (ps_set (i := 4) sc_l_formed.nd rfl (by first | exact Or.inl rfl | exact Or.inr rfl) (pe_lc (own := [("_law_number", 6)]) rfl sc_l_formed.nd (pi_list (pv 4)) (blkOk_by (N := N_l_formed) (sc := defScope s_l_formed) (by decide +kernel)) (fun _ _ _ _ _ => (pg_name (i := 6) sc_l_formed.nd rfl (by first | exact Or.inl rfl | exact Or.inr rfl))) (fun _ _ _ _ _ => (pts_one (PW.pt (pw_and (PW.pt (pw_or (pt_cmp (pc_isN (pv 2))) (pw_or1 (pt_cmpR op_gt (pv 6) (pv 2) (nomark _))))) (pw_and1 (PW.pt (pw_or (pt_cmp (pc_isN (pv 3))) (pw_or1 (pt_cmpR op_lt (pv 6) (pv 3) (nomark _)))))))))) (fun _ _ _ _ _ => (pv 6)))) (pss_cons (ps_set (i := 4) sc_l_formed.nd rfl (by first | exact Or.inl rfl | exact Or.inr rfl) (pe_lc (own := [("_law_k", 7)]) rfl sc_l_formed.nd (pi_range1 rfl T.b_range (pa_cons (pe_callB (len_seqK (K := K) rfl) (by rfl) T.b_len (by decide +kernel) (pa_cons (pv 4) pa_nil)) pa_nil)) (blkOk_by (N := N_l_formed) (sc := defScope s_l_formed) (by decide +kernel)) (fun _ _ _ _ _ => (pg_name (i := 7) sc_l_formed.nd rfl (by first | exact Or.inl rfl | exact Or.inr rfl))) (fun _ _ _ _ _ => (pts_one (pt_cmpR (notIn_seqK (K := K) rfl) (pe_ix (ix_listK (K := K) rfl) (pv 4) (pv 7) (fun _ _ => rfl)) (pe_slice (sl_listK (K := K) rfl) (pv 4) po_none (po_some (pv 7))) rfl))) (fun _ _ _ _ _ => (pe_ix (ix_listK (K := K) rfl) (pv 4) (pv 7) (fun _ _ => rfl))))) (pss_cons (ps_if (pt_cmpR (neDK (K := K) rfl hr.units) (pe_lst (pa_cons (fldK (K := K) rfl (pv 0) rfl) (pa_cons (fldK (K := K) rfl (pv 0) rfl) (pa_cons (fldK (K := K) rfl (pv 0) rfl) (pa_cons (pe_callTy (call_boolO T.me_Region___bool (ok_Region___bool T) (hr.mono (by decide)) T.n_Region___bool pass0) (by rfl) T.b_bool (by decide +kernel) (pa_cons (pv 0) pa_nil)) pa_nil))))) (pe_lst (pa_cons (pv 2) (pa_cons (pv 3) (pa_cons (pe_callTy (tuple_ofK (K := K) rfl) (by rfl) T.b_tuple (by decide +kernel) (pa_cons (pe_callB (sortIK (K := K) rfl) (by rfl) T.b_sorted (by decide +kernel) (pa_cons (pv 4) pa_nil)) pa_nil)) (pa_cons pe_bl pa_nil))))) (nomark _)) (pss_cons (ps_ret pe_bl) pss_nil) pss_nil) (pss_cons (ps_if (PW.pt (pw_or (pt_cmp (pc_isN (pv 2))) (pw_or1 (pt_cmp (pc_isN (pv 3)))))) (pss_cons (ps_ret (pe_and (pe_cmp (pc_isN (fldK (K := K) rfl (pv 0) rfl)) rfl) (pe_one (pe_cmp (pc_isN (fldK (K := K) rfl (pv 0) rfl)) rfl)))) pss_nil) pss_nil) (pss_cons (ps_ret (pe_cmpR op_eq (fldK (K := K) rfl (pv 0) rfl) (pe_op op_sub (pe_op op_add (pe_op op_sub (pv 3) (pv 2)) pe_int) (pe_callB (len_seqK (K := K) rfl) (by rfl) T.b_len (by decide +kernel) (pa_cons (pv 4) pa_nil))) (nomark _))) pss_nil))))))))), ?_⟩
    refine nx_go (frm_start (N := N_l_formed) (n := 6) z sm hw (by rw [WLen.len hw]; rfl)) ?_
    show Nx _ _ [.imm (rIns a.C_Region [("low" : Str), ("high" : Str), ("without" : Str), ("size" : Str), ("value" : Str), ("_gaps" : Str)] (wC (rOpt rInt) (wC (rOpt rInt) (wC (rOb (cTpl rInt)) (wC (rOpt rInt) (wC (rOpt rInt) (w1 (rOb (cDic kyInt rBool))))))))) region0, .imm (rOb (cLst (rOb (cTup (wC rStr (w1 rInt)))))) conditions_here0, .no, .no, .no, .no, .no, .no]
    unfold m_l_formed at h
    obtain ⟨v1, hv1, h⟩ := bindO_some h
    obtain ⟨least_here2, hleast_here2, h⟩ := letO_some h
    refine (sq_asg (ev_to (ev_call (ew_1 (ev_var rfl)) hv1) hleast_here2.symm) ?_)
    show Nx _ _ [.imm (rIns a.C_Region [("low" : Str), ("high" : Str), ("without" : Str), ("size" : Str), ("value" : Str), ("_gaps" : Str)] (wC (rOpt rInt) (wC (rOpt rInt) (wC (rOb (cTpl rInt)) (wC (rOpt rInt) (wC (rOpt rInt) (w1 (rOb (cDic kyInt rBool))))))))) region0, .imm (rOb (cLst (rOb (cTup (wC rStr (w1 rInt)))))) conditions_here0, .imm (rOpt rInt) least_here2, .no, .no, .no, .no, .no]
    obtain ⟨v3, hv3, h⟩ := bindO_some h
    obtain ⟨most4, hmost4, h⟩ := letO_some h
    refine (sq_asg (ev_to (ev_call (ew_1 (ev_var rfl)) hv3) hmost4.symm) ?_)
    show Nx _ _ [.imm (rIns a.C_Region [("low" : Str), ("high" : Str), ("without" : Str), ("size" : Str), ("value" : Str), ("_gaps" : Str)] (wC (rOpt rInt) (wC (rOpt rInt) (wC (rOb (cTpl rInt)) (wC (rOpt rInt) (wC (rOpt rInt) (w1 (rOb (cDic kyInt rBool))))))))) region0, .imm (rOb (cLst (rOb (cTup (wC rStr (w1 rInt)))))) conditions_here0, .imm (rOpt rInt) least_here2, .imm (rOpt rInt) most4, .no, .no, .no, .no]
    obtain ⟨c10, hc10, h⟩ := letO_some h
    obtain ⟨b9, hb9, h⟩ := bindO_some h
    obtain ⟨c11, hc11, h⟩ := letO_some h
    refine (sq_if (et_to (et_and (et_to (et_B (ev_notN (ev_var rfl))) hc10.symm) (fun hc => by have hx := iteO_t hc hb9; obtain ⟨c8, hc8, hx⟩ := letO_some hx; obtain ⟨b7, hb7, hx⟩ := bindO_some hx; exact et_to (et_and (et_to (et_B (ev_notN (ev_var rfl))) hc8.symm) (fun hc => by have hx := iteO_t hc hb7; obtain ⟨g5, hg5, hx⟩ := bindO_some hx; obtain ⟨g6, hg6, hx⟩ := bindO_some hx; exact et_to (et_T (ev_gt (ev_get (ev_var rfl) hg5) (ev_get (ev_var rfl) hg6))) (Option.some.inj hx)) (fun hc => ⟨(Option.some.inj (iteO_f hc hb7)).symm, rfl⟩)) (Option.some.inj hx)) (fun hc => ⟨(Option.some.inj (iteO_f hc hb9)).symm, rfl⟩)) hc11.symm) (fun hc => ?_) (fun hc => ?_))
    · have h := iteO_t hc h
      obtain ⟨n12, hn12, h⟩ := bindO_some h
      obtain ⟨q13, hq13, h⟩ := bindO_some h
      exact (sq_ret (ev_eqD (da_hls (daw_C (da_opt da_int) (daw_C (da_opt da_int) (daw_C (da_tpl da_int) (daw_C (da_opt da_int) (daw_1 da_bool)))))) (da_hls (daw_C da_int (daw_C da_int (daw_C (da_tup daw_0) (daw_C da_int (daw_1 da_bool)))))) (ev_new (ec_hls (ew_C (ev_fld (ev_var rfl) (acc0) rfl (by decide +kernel) T.cl_Region T.na_Region_low) (ew_C (ev_fld (ev_var rfl) (accS (acc0)) rfl (by decide +kernel) T.cl_Region T.na_Region_high) (ew_C (ev_fld (ev_var rfl) (accS (accS (acc0))) rfl (by decide +kernel) T.cl_Region T.na_Region_without) (ew_C (ev_fld (ev_var rfl) (accS (accS (accS (acc0)))) rfl (by decide +kernel) T.cl_Region T.na_Region_size) (ew_1 (ev_boolO (ev_var rfl) hn12)))))))) (ev_new (ec_hls (ew_C ev_int (ew_C ev_int (ew_C (ev_new (ec_tup ew_0)) (ew_C ev_int (ew_1 ev_bl))))))) hq13) h kr)
    · have h := iteO_f hc h
      refine nx_next ?_
      try dsimp only
      obtain ⟨l16, hl16, h⟩ := bindO_some h
      obtain ⟨out17, hout17, h⟩ := letO_some h
      refine (sq_asg (ev_to (ev_new (ec_lc (m_l_formed_c1) (it_list (ev_var rfl)) hl16 tg_name (fun k hk => hk) (by rfl) (fun _ => by rfl) (fun condition14 o ho => by unfold m_l_formed_c1 at ho; obtain ⟨c15, hc15, ho⟩ := letO_some ho; cases c15 with | true => (have ho : (some (some condition14.2)) = some o := ho; cases ho; exact ⟨et_to (et_T (ev_eqS scStr (ev_ixU (k := 0) (ev_var rfl) (acc0)) ev_str rfl)) hc15.symm, fun y hy => by cases hy; exact ev_to (ev_ixU (k := 1) (ev_var rfl) (accS (acc1))) rfl⟩) | false => (have ho : some none = some o := ho; cases ho; exact ⟨et_to (et_T (ev_eqS scStr (ev_ixU (k := 0) (ev_var rfl) (acc0)) ev_str rfl)) hc15.symm, fun y hy => by cases hy⟩)))) hout17.symm) ?_)
      show Nx _ _ [.imm (rIns a.C_Region [("low" : Str), ("high" : Str), ("without" : Str), ("size" : Str), ("value" : Str), ("_gaps" : Str)] (wC (rOpt rInt) (wC (rOpt rInt) (wC (rOb (cTpl rInt)) (wC (rOpt rInt) (wC (rOpt rInt) (w1 (rOb (cDic kyInt rBool))))))))) region0, .imm (rOb (cLst (rOb (cTup (wC rStr (w1 rInt)))))) conditions_here0, .imm (rOpt rInt) least_here2, .imm (rOpt rInt) most4, .imm (rOb (cLst rInt)) out17, .no, .no, .no]
      obtain ⟨l28, hl28, h⟩ := bindO_some h
      obtain ⟨out29, hout29, h⟩ := letO_some h
      refine (sq_asg (ev_to (ev_new (ec_lc (m_l_formed_c2 least_here2 most4) (it_list (ev_var rfl)) hl28 tg_name (fun k hk => hk) (by rfl) (fun _ => by rfl) (fun number18 o ho => by unfold m_l_formed_c2 at ho; obtain ⟨c21, hc21, ho⟩ := letO_some ho; obtain ⟨b20, hb20, ho⟩ := bindO_some ho; obtain ⟨c26, hc26, ho⟩ := letO_some ho; obtain ⟨b25, hb25, ho⟩ := bindO_some ho; obtain ⟨c27, hc27, ho⟩ := letO_some ho; cases c27 with | true => (have ho : (some (some number18)) = some o := ho; cases ho; exact ⟨et_to (et_and (et_to (et_or (et_to (et_B (ev_isN (ev_var rfl))) hc21.symm) (fun hc => by have hx := iteO_f hc hb20; obtain ⟨g19, hg19, hx⟩ := bindO_some hx; exact et_to (et_T (ev_gt (ev_var rfl) (ev_get (ev_var rfl) hg19))) (Option.some.inj hx)) (fun hc => ⟨(Option.some.inj (iteO_t hc hb20)).symm, rfl⟩)) hc26.symm) (fun hc => by have hx := iteO_t hc hb25; obtain ⟨c24, hc24, hx⟩ := letO_some hx; obtain ⟨b23, hb23, hx⟩ := bindO_some hx; exact et_to (et_or (et_to (et_B (ev_isN (ev_var rfl))) hc24.symm) (fun hc => by have hx := iteO_f hc hb23; obtain ⟨g22, hg22, hx⟩ := bindO_some hx; exact et_to (et_T (ev_lt (ev_var rfl) (ev_get (ev_var rfl) hg22))) (Option.some.inj hx)) (fun hc => ⟨(Option.some.inj (iteO_t hc hb23)).symm, rfl⟩)) (Option.some.inj hx)) (fun hc => ⟨(Option.some.inj (iteO_f hc hb25)).symm, rfl⟩)) hc27.symm, fun y hy => by cases hy; exact ev_to (ev_var rfl) rfl⟩) | false => (have ho : some none = some o := ho; cases ho; exact ⟨et_to (et_and (et_to (et_or (et_to (et_B (ev_isN (ev_var rfl))) hc21.symm) (fun hc => by have hx := iteO_f hc hb20; obtain ⟨g19, hg19, hx⟩ := bindO_some hx; exact et_to (et_T (ev_gt (ev_var rfl) (ev_get (ev_var rfl) hg19))) (Option.some.inj hx)) (fun hc => ⟨(Option.some.inj (iteO_t hc hb20)).symm, rfl⟩)) hc26.symm) (fun hc => by have hx := iteO_t hc hb25; obtain ⟨c24, hc24, hx⟩ := letO_some hx; obtain ⟨b23, hb23, hx⟩ := bindO_some hx; exact et_to (et_or (et_to (et_B (ev_isN (ev_var rfl))) hc24.symm) (fun hc => by have hx := iteO_f hc hb23; obtain ⟨g22, hg22, hx⟩ := bindO_some hx; exact et_to (et_T (ev_lt (ev_var rfl) (ev_get (ev_var rfl) hg22))) (Option.some.inj hx)) (fun hc => ⟨(Option.some.inj (iteO_t hc hb23)).symm, rfl⟩)) (Option.some.inj hx)) (fun hc => ⟨(Option.some.inj (iteO_f hc hb25)).symm, rfl⟩)) hc27.symm, fun y hy => by cases hy⟩)))) hout29.symm) ?_)
      show Nx _ _ [.imm (rIns a.C_Region [("low" : Str), ("high" : Str), ("without" : Str), ("size" : Str), ("value" : Str), ("_gaps" : Str)] (wC (rOpt rInt) (wC (rOpt rInt) (wC (rOb (cTpl rInt)) (wC (rOpt rInt) (wC (rOpt rInt) (w1 (rOb (cDic kyInt rBool))))))))) region0, .imm (rOb (cLst (rOb (cTup (wC rStr (w1 rInt)))))) conditions_here0, .imm (rOpt rInt) least_here2, .imm (rOpt rInt) most4, .imm (rOb (cLst rInt)) out29, .no, .no, .no]
      obtain ⟨l30, hl30, h⟩ := bindO_some h
      obtain ⟨l35, hl35, h⟩ := bindO_some h
      obtain ⟨out36, hout36, h⟩ := letO_some h
      refine (sq_asg (ev_to (ev_new (ec_lc (m_l_formed_c3 out29) (it_rng1 (ew_1 (ev_lenL (ev_var rfl))) hl30) hl35 tg_name (fun k hk => hk) (by rfl) (fun _ => by rfl) (fun k31 o ho => by unfold m_l_formed_c3 at ho; obtain ⟨y32, hy32, ho⟩ := bindO_some ho; obtain ⟨c34, hc34, ho⟩ := letO_some ho; cases c34 with | true => (have ho : (bindO (atI out29 k31) fun y33 => some (some y33)) = some o := ho; obtain ⟨y33, hy33, ho⟩ := bindO_some ho; cases ho; exact ⟨et_to (et_T (ev_ninL fl_int (ev_ixL (ev_var rfl) (ev_var rfl) hy32) (ev_new (ec_slL (ev_var rfl) eo_none (eo_some (ev_var rfl)))))) hc34.symm, fun y hy => by cases hy; exact ev_to (ev_ixL (ev_var rfl) (ev_var rfl) hy33) rfl⟩) | false => (have ho : some none = some o := ho; cases ho; exact ⟨et_to (et_T (ev_ninL fl_int (ev_ixL (ev_var rfl) (ev_var rfl) hy32) (ev_new (ec_slL (ev_var rfl) eo_none (eo_some (ev_var rfl)))))) hc34.symm, fun y hy => by cases hy⟩)))) hout36.symm) ?_)
      show Nx _ _ [.imm (rIns a.C_Region [("low" : Str), ("high" : Str), ("without" : Str), ("size" : Str), ("value" : Str), ("_gaps" : Str)] (wC (rOpt rInt) (wC (rOpt rInt) (wC (rOb (cTpl rInt)) (wC (rOpt rInt) (wC (rOpt rInt) (w1 (rOb (cDic kyInt rBool))))))))) region0, .imm (rOb (cLst (rOb (cTup (wC rStr (w1 rInt)))))) conditions_here0, .imm (rOpt rInt) least_here2, .imm (rOpt rInt) most4, .imm (rOb (cLst rInt)) out36, .no, .no, .no]
      obtain ⟨n37, hn37, h⟩ := bindO_some h
      obtain ⟨q38, hq38, h⟩ := bindO_some h
      obtain ⟨c39, hc39, h⟩ := letO_some h
      refine (sq_if (et_to (et_T (ev_neD (da_hls (daw_C (da_opt da_int) (daw_C (da_opt da_int) (daw_C (da_tpl da_int) (daw_1 da_bool))))) (da_hls (daw_C (da_opt da_int) (daw_C (da_opt da_int) (daw_C (da_tpl da_int) (daw_1 da_bool))))) (ev_new (ec_hls (ew_C (ev_fld (ev_var rfl) (acc0) rfl (by decide +kernel) T.cl_Region T.na_Region_low) (ew_C (ev_fld (ev_var rfl) (accS (acc0)) rfl (by decide +kernel) T.cl_Region T.na_Region_high) (ew_C (ev_fld (ev_var rfl) (accS (accS (acc0))) rfl (by decide +kernel) T.cl_Region T.na_Region_without) (ew_1 (ev_boolO (ev_var rfl) hn37))))))) (ev_new (ec_hls (ew_C (ev_var rfl) (ew_C (ev_var rfl) (ew_C (ev_new (ec_tupL (ev_new (ec_sortI (ev_var rfl))))) (ew_1 ev_bl)))))) hq38)) hc39.symm) (fun hc => ?_) (fun hc => ?_))
      · have h := iteO_t hc h
        exact (sq_ret ev_bl h kr)
      · have h := iteO_f hc h
        refine nx_next ?_
        try dsimp only
        obtain ⟨c40, hc40, h⟩ := letO_some h
        refine (sq_if (et_to (et_or0 (et_B (ev_isN (ev_var rfl))) (et_B (ev_isN (ev_var rfl)))) hc40.symm) (fun hc => ?_) (fun hc => ?_))
        · have h := iteO_t hc h
          exact (sq_ret (ev_and0 (ev_isN (ev_fld (ev_var rfl) (accS (accS (accS (acc0)))) rfl (by decide +kernel) T.cl_Region T.na_Region_size)) (ev_isN (ev_fld (ev_var rfl) (accS (accS (accS (accS (acc0))))) rfl (by decide +kernel) T.cl_Region T.na_Region_value))) h kr)
        · have h := iteO_f hc h
          refine nx_next ?_
          try dsimp only
          obtain ⟨g41, hg41, h⟩ := bindO_some h
          obtain ⟨g42, hg42, h⟩ := bindO_some h
          exact (sq_ret (ev_eqS scOI (ev_fld (ev_var rfl) (accS (accS (accS (acc0)))) rfl (by decide +kernel) T.cl_Region T.na_Region_size) (ev_some nn_int (ev_sub (ev_add (ev_sub (ev_get (ev_var rfl) hg41) (ev_get (ev_var rfl) hg42)) ev_int) (ev_lenL (ev_var rfl)))) (sc_oi _ _)) h kr)
theorem ok_law (T : Txt K mg a) : FnOk P w K mg base CX0 7 a.f_law a.d_law ["_law_script"] (SpL (w1 (rScr K)) rBool (fun x => m_law x)) := by
  refine T.F_law.ok sc_law (fun vs H Q E h => ?_) (fun cdv A outer s H vs Q E hr h => ?_)
  · obtain ⟨B, x, b, sm, hw, h, kr⟩ := h
    rw [WLen.len hw]; rfl
  · obtain ⟨B, script0, b, sm, hw, h, kr⟩ := h
    have h : m_law script0 = some b := h
    refine ⟨_, pss_sz (pss_cons (ps_set (i := 1) sc_law.nd rfl (by first | exact Or.inl rfl | exact Or.inr rfl) (pe_call (ok_l_conditions T) (hr.mono (by decide)) rfl T.g_l_conditions T.F_l_conditions.kp T.n_l_conditions .nil pass0 (pa_cons (pv 0) pa_nil))) (pss_cons (ps_set (i := 2) sc_law.nd rfl (by first | exact Or.inl rfl | exact Or.inr rfl) (pe_call (ok_l_values T) (hr.mono (by decide)) rfl T.g_l_values T.F_l_values.kp T.n_l_values .nil pass0 (pa_cons (pv 1) pa_nil))) (pss_cons (ps_set (i := 3) sc_law.nd rfl (by first | exact Or.inl rfl | exact Or.inr rfl) (pe_lst (pa_cons (pe_make0 T.M_Region (ok_Region___init___Vk T) (hr.mono (by decide)) rfl T.g_Region T.n_Region___init_0 T.v_Region___init_0 pass0) pa_nil))) (pss_cons (ps_for PassesOwn.never rfl (pi_range1 rfl T.b_range (pa_cons (pe_callB (len_seqK (K := K) rfl) (by rfl) T.b_len (by decide +kernel) (pa_cons (pv 1) pa_nil)) pa_nil)) (pg_name (i := 4) sc_law.nd rfl (by first | exact Or.inl rfl | exact Or.inr rfl)) (pss_cons (ps_set (i := 5) sc_law.nd rfl (by first | exact Or.inl rfl | exact Or.inr rfl) (pe_smeth rfl T.g_Region T.cr_Region T.sm_Region_of (ok_Region_of T) (hr.mono (by decide)) T.n_Region_of (fun σ => passAt takes0 σ) (pa_cons (pe_ix (ix_tupK (K := K) rfl) (pe_ix (ix_listK (K := K) rfl) (pv 1) (pv 4) (fun _ _ => rfl)) pe_int (fun _ _ => rfl)) (pa_cons (pe_ix (ix_tupK (K := K) rfl) (pe_ix (ix_listK (K := K) rfl) (pv 1) (pv 4) (fun _ _ => rfl)) pe_int (fun _ _ => rfl)) pa_nil)))) (pss_cons (ps_expr (pe_bm PySem.F.plainAttrs_list PySem.F.slot_list_append PySem.F.type_list_append mt_append (pv 3) (pa_cons (pe_op (op_binO (K := K) (op := .BitAnd) rfl T.me_Region___and.at_ T.me_Region___and.fn T.sf_Region (ok_Region___and T) (hr.mono (by decide)) T.n_Region___and pass0) (pe_ix (ix_listK (K := K) rfl) (pv 3) (pv 4) (fun _ _ => rfl)) (pv 5)) pa_nil))) (pss_cons (ps_if (PW.pt (pw_or (pt_not (pt_val (pe_meth (pe_ix (ix_listK (K := K) rfl) (pv 3) (pe_op op_add (pv 4) pe_int) (fun _ _ => rfl)) T.cl_Region T.me_Region_within (ok_Region_within T) (hr.mono (by decide)) T.n_Region_within .nil pass0 (pa_cons (pe_ix (ix_listK (K := K) rfl) (pv 3) (pv 4) (fun _ _ => rfl)) pa_nil)))) (pw_or1 (pt_not (pt_val (pe_meth (pe_ix (ix_listK (K := K) rfl) (pv 3) (pe_op op_add (pv 4) pe_int) (fun _ _ => rfl)) T.cl_Region T.me_Region_within (ok_Region_within T) (hr.mono (by decide)) T.n_Region_within .nil pass0 (pa_cons (pv 5) pa_nil))))))) (pss_cons (ps_ret pe_bl) pss_nil) pss_nil) pss_nil)))) (pss_cons (ps_for PassesOwn.never rfl (pi_range1 rfl T.b_range (pa_cons (pe_callB (len_seqK (K := K) rfl) (by rfl) T.b_len (by decide +kernel) (pa_cons (pv 3) pa_nil)) pa_nil)) (pg_name (i := 4) sc_law.nd rfl (by first | exact Or.inl rfl | exact Or.inr rfl)) (pss_cons (ps_if (PW.pt (pw_and (PW.pt (pw_or (pt_cmpR op_eq (pe_op op_mod (pv 4) pe_int) pe_int (nomark _)) (pw_or1 (pt_cmpR op_eq (pv 4) (pe_callB (len_seqK (K := K) rfl) (by rfl) T.b_len (by decide +kernel) (pa_cons (pv 1) pa_nil)) (nomark _))))) (pw_and1 (pt_not (pt_val (pe_call (ok_l_formed T) (hr.mono (by decide)) rfl T.g_l_formed T.F_l_formed.kp T.n_l_formed .nil pass0 (pa_cons (pe_ix (ix_listK (K := K) rfl) (pv 3) (pv 4) (fun _ _ => rfl)) (pa_cons (pe_slice (sl_listK (K := K) rfl) (pv 1) po_none (po_some (pv 4))) pa_nil)))))))) (pss_cons (ps_ret pe_bl) pss_nil) pss_nil) (pss_cons (ps_if (PW.pt (pw_or (pt_cmpR op_eq (pv 4) (pe_op op_fdivW (pe_callB (len_seqK (K := K) rfl) (by rfl) T.b_len (by decide +kernel) (pa_cons (pv 1) pa_nil)) pe_int) (nomark _)) (pw_or1 (pt_cmpR op_eq (pv 4) (pe_callB (len_seqK (K := K) rfl) (by rfl) T.b_len (by decide +kernel) (pa_cons (pv 1) pa_nil)) (nomark _))))) (pss_cons (ps_if (pt_cmpR (neDK (K := K) rfl hr.units) (pe_lc (own := [("_law_value", 9)]) rfl sc_law.nd (pi_list (pv 2)) (blkOk_by (N := N_law) (sc := defScope s_law) (by decide +kernel)) (fun _ _ _ _ _ => (pg_name (i := 9) sc_law.nd rfl (by first | exact Or.inl rfl | exact Or.inr rfl))) (fun _ _ _ _ _ => (pts_one (pt_cmpR op_ne (pe_cmpR (op_inO (K := K) rfl T.me_Region___contains (ok_Region___contains T) (hr.mono (by decide)) T.n_Region___contains pass0) (pv 9) (pe_ix (ix_listK (K := K) rfl) (pv 3) (pv 4) (fun _ _ => rfl)) rfl) (pe_call (ok_l_all T) (hr.mono (by decide)) rfl T.g_l_all T.F_l_all.kp T.n_l_all .nil pass0 (pa_cons (pe_slice (sl_listK (K := K) rfl) (pv 1) po_none (po_some (pv 4))) (pa_cons (pv 9) pa_nil))) (nomark _)))) (fun _ _ _ _ _ => (pv 9))) (pe_lst pa_nil) (nomark _)) (pss_cons (ps_ret pe_bl) pss_nil) pss_nil) pss_nil) pss_nil) pss_nil))) (pss_cons (ps_set (i := 6) sc_law.nd rfl (by first | exact Or.inl rfl | exact Or.inr rfl) (pe_make0 T.M_Region (ok_Region___init___Vk T) (hr.mono (by decide)) rfl T.g_Region T.n_Region___init_0 T.v_Region___init_0 pass0)) (pss_cons (ps_for PassesOwn.never rfl (pi_list (pe_revLK (K := K) rfl (pv 1))) (pg_tupK (K := K) rfl 2 rfl (pgs_cons (pg_name (i := 7) sc_law.nd rfl (by first | exact Or.inl rfl | exact Or.inr rfl)) (pgs_cons (pg_name (i := 8) sc_law.nd rfl (by first | exact Or.inl rfl | exact Or.inr rfl)) pgs_nil))) (pss_cons (ps_set (i := 6) sc_law.nd rfl (by first | exact Or.inl rfl | exact Or.inr rfl) (pe_op (op_binO (K := K) (op := .BitAnd) rfl T.me_Region___and.at_ T.me_Region___and.fn T.sf_Region (ok_Region___and T) (hr.mono (by decide)) T.n_Region___and pass0) (pe_smeth rfl T.g_Region T.cr_Region T.sm_Region_of (ok_Region_of T) (hr.mono (by decide)) T.n_Region_of (fun σ => passAt takes0 σ) (pa_cons (pv 7) (pa_cons (pv 8) pa_nil))) (pv 6))) pss_nil)) (pss_cons (ps_ret (pe_cmpR (op_eqO (K := K) (t := (.ref a.C_Region)) rfl T.me_Region___eq (ok_Region___eq T) (hr.mono (by decide)) T.n_Region___eq pass0) (pv 6) (pe_ix (ix_listK (K := K) rfl) (pv 3) (pe_callB (len_seqK (K := K) rfl) (by rfl) T.b_len (by decide +kernel) (pa_cons (pv 1) pa_nil)) (fun _ _ => rfl)) (nomark _))) pss_nil)))))))), fun z => ?_⟩
    refine nx_go (frm_start (N := N_law) (n := 9) z sm hw (by rw [WLen.len hw]; rfl)) ?_
    show Nx _ _ [.imm (rScr K) script0, .no, .no, .no, .no, .no, .no, .no, .no, .no]
    unfold m_law at h
    obtain ⟨v1, hv1, h⟩ := bindO_some h
    obtain ⟨conditions_here2, hconditions_here2, h⟩ := letO_some h
    refine (sq_asg (ev_to (ev_call (ew_1 (ev_var rfl)) hv1) hconditions_here2.symm) ?_)
    show Nx _ _ [.imm (rScr K) script0, .imm (rOb (cLst (rOb (cTup (wC rStr (w1 rInt)))))) conditions_here2, .no, .no, .no, .no, .no, .no, .no, .no]
    obtain ⟨v3, hv3, h⟩ := bindO_some h
    obtain ⟨values_here4, hvalues_here4, h⟩ := letO_some h
    refine (sq_asg (ev_to (ev_new (ec_call (ew_1 (ev_var rfl)) hv3)) hvalues_here4.symm) ?_)
    show Nx _ _ [.imm (rScr K) script0, .imm (rOb (cLst (rOb (cTup (wC rStr (w1 rInt)))))) conditions_here2, .imm (rOb (cLst rInt)) values_here4, .no, .no, .no, .no, .no, .no, .no]
    obtain ⟨o5, ho5, h⟩ := bindO_some h
    obtain ⟨meets6, hmeets6, h⟩ := letO_some h
    refine (sq_asgC (c := (cLst (rIns a.C_Region [("low" : Str), ("high" : Str), ("without" : Str), ("size" : Str), ("value" : Str), ("_gaps" : Str)] (wC (rOpt rInt) (wC (rOpt rInt) (wC (rOb (cTpl rInt)) (wC (rOpt rInt) (wC (rOpt rInt) (w1 (rOb (cDic kyInt rBool))))))))))) (ec_to (ec_lst (eh_C (ev_makeD ew_0 (dapp_0 (fun B => dr_C rl_none ((fun B => dr_C rl_none ((tkE T.t_Region___init_2) B)) B))) ho5) eh_0) (Nat.le_of_ble_eq_true rfl)) hmeets6.symm) (fun a_meets6 na_meets6 => ?_))
    show Nx _ _ [.imm (rScr K) script0, .imm (rOb (cLst (rOb (cTup (wC rStr (w1 rInt)))))) conditions_here2, .imm (rOb (cLst rInt)) values_here4, .cel a_meets6 (cLst (rIns a.C_Region [("low" : Str), ("high" : Str), ("without" : Str), ("size" : Str), ("value" : Str), ("_gaps" : Str)] (wC (rOpt rInt) (wC (rOpt rInt) (wC (rOb (cTpl rInt)) (wC (rOpt rInt) (wC (rOpt rInt) (w1 (rOb (cDic kyInt rBool)))))))))) meets6, .no, .no, .no, .no, .no, .no]
    obtain ⟨l7, hl7, h⟩ := bindO_some h
    obtain ⟨R26, hR26, h⟩ := bindO_some h
    refine (sq_for (ψ := psi rBool) (m_law_b1 conditions_here2) (fun z => [.imm (rScr K) script0, .imm (rOb (cLst (rOb (cTup (wC rStr (w1 rInt)))))) conditions_here2, .imm (rOb (cLst rInt)) values_here4, .cel a_meets6 (cLst (rIns a.C_Region [("low" : Str), ("high" : Str), ("without" : Str), ("size" : Str), ("value" : Str), ("_gaps" : Str)] (wC (rOpt rInt) (wC (rOpt rInt) (wC (rOb (cTpl rInt)) (wC (rOpt rInt) (wC (rOpt rInt) (w1 (rOb (cDic kyInt rBool)))))))))) z, .no, .no, .no, .no, .no, .no]) (it_rng1 (ew_1 (ev_lenL (ev_var rfl))) hl7) hR26 (fun A1 _ => ?_) (fun _ => tg_name) (fun A1 D1 k9 s8 st hA1 h k1 => ?_) ?_ ?_)
    · exact nx_fin
    · show Nx _ _ [.imm (rScr K) script0, .imm (rOb (cLst (rOb (cTup (wC rStr (w1 rInt)))))) conditions_here2, .imm (rOb (cLst rInt)) values_here4, .cel a_meets6 (cLst (rIns a.C_Region [("low" : Str), ("high" : Str), ("without" : Str), ("size" : Str), ("value" : Str), ("_gaps" : Str)] (wC (rOpt rInt) (wC (rOpt rInt) (wC (rOb (cTpl rInt)) (wC (rOpt rInt) (wC (rOpt rInt) (w1 (rOb (cDic kyInt rBool)))))))))) s8, .imm rInt k9, .no, .no, .no, .no, .no]
      unfold m_law_b1 at h
      obtain ⟨y10, hy10, h⟩ := bindO_some h
      obtain ⟨y11, hy11, h⟩ := bindO_some h
      obtain ⟨r12, hr12, h⟩ := bindO_some h
      obtain ⟨v13, hv13, h⟩ := bindO_some h
      obtain ⟨step14, hstep14, h⟩ := letO_some h
      refine (sq_asg (ev_to (ev_smOk (ew_C (ev_ixU (k := 0) (ev_ixL (ev_var rfl) (ev_var rfl) hy10) (acc0)) (ew_1 (ev_ixU (k := 1) (ev_ixL (ev_var rfl) (ev_var rfl) hy11) (accS (acc1))))) hr12 hv13) hstep14.symm) ?_)
      show Nx _ _ [.imm (rScr K) script0, .imm (rOb (cLst (rOb (cTup (wC rStr (w1 rInt)))))) conditions_here2, .imm (rOb (cLst rInt)) values_here4, .cel a_meets6 (cLst (rIns a.C_Region [("low" : Str), ("high" : Str), ("without" : Str), ("size" : Str), ("value" : Str), ("_gaps" : Str)] (wC (rOpt rInt) (wC (rOpt rInt) (wC (rOb (cTpl rInt)) (wC (rOpt rInt) (wC (rOpt rInt) (w1 (rOb (cDic kyInt rBool)))))))))) s8, .imm rInt k9, .imm (rIns a.C_Region [("low" : Str), ("high" : Str), ("without" : Str), ("size" : Str), ("value" : Str), ("_gaps" : Str)] (wC (rOpt rInt) (wC (rOpt rInt) (wC (rOb (cTpl rInt)) (wC (rOpt rInt) (wC (rOpt rInt) (w1 (rOb (cDic kyInt rBool))))))))) step14, .no, .no, .no, .no]
      obtain ⟨y15, hy15, h⟩ := bindO_some h
      obtain ⟨v16, hv16, h⟩ := bindO_some h
      obtain ⟨meets17, hmeets17, h⟩ := bindO_some h
      refine (sq_app (ev_binO (ev_ixCel rfl rfl (ev_var rfl) hy15) (ev_var rfl) hv16) rfl rfl hmeets17 ?_)
      show Nx _ _ [.imm (rScr K) script0, .imm (rOb (cLst (rOb (cTup (wC rStr (w1 rInt)))))) conditions_here2, .imm (rOb (cLst rInt)) values_here4, .cel a_meets6 (cLst (rIns a.C_Region [("low" : Str), ("high" : Str), ("without" : Str), ("size" : Str), ("value" : Str), ("_gaps" : Str)] (wC (rOpt rInt) (wC (rOpt rInt) (wC (rOb (cTpl rInt)) (wC (rOpt rInt) (wC (rOpt rInt) (w1 (rOb (cDic kyInt rBool)))))))))) meets17, .imm rInt k9, .imm (rIns a.C_Region [("low" : Str), ("high" : Str), ("without" : Str), ("size" : Str), ("value" : Str), ("_gaps" : Str)] (wC (rOpt rInt) (wC (rOpt rInt) (wC (rOb (cTpl rInt)) (wC (rOpt rInt) (wC (rOpt rInt) (w1 (rOb (cDic kyInt rBool))))))))) step14, .no, .no, .no, .no]
      obtain ⟨y18, hy18, h⟩ := bindO_some h
      obtain ⟨y19, hy19, h⟩ := bindO_some h
      obtain ⟨v20, hv20, h⟩ := bindO_some h
      obtain ⟨c24, hc24, h⟩ := letO_some h
      obtain ⟨b23, hb23, h⟩ := bindO_some h
      obtain ⟨c25, hc25, h⟩ := letO_some h
      refine (sq_if (et_to (et_or (et_to (et_not (et_B (ev_meth (ev_ixCel rfl rfl (ev_add (ev_var rfl) ev_int) hy18) (ew_1 (ev_ixCel rfl rfl (ev_var rfl) hy19)) hv20 (by decide +kernel)))) hc24.symm) (fun hc => by have hx := iteO_f hc hb23; obtain ⟨y21, hy21, hx⟩ := bindO_some hx; obtain ⟨v22, hv22, hx⟩ := bindO_some hx; exact et_to (et_not (et_B (ev_meth (ev_ixCel rfl rfl (ev_add (ev_var rfl) ev_int) hy21) (ew_1 (ev_var rfl)) hv22 (by decide +kernel)))) (Option.some.inj hx)) (fun hc => ⟨(Option.some.inj (iteO_t hc hb23)).symm, rfl⟩)) hc25.symm) (fun hc => ?_) (fun hc => ?_))
      · have h := iteO_t hc h
        exact (sq_ret ev_bl rfl (k1.rt _ (Option.some.inj h).symm))
      · have h := iteO_f hc h
        refine nx_next ?_
        try dsimp only
        refine nx_next ?_
        refine nx_forget 4 ?_
        refine nx_forget 5 ?_
        exact k1.nx _ (Option.some.inj h).symm
    · intro b e
      subst e
      obtain rfl := stepO_ret h; exact kr
    · intro e27 e
      subst e
      have h := stepO_nx h
      show Nx _ _ [.imm (rScr K) script0, .imm (rOb (cLst (rOb (cTup (wC rStr (w1 rInt)))))) conditions_here2, .imm (rOb (cLst rInt)) values_here4, .cel a_meets6 (cLst (rIns a.C_Region [("low" : Str), ("high" : Str), ("without" : Str), ("size" : Str), ("value" : Str), ("_gaps" : Str)] (wC (rOpt rInt) (wC (rOpt rInt) (wC (rOb (cTpl rInt)) (wC (rOpt rInt) (wC (rOpt rInt) (w1 (rOb (cDic kyInt rBool)))))))))) e27, .no, .no, .no, .no, .no, .no]
      obtain ⟨l28, hl28, h⟩ := bindO_some h
      obtain ⟨R45, hR45, h⟩ := bindO_some h
      refine (sq_for (ψ := psi rBool) (m_law_b2 conditions_here2 values_here4 e27) (fun z => [.imm (rScr K) script0, .imm (rOb (cLst (rOb (cTup (wC rStr (w1 rInt)))))) conditions_here2, .imm (rOb (cLst rInt)) values_here4, .cel a_meets6 (cLst (rIns a.C_Region [("low" : Str), ("high" : Str), ("without" : Str), ("size" : Str), ("value" : Str), ("_gaps" : Str)] (wC (rOpt rInt) (wC (rOpt rInt) (wC (rOb (cTpl rInt)) (wC (rOpt rInt) (wC (rOpt rInt) (w1 (rOb (cDic kyInt rBool)))))))))) e27, .no, .no, .no, .no, .no, .no]) (it_rng1 (ew_1 (ev_lenCel rfl)) hl28) hR45 (fun A1 _ => ?_) (fun _ => tg_name) (fun A1 D1 k30 s29 st hA1 h k1 => ?_) ?_ ?_)
      · exact nx_fin
      · show Nx _ _ [.imm (rScr K) script0, .imm (rOb (cLst (rOb (cTup (wC rStr (w1 rInt)))))) conditions_here2, .imm (rOb (cLst rInt)) values_here4, .cel a_meets6 (cLst (rIns a.C_Region [("low" : Str), ("high" : Str), ("without" : Str), ("size" : Str), ("value" : Str), ("_gaps" : Str)] (wC (rOpt rInt) (wC (rOpt rInt) (wC (rOb (cTpl rInt)) (wC (rOpt rInt) (wC (rOpt rInt) (w1 (rOb (cDic kyInt rBool)))))))))) e27, .imm rInt k30, .no, .no, .no, .no, .no]
        unfold m_law_b2 at h
        obtain ⟨c34, hc34, h⟩ := letO_some h
        obtain ⟨b33, hb33, h⟩ := bindO_some h
        obtain ⟨c35, hc35, h⟩ := letO_some h
        refine (sq_if (et_to (et_and (et_to (et_or0 (et_T (ev_eqS scInt (ev_mod (ev_var rfl) ev_int (by decide)) ev_int rfl)) (et_T (ev_eqS scInt (ev_var rfl) (ev_lenL (ev_var rfl)) rfl))) hc34.symm) (fun hc => by have hx := iteO_t hc hb33; obtain ⟨y31, hy31, hx⟩ := bindO_some hx; obtain ⟨v32, hv32, hx⟩ := bindO_some hx; exact et_to (et_not (et_B (ev_call (ew_C (ev_ixCel rfl rfl (ev_var rfl) hy31) (ew_1 (ev_new (ec_slL (ev_var rfl) eo_none (eo_some (ev_var rfl)))))) hv32))) (Option.some.inj hx)) (fun hc => ⟨(Option.some.inj (iteO_f hc hb33)).symm, rfl⟩)) hc35.symm) (fun hc => ?_) (fun hc => ?_))
        · have h := iteO_t hc h
          exact (sq_ret ev_bl rfl (k1.rt _ (Option.some.inj h).symm))
        · have h := iteO_f hc h
          refine nx_next ?_
          try dsimp only
          obtain ⟨c36, hc36, h⟩ := letO_some h
          refine (sq_if (et_to (et_or0 (et_T (ev_eqS scInt (ev_var rfl) (ev_divW (ev_lenL (ev_var rfl)) ev_int (by unfold CDivW; decide)) rfl)) (et_T (ev_eqS scInt (ev_var rfl) (ev_lenL (ev_var rfl)) rfl))) hc36.symm) (fun hc => ?_) (fun hc => ?_))
          · have h := iteO_t hc h
            obtain ⟨l42, hl42, h⟩ := bindO_some h
            obtain ⟨q43, hq43, h⟩ := bindO_some h
            obtain ⟨c44, hc44, h⟩ := letO_some h
            refine (sq_if (et_to (et_T (ev_neD (da_lst da_int) (da_hls daw_0) (ev_new (ec_lc (m_law_c1 conditions_here2 e27 k30) (it_list (ev_var rfl)) hl42 tg_name (fun k hk => hk) (by rfl) (fun _ => by rfl) (fun value37 o ho => by unfold m_law_c1 at ho; obtain ⟨y38, hy38, ho⟩ := bindO_some ho; obtain ⟨n39, hn39, ho⟩ := bindO_some ho; obtain ⟨v40, hv40, ho⟩ := bindO_some ho; obtain ⟨c41, hc41, ho⟩ := letO_some ho; cases c41 with | true => (have ho : (some (some value37)) = some o := ho; cases ho; exact ⟨et_to (et_T (ev_neS scBool (ev_inO (ev_var rfl) (ev_ixCel rfl rfl (ev_var rfl) hy38) hn39) (ev_call (ew_C (ev_new (ec_slL (ev_var rfl) eo_none (eo_some (ev_var rfl)))) (ew_1 (ev_var rfl))) hv40) rfl)) hc41.symm, fun y hy => by cases hy; exact ev_to (ev_var rfl) rfl⟩) | false => (have ho : some none = some o := ho; cases ho; exact ⟨et_to (et_T (ev_neS scBool (ev_inO (ev_var rfl) (ev_ixCel rfl rfl (ev_var rfl) hy38) hn39) (ev_call (ew_C (ev_new (ec_slL (ev_var rfl) eo_none (eo_some (ev_var rfl)))) (ew_1 (ev_var rfl))) hv40) rfl)) hc41.symm, fun y hy => by cases hy⟩)))) (ev_new (ec_hls ew_0)) hq43)) hc44.symm) (fun hc => ?_) (fun hc => ?_))
            · have h := iteO_t hc h
              exact (sq_ret ev_bl rfl (k1.rt _ (Option.some.inj h).symm))
            · have h := iteO_f hc h
              refine nx_next ?_
              try dsimp only
              refine nx_next ?_
              refine nx_forget 4 ?_
              exact k1.nx _ (Option.some.inj h).symm
          · have h := iteO_f hc h
            refine nx_next ?_
            refine nx_forget 4 ?_
            exact k1.nx _ (Option.some.inj h).symm
      · intro b e
        subst e
        obtain rfl := stepO_ret h; exact kr
      · intro e46 e
        subst e
        have h := stepO_nx h
        show Nx _ _ [.imm (rScr K) script0, .imm (rOb (cLst (rOb (cTup (wC rStr (w1 rInt)))))) conditions_here2, .imm (rOb (cLst rInt)) values_here4, .cel a_meets6 (cLst (rIns a.C_Region [("low" : Str), ("high" : Str), ("without" : Str), ("size" : Str), ("value" : Str), ("_gaps" : Str)] (wC (rOpt rInt) (wC (rOpt rInt) (wC (rOb (cTpl rInt)) (wC (rOpt rInt) (wC (rOpt rInt) (w1 (rOb (cDic kyInt rBool)))))))))) e27, .no, .no, .no, .no, .no, .no]
        obtain ⟨o47, ho47, h⟩ := bindO_some h
        obtain ⟨backward48, hbackward48, h⟩ := letO_some h
        refine (sq_asg (ev_to (ev_makeD ew_0 (dapp_0 (fun B => dr_C rl_none ((fun B => dr_C rl_none ((tkE T.t_Region___init_2) B)) B))) ho47) hbackward48.symm) ?_)
        show Nx _ _ [.imm (rScr K) script0, .imm (rOb (cLst (rOb (cTup (wC rStr (w1 rInt)))))) conditions_here2, .imm (rOb (cLst rInt)) values_here4, .cel a_meets6 (cLst (rIns a.C_Region [("low" : Str), ("high" : Str), ("without" : Str), ("size" : Str), ("value" : Str), ("_gaps" : Str)] (wC (rOpt rInt) (wC (rOpt rInt) (wC (rOb (cTpl rInt)) (wC (rOpt rInt) (wC (rOpt rInt) (w1 (rOb (cDic kyInt rBool)))))))))) e27, .no, .no, .imm (rIns a.C_Region [("low" : Str), ("high" : Str), ("without" : Str), ("size" : Str), ("value" : Str), ("_gaps" : Str)] (wC (rOpt rInt) (wC (rOpt rInt) (wC (rOb (cTpl rInt)) (wC (rOpt rInt) (wC (rOpt rInt) (w1 (rOb (cDic kyInt rBool))))))))) backward48, .no, .no, .no]
        obtain ⟨R55, hR55, h⟩ := bindO_some h
        refine (sq_for (ψ := psi rBool) (m_law_b3) (fun z => [.imm (rScr K) script0, .imm (rOb (cLst (rOb (cTup (wC rStr (w1 rInt)))))) conditions_here2, .imm (rOb (cLst rInt)) values_here4, .cel a_meets6 (cLst (rIns a.C_Region [("low" : Str), ("high" : Str), ("without" : Str), ("size" : Str), ("value" : Str), ("_gaps" : Str)] (wC (rOpt rInt) (wC (rOpt rInt) (wC (rOb (cTpl rInt)) (wC (rOpt rInt) (wC (rOpt rInt) (w1 (rOb (cDic kyInt rBool)))))))))) e27, .no, .no, .imm (rIns a.C_Region [("low" : Str), ("high" : Str), ("without" : Str), ("size" : Str), ("value" : Str), ("_gaps" : Str)] (wC (rOpt rInt) (wC (rOpt rInt) (wC (rOb (cTpl rInt)) (wC (rOpt rInt) (wC (rOpt rInt) (w1 (rOb (cDic kyInt rBool))))))))) z, .no, .no, .no]) (it_list (ev_new (ec_revL (ev_var rfl)))) hR55 (fun A1 _ => ?_) (fun _ => (tg_tup (tw_C tg_name (fun _ => (tw_1 tg_name))))) (fun A1 D1 sign50 s49 st hA1 h k1 => ?_) ?_ ?_)
        · exact nx_fin
        · show Nx _ _ [.imm (rScr K) script0, .imm (rOb (cLst (rOb (cTup (wC rStr (w1 rInt)))))) conditions_here2, .imm (rOb (cLst rInt)) values_here4, .cel a_meets6 (cLst (rIns a.C_Region [("low" : Str), ("high" : Str), ("without" : Str), ("size" : Str), ("value" : Str), ("_gaps" : Str)] (wC (rOpt rInt) (wC (rOpt rInt) (wC (rOb (cTpl rInt)) (wC (rOpt rInt) (wC (rOpt rInt) (w1 (rOb (cDic kyInt rBool)))))))))) e27, .no, .no, .imm (rIns a.C_Region [("low" : Str), ("high" : Str), ("without" : Str), ("size" : Str), ("value" : Str), ("_gaps" : Str)] (wC (rOpt rInt) (wC (rOpt rInt) (wC (rOb (cTpl rInt)) (wC (rOpt rInt) (wC (rOpt rInt) (w1 (rOb (cDic kyInt rBool))))))))) s49, .imm rStr sign50.1, .imm rInt sign50.2, .no]
          unfold m_law_b3 at h
          obtain ⟨r51, hr51, h⟩ := bindO_some h
          obtain ⟨v52, hv52, h⟩ := bindO_some h
          obtain ⟨v53, hv53, h⟩ := bindO_some h
          obtain ⟨backward54, hbackward54, h⟩ := letO_some h
          refine (sq_asg (ev_to (ev_binO (ev_smOk (ew_C (ev_var rfl) (ew_1 (ev_var rfl))) hr51 hv52) (ev_var rfl) hv53) hbackward54.symm) ?_)
          show Nx _ _ [.imm (rScr K) script0, .imm (rOb (cLst (rOb (cTup (wC rStr (w1 rInt)))))) conditions_here2, .imm (rOb (cLst rInt)) values_here4, .cel a_meets6 (cLst (rIns a.C_Region [("low" : Str), ("high" : Str), ("without" : Str), ("size" : Str), ("value" : Str), ("_gaps" : Str)] (wC (rOpt rInt) (wC (rOpt rInt) (wC (rOb (cTpl rInt)) (wC (rOpt rInt) (wC (rOpt rInt) (w1 (rOb (cDic kyInt rBool)))))))))) e27, .no, .no, .imm (rIns a.C_Region [("low" : Str), ("high" : Str), ("without" : Str), ("size" : Str), ("value" : Str), ("_gaps" : Str)] (wC (rOpt rInt) (wC (rOpt rInt) (wC (rOb (cTpl rInt)) (wC (rOpt rInt) (wC (rOpt rInt) (w1 (rOb (cDic kyInt rBool))))))))) backward54, .imm rStr sign50.1, .imm rInt sign50.2, .no]
          refine nx_next ?_
          refine nx_forget 7 ?_
          refine nx_forget 8 ?_
          exact k1.nx _ (Option.some.inj h).symm
        · intro b e
          subst e
          obtain rfl := stepO_ret h; exact kr
        · intro e56 e
          subst e
          have h := stepO_nx h
          show Nx _ _ [.imm (rScr K) script0, .imm (rOb (cLst (rOb (cTup (wC rStr (w1 rInt)))))) conditions_here2, .imm (rOb (cLst rInt)) values_here4, .cel a_meets6 (cLst (rIns a.C_Region [("low" : Str), ("high" : Str), ("without" : Str), ("size" : Str), ("value" : Str), ("_gaps" : Str)] (wC (rOpt rInt) (wC (rOpt rInt) (wC (rOb (cTpl rInt)) (wC (rOpt rInt) (wC (rOpt rInt) (w1 (rOb (cDic kyInt rBool)))))))))) e27, .no, .no, .imm (rIns a.C_Region [("low" : Str), ("high" : Str), ("without" : Str), ("size" : Str), ("value" : Str), ("_gaps" : Str)] (wC (rOpt rInt) (wC (rOpt rInt) (wC (rOb (cTpl rInt)) (wC (rOpt rInt) (wC (rOpt rInt) (w1 (rOb (cDic kyInt rBool))))))))) e56, .no, .no, .no]
          obtain ⟨y57, hy57, h⟩ := bindO_some h
          obtain ⟨n58, hn58, h⟩ := bindO_some h
          exact (sq_ret (ev_eqO (ev_var rfl) (ev_ixCel rfl rfl (ev_lenL (ev_var rfl)) hy57) (ty_ins T.ct_Region) T.nf_Region_Region hn58) h kr)
end
end Law

set_option maxHeartbeats 4000000
namespace Law
open PySem PySem.Spec PyProof.Rows L2 G
theorem all_mk {P : Program} {w : World} {K : PySem.W.Frag} {h : Heap} {mg : Str → Option Value} {fa : Addr} (X : K.In h) (G : h.Ns mainGlobals mg) (hfa : mg "law" = some (.ref fa))
    {C_Region : Addr} {C_BadSign : Addr} {oc_between : Value} {kV_between : Value} {dc_between : Value} {pm_between : Value}
    {cd_between : Value} {ct_between : Value} {od_between an_between : Option Addr} {sl_between : Array (Option Value)} {f_between : Addr} {oc_one_form : Value} {kV_one_form : Value} {dc_one_form : Value}
    {pm_one_form : Value} {cd_one_form : Value} {ct_one_form : Value} {od_one_form an_one_form : Option Addr} {sl_one_form : Array (Option Value)} {f_one_form : Addr} {oc_size_of : Value} {kV_size_of : Value}
    {dc_size_of : Value} {pm_size_of : Value} {cd_size_of : Value} {ct_size_of : Value} {od_size_of an_size_of : Option Addr} {sl_size_of : Array (Option Value)} {f_size_of : Addr} {oc_Region___init : Value}
    {kV_Region___init : Value} {dc_Region___init : Value} {pm_Region___init : Value} {cd_Region___init : Value} {ct_Region___init : Value} {tc_Region___init : Value}
    {od_Region___init an_Region___init td_Region___init : Option Addr} {sl_Region___init ts_Region___init : Array (Option Value)} {f_Region___init T_Region___init : Addr} {tn_Region___init : Nat} {e_Region___init_2 : Addr} {ed_Region___init_2 : Option Addr} {en_Region___init_2 : Nat} {es_Region___init_2 : Array (Option Value)} {oc_meet : Value} {kV_meet : Value} {dc_meet : Value} {pm_meet : Value}
    {cd_meet : Value} {ct_meet : Value} {od_meet an_meet : Option Addr} {sl_meet : Array (Option Value)} {f_meet : Addr} {oc_Region___contains : Value} {kV_Region___contains : Value} {dc_Region___contains : Value}
    {pm_Region___contains : Value} {cd_Region___contains : Value} {ct_Region___contains : Value} {od_Region___contains an_Region___contains : Option Addr} {sl_Region___contains : Array (Option Value)} {f_Region___contains : Addr} {oc_Region___and : Value} {kV_Region___and : Value}
    {dc_Region___and : Value} {pm_Region___and : Value} {cd_Region___and : Value} {ct_Region___and : Value} {od_Region___and an_Region___and : Option Addr} {sl_Region___and : Array (Option Value)} {f_Region___and : Addr} {oc_Region___eq : Value}
    {kV_Region___eq : Value} {dc_Region___eq : Value} {pm_Region___eq : Value} {cd_Region___eq : Value} {ct_Region___eq : Value} {od_Region___eq an_Region___eq : Option Addr} {sl_Region___eq : Array (Option Value)} {f_Region___eq : Addr}
    {oc_Region___bool : Value} {kV_Region___bool : Value} {dc_Region___bool : Value} {pm_Region___bool : Value} {cd_Region___bool : Value} {ct_Region___bool : Value}
    {od_Region___bool an_Region___bool : Option Addr} {sl_Region___bool : Array (Option Value)} {f_Region___bool : Addr} {oc_Region_within : Value} {kV_Region_within : Value} {dc_Region_within : Value} {pm_Region_within : Value} {cd_Region_within : Value}
    {ct_Region_within : Value} {od_Region_within an_Region_within : Option Addr} {sl_Region_within : Array (Option Value)} {f_Region_within : Addr} {p_Region_of : Addr} {rest_Region_of : List Value} {oc_Region_of : Value} {kV_Region_of : Value} {dc_Region_of : Value}
    {pm_Region_of : Value} {cd_Region_of : Value} {ct_Region_of : Value} {od_Region_of an_Region_of : Option Addr} {sl_Region_of : Array (Option Value)} {f_Region_of : Addr} {oc_l_stands : Value} {kV_l_stands : Value}
    {dc_l_stands : Value} {pm_l_stands : Value} {cd_l_stands : Value} {ct_l_stands : Value} {od_l_stands an_l_stands : Option Addr} {sl_l_stands : Array (Option Value)} {f_l_stands : Addr} {oc_l_all : Value}
    {kV_l_all : Value} {dc_l_all : Value} {pm_l_all : Value} {cd_l_all : Value} {ct_l_all : Value} {od_l_all an_l_all : Option Addr} {sl_l_all : Array (Option Value)} {f_l_all : Addr}
    {oc_l_conditions : Value} {kV_l_conditions : Value} {dc_l_conditions : Value} {pm_l_conditions : Value} {cd_l_conditions : Value} {ct_l_conditions : Value}
    {od_l_conditions an_l_conditions : Option Addr} {sl_l_conditions : Array (Option Value)} {f_l_conditions : Addr} {oc_l_values : Value} {kV_l_values : Value} {dc_l_values : Value} {pm_l_values : Value} {cd_l_values : Value}
    {ct_l_values : Value} {od_l_values an_l_values : Option Addr} {sl_l_values : Array (Option Value)} {f_l_values : Addr} {oc_l_least : Value} {kV_l_least : Value} {dc_l_least : Value} {pm_l_least : Value}
    {cd_l_least : Value} {ct_l_least : Value} {od_l_least an_l_least : Option Addr} {sl_l_least : Array (Option Value)} {f_l_least : Addr} {oc_l_greatest : Value} {kV_l_greatest : Value} {dc_l_greatest : Value}
    {pm_l_greatest : Value} {cd_l_greatest : Value} {ct_l_greatest : Value} {od_l_greatest an_l_greatest : Option Addr} {sl_l_greatest : Array (Option Value)} {f_l_greatest : Addr} {oc_l_formed : Value} {kV_l_formed : Value}
    {dc_l_formed : Value} {pm_l_formed : Value} {cd_l_formed : Value} {ct_l_formed : Value} {od_l_formed an_l_formed : Option Addr} {sl_l_formed : Array (Option Value)} {f_l_formed : Addr} {oc_law : Value}
    {kV_law : Value} {dc_law : Value} {pm_law : Value} {cd_law : Value} {ct_law : Value} {od_law an_law : Option Addr} {sl_law : Array (Option Value)} {f_law : Addr}
    {nm_BadSign q_BadSign : Str} {N_BadSign : Addr} {bs_BadSign bm_BadSign sub_BadSign : List Value} {sn_BadSign : List Str} {ab_BadSign : Bool} {col_BadSign : Option Bool} {dd_BadSign : Option Addr} {m0_BadSign m1_BadSign m2_BadSign m3_BadSign m5_BadSign : Option Value} {oc_e_BadSign : Value} {kV_e_BadSign : Value} {dc_e_BadSign : Value} {pm_e_BadSign : Value} {cd_e_BadSign : Value}
    {ct_e_BadSign : Value} {od_e_BadSign an_e_BadSign : Option Addr} {sl_e_BadSign : Array (Option Value)} {f_e_BadSign : Addr}
    (aC_Region : PySem.W.nsIn K mainGlobals "Region" = some (some (.ref C_Region)))
    (aC_BadSign : PySem.W.nsIn K mainGlobals "BadSign" = some (some (.ref C_BadSign)))
    (a_between : PySem.W.nsIn K mainGlobals "between" = some (some (.ref f_between)))
    (l_between : K.lookup f_between = some ⟨oc_between, od_between, .func (PySem.W.fnOf "between" "between" (defArgs s_between) (defBody s_between) (defScope s_between) .none kV_between dc_between pm_between an_between cd_between ct_between), sl_between⟩)
    (c_between : PySem.W.codeIn K cd_between "between" = true)
    (k_between : PySem.W.keepIn K (.ref f_between) = true)
    (a_one_form : PySem.W.nsIn K mainGlobals "one_form" = some (some (.ref f_one_form)))
    (l_one_form : K.lookup f_one_form = some ⟨oc_one_form, od_one_form, .func (PySem.W.fnOf "one_form" "one_form" (defArgs s_one_form) (defBody s_one_form) (defScope s_one_form) .none kV_one_form dc_one_form pm_one_form an_one_form cd_one_form ct_one_form), sl_one_form⟩)
    (c_one_form : PySem.W.codeIn K cd_one_form "one_form" = true)
    (k_one_form : PySem.W.keepIn K (.ref f_one_form) = true)
    (a_size_of : PySem.W.nsIn K mainGlobals "size_of" = some (some (.ref f_size_of)))
    (l_size_of : K.lookup f_size_of = some ⟨oc_size_of, od_size_of, .func (PySem.W.fnOf "size_of" "size_of" (defArgs s_size_of) (defBody s_size_of) (defScope s_size_of) .none kV_size_of dc_size_of pm_size_of an_size_of cd_size_of ct_size_of), sl_size_of⟩)
    (c_size_of : PySem.W.codeIn K cd_size_of "size_of" = true)
    (k_size_of : PySem.W.keepIn K (.ref f_size_of) = true)
    (a_Region___init : PySem.W.findIn K (.ref C_Region) "__init__" = some (some (.ref f_Region___init)))
    (l_Region___init : K.lookup f_Region___init = some ⟨oc_Region___init, od_Region___init, .func (PySem.W.fnOf "__init__" "Region.__init__" (defArgs s_Region___init) (defBody s_Region___init) (defScope s_Region___init) (.ref T_Region___init) kV_Region___init dc_Region___init pm_Region___init an_Region___init cd_Region___init ct_Region___init), sl_Region___init⟩)
    (c_Region___init : PySem.W.codeIn K cd_Region___init "Region.__init__" = true)
    (k_Region___init : PySem.W.keepIn K (.ref f_Region___init) = true)
    (lT_Region___init : K.lookup T_Region___init = some ⟨tc_Region___init, td_Region___init, .seq #[Value.none, Value.none, Value.ref e_Region___init_2] tn_Region___init, ts_Region___init⟩)
    (le_Region___init_2 : K.lookup e_Region___init_2 = some ⟨.type "tuple", ed_Region___init_2, .seq #[] en_Region___init_2, es_Region___init_2⟩)
    (i_Region___init : PySem.W.isFn K (.ref f_Region___init) = true)
    (a_meet : PySem.W.nsIn K mainGlobals "meet" = some (some (.ref f_meet)))
    (l_meet : K.lookup f_meet = some ⟨oc_meet, od_meet, .func (PySem.W.fnOf "meet" "meet" (defArgs s_meet) (defBody s_meet) (defScope s_meet) .none kV_meet dc_meet pm_meet an_meet cd_meet ct_meet), sl_meet⟩)
    (c_meet : PySem.W.codeIn K cd_meet "meet" = true)
    (k_meet : PySem.W.keepIn K (.ref f_meet) = true)
    (a_Region___contains : PySem.W.findIn K (.ref C_Region) "__contains__" = some (some (.ref f_Region___contains)))
    (l_Region___contains : K.lookup f_Region___contains = some ⟨oc_Region___contains, od_Region___contains, .func (PySem.W.fnOf "__contains__" "Region.__contains__" (defArgs s_Region___contains) (defBody s_Region___contains) (defScope s_Region___contains) .none kV_Region___contains dc_Region___contains pm_Region___contains an_Region___contains cd_Region___contains ct_Region___contains), sl_Region___contains⟩)
    (c_Region___contains : PySem.W.codeIn K cd_Region___contains "Region.__contains__" = true)
    (k_Region___contains : PySem.W.keepIn K (.ref f_Region___contains) = true)
    (i_Region___contains : PySem.W.isFn K (.ref f_Region___contains) = true)
    (a_Region___and : PySem.W.findIn K (.ref C_Region) "__and__" = some (some (.ref f_Region___and)))
    (l_Region___and : K.lookup f_Region___and = some ⟨oc_Region___and, od_Region___and, .func (PySem.W.fnOf "__and__" "Region.__and__" (defArgs s_Region___and) (defBody s_Region___and) (defScope s_Region___and) .none kV_Region___and dc_Region___and pm_Region___and an_Region___and cd_Region___and ct_Region___and), sl_Region___and⟩)
    (c_Region___and : PySem.W.codeIn K cd_Region___and "Region.__and__" = true)
    (k_Region___and : PySem.W.keepIn K (.ref f_Region___and) = true)
    (i_Region___and : PySem.W.isFn K (.ref f_Region___and) = true)
    (a_Region___eq : PySem.W.findIn K (.ref C_Region) "__eq__" = some (some (.ref f_Region___eq)))
    (l_Region___eq : K.lookup f_Region___eq = some ⟨oc_Region___eq, od_Region___eq, .func (PySem.W.fnOf "__eq__" "Region.__eq__" (defArgs s_Region___eq) (defBody s_Region___eq) (defScope s_Region___eq) .none kV_Region___eq dc_Region___eq pm_Region___eq an_Region___eq cd_Region___eq ct_Region___eq), sl_Region___eq⟩)
    (c_Region___eq : PySem.W.codeIn K cd_Region___eq "Region.__eq__" = true)
    (k_Region___eq : PySem.W.keepIn K (.ref f_Region___eq) = true)
    (i_Region___eq : PySem.W.isFn K (.ref f_Region___eq) = true)
    (a_Region___bool : PySem.W.findIn K (.ref C_Region) "__bool__" = some (some (.ref f_Region___bool)))
    (l_Region___bool : K.lookup f_Region___bool = some ⟨oc_Region___bool, od_Region___bool, .func (PySem.W.fnOf "__bool__" "Region.__bool__" (defArgs s_Region___bool) (defBody s_Region___bool) (defScope s_Region___bool) .none kV_Region___bool dc_Region___bool pm_Region___bool an_Region___bool cd_Region___bool ct_Region___bool), sl_Region___bool⟩)
    (c_Region___bool : PySem.W.codeIn K cd_Region___bool "Region.__bool__" = true)
    (k_Region___bool : PySem.W.keepIn K (.ref f_Region___bool) = true)
    (i_Region___bool : PySem.W.isFn K (.ref f_Region___bool) = true)
    (a_Region_within : PySem.W.findIn K (.ref C_Region) "within" = some (some (.ref f_Region_within)))
    (l_Region_within : K.lookup f_Region_within = some ⟨oc_Region_within, od_Region_within, .func (PySem.W.fnOf "within" "Region.within" (defArgs s_Region_within) (defBody s_Region_within) (defScope s_Region_within) .none kV_Region_within dc_Region_within pm_Region_within an_Region_within cd_Region_within ct_Region_within), sl_Region_within⟩)
    (c_Region_within : PySem.W.codeIn K cd_Region_within "Region.within" = true)
    (k_Region_within : PySem.W.keepIn K (.ref f_Region_within) = true)
    (i_Region_within : PySem.W.isFn K (.ref f_Region_within) = true)
    (sp_Region_of : PySem.W.findCls K (.ref C_Region) (.type "type") "of" = some (.get (.builtin "staticmethod.__get__") (.ref p_Region_of) .none (.ref C_Region)))
    (a_Region_of : PySem.W.recIn K p_Region_of "staticmethod" = some (.ref f_Region_of :: rest_Region_of))
    (l_Region_of : K.lookup f_Region_of = some ⟨oc_Region_of, od_Region_of, .func (PySem.W.fnOf "of" "Region.of" (defArgs s_Region_of) (defBody s_Region_of) (defScope s_Region_of) .none kV_Region_of dc_Region_of pm_Region_of an_Region_of cd_Region_of ct_Region_of), sl_Region_of⟩)
    (c_Region_of : PySem.W.codeIn K cd_Region_of "Region.of" = true)
    (k_Region_of : PySem.W.keepIn K (.ref f_Region_of) = true)
    (a_l_stands : PySem.W.nsIn K mainGlobals "_law_stands" = some (some (.ref f_l_stands)))
    (l_l_stands : K.lookup f_l_stands = some ⟨oc_l_stands, od_l_stands, .func (PySem.W.fnOf "_law_stands" "_law_stands" (defArgs s_l_stands) (defBody s_l_stands) (defScope s_l_stands) .none kV_l_stands dc_l_stands pm_l_stands an_l_stands cd_l_stands ct_l_stands), sl_l_stands⟩)
    (c_l_stands : PySem.W.codeIn K cd_l_stands "_law_stands" = true)
    (k_l_stands : PySem.W.keepIn K (.ref f_l_stands) = true)
    (a_l_all : PySem.W.nsIn K mainGlobals "_law_all" = some (some (.ref f_l_all)))
    (l_l_all : K.lookup f_l_all = some ⟨oc_l_all, od_l_all, .func (PySem.W.fnOf "_law_all" "_law_all" (defArgs s_l_all) (defBody s_l_all) (defScope s_l_all) .none kV_l_all dc_l_all pm_l_all an_l_all cd_l_all ct_l_all), sl_l_all⟩)
    (c_l_all : PySem.W.codeIn K cd_l_all "_law_all" = true)
    (k_l_all : PySem.W.keepIn K (.ref f_l_all) = true)
    (a_l_conditions : PySem.W.nsIn K mainGlobals "_law_conditions" = some (some (.ref f_l_conditions)))
    (l_l_conditions : K.lookup f_l_conditions = some ⟨oc_l_conditions, od_l_conditions, .func (PySem.W.fnOf "_law_conditions" "_law_conditions" (defArgs s_l_conditions) (defBody s_l_conditions) (defScope s_l_conditions) .none kV_l_conditions dc_l_conditions pm_l_conditions an_l_conditions cd_l_conditions ct_l_conditions), sl_l_conditions⟩)
    (c_l_conditions : PySem.W.codeIn K cd_l_conditions "_law_conditions" = true)
    (k_l_conditions : PySem.W.keepIn K (.ref f_l_conditions) = true)
    (a_l_values : PySem.W.nsIn K mainGlobals "_law_values" = some (some (.ref f_l_values)))
    (l_l_values : K.lookup f_l_values = some ⟨oc_l_values, od_l_values, .func (PySem.W.fnOf "_law_values" "_law_values" (defArgs s_l_values) (defBody s_l_values) (defScope s_l_values) .none kV_l_values dc_l_values pm_l_values an_l_values cd_l_values ct_l_values), sl_l_values⟩)
    (c_l_values : PySem.W.codeIn K cd_l_values "_law_values" = true)
    (k_l_values : PySem.W.keepIn K (.ref f_l_values) = true)
    (a_l_least : PySem.W.nsIn K mainGlobals "_law_least" = some (some (.ref f_l_least)))
    (l_l_least : K.lookup f_l_least = some ⟨oc_l_least, od_l_least, .func (PySem.W.fnOf "_law_least" "_law_least" (defArgs s_l_least) (defBody s_l_least) (defScope s_l_least) .none kV_l_least dc_l_least pm_l_least an_l_least cd_l_least ct_l_least), sl_l_least⟩)
    (c_l_least : PySem.W.codeIn K cd_l_least "_law_least" = true)
    (k_l_least : PySem.W.keepIn K (.ref f_l_least) = true)
    (a_l_greatest : PySem.W.nsIn K mainGlobals "_law_greatest" = some (some (.ref f_l_greatest)))
    (l_l_greatest : K.lookup f_l_greatest = some ⟨oc_l_greatest, od_l_greatest, .func (PySem.W.fnOf "_law_greatest" "_law_greatest" (defArgs s_l_greatest) (defBody s_l_greatest) (defScope s_l_greatest) .none kV_l_greatest dc_l_greatest pm_l_greatest an_l_greatest cd_l_greatest ct_l_greatest), sl_l_greatest⟩)
    (c_l_greatest : PySem.W.codeIn K cd_l_greatest "_law_greatest" = true)
    (k_l_greatest : PySem.W.keepIn K (.ref f_l_greatest) = true)
    (a_l_formed : PySem.W.nsIn K mainGlobals "_law_formed" = some (some (.ref f_l_formed)))
    (l_l_formed : K.lookup f_l_formed = some ⟨oc_l_formed, od_l_formed, .func (PySem.W.fnOf "_law_formed" "_law_formed" (defArgs s_l_formed) (defBody s_l_formed) (defScope s_l_formed) .none kV_l_formed dc_l_formed pm_l_formed an_l_formed cd_l_formed ct_l_formed), sl_l_formed⟩)
    (c_l_formed : PySem.W.codeIn K cd_l_formed "_law_formed" = true)
    (k_l_formed : PySem.W.keepIn K (.ref f_l_formed) = true)
    (a_law : PySem.W.nsIn K mainGlobals "law" = some (some (.ref f_law)))
    (l_law : K.lookup f_law = some ⟨oc_law, od_law, .func (PySem.W.fnOf "law" "law" (defArgs s_law) (defBody s_law) (defScope s_law) .none kV_law dc_law pm_law an_law cd_law ct_law), sl_law⟩)
    (c_law : PySem.W.codeIn K cd_law "law" = true)
    (k_law : PySem.W.keepIn K (.ref f_law) = true)
    (z_bool : PySem.W.nsIn K mainGlobals "bool" = some none)
    (z_int : PySem.W.nsIn K mainGlobals "int" = some none)
    (z_isinstance : PySem.W.nsIn K mainGlobals "isinstance" = some none)
    (z_len : PySem.W.nsIn K mainGlobals "len" = some none)
    (z_max : PySem.W.nsIn K mainGlobals "max" = some none)
    (z_min : PySem.W.nsIn K mainGlobals "min" = some none)
    (z_range : PySem.W.nsIn K mainGlobals "range" = some none)
    (z_set : PySem.W.nsIn K mainGlobals "set" = some none)
    (z_sorted : PySem.W.nsIn K mainGlobals "sorted" = some none)
    (z_tuple : PySem.W.nsIn K mainGlobals "tuple" = some none)
    (pg_Region : PySem.W.plainGet K C_Region Str.empty = true)
    (hd_Region : PySem.W.hasDictIn K C_Region = true)
    (po_Region : PySem.W.plainOver K C_Region = true)
    (sa_Region : PySem.W.findIn K (.ref C_Region) "__setattr__" = some (some (.builtin "object.__setattr__")))
    (na_Region_low : PySem.W.findIn K (.ref C_Region) "low" = some none)
    (na_Region_high : PySem.W.findIn K (.ref C_Region) "high" = some none)
    (na_Region_without : PySem.W.findIn K (.ref C_Region) "without" = some none)
    (na_Region_size : PySem.W.findIn K (.ref C_Region) "size" = some none)
    (na_Region_value : PySem.W.findIn K (.ref C_Region) "value" = some none)
    (na_Region__gaps : PySem.W.findIn K (.ref C_Region) "_gaps" = some none)
    (mk_Region : PySem.W.makesIn K C_Region = true)
    (kc_Region : PySem.W.keepIn K (.ref C_Region) = true)
    (ca_Region : PySem.W.findIn K (.ref C_Region) "__class__" = some (some (.builtin "object.__class__")))
    (cn_ : PySem.W.specialIn K (.builtin "object.__class__") "__get__" = some (some (.builtin "getset_descriptor.__get__")))
    (ct_ : PySem.W.takesIn K (.builtin "object.__class__") = some true)
    (cm_Region : PySem.W.mroIn K C_Region (.type "object") = some true)
    (qq_Region_Region : PySem.W.kitOne K (.ref C_Region) (.ref C_Region) = some true)
    (qnf_Region_Region : PySem.W.notFirst K C_Region (.ref C_Region) = true)
    (rd_Region : PySem.W.readsIn K C_Region (.type "type") = true)
    (gt_Region : PySem.W.specialIn K (.ref C_Region) "__getattribute__" = some (some (.builtin "type.__getattribute__")))
    (qsf_Region : PySem.W.selfFirst K C_Region = true)
    (na_BadSign_sign : PySem.W.findIn K (.ref C_BadSign) "sign" = some none)
    (xl_BadSign : K.lookup C_BadSign = some (excClassObj nm_BadSign q_BadSign C_BadSign N_BadSign bs_BadSign bm_BadSign true sn_BadSign sub_BadSign ab_BadSign col_BadSign dd_BadSign m0_BadSign m1_BadSign m2_BadSign m3_BadSign m5_BadSign "ValueError.__new__"))
    (rv_BadSign : PySem.HandSPX.refsVE bm_BadSign = true)
    (sa_BadSign : PySem.W.findIn K (.ref C_BadSign) "__setattr__" = some (some (.builtin "object.__setattr__")))
    (ex_BadSign : PySem.W.subIn K (.ref C_BadSign) (.type "BaseException") = some true)
    (ty_BadSign : PySem.W.typeIn K (.ref C_BadSign) = some (.type "type"))
    (kc_BadSign : PySem.W.keepIn K (.ref C_BadSign) = true)
    (a_e_BadSign : PySem.W.findIn K (.ref C_BadSign) "__init__" = some (some (.ref f_e_BadSign)))
    (l_e_BadSign : K.lookup f_e_BadSign = some ⟨oc_e_BadSign, od_e_BadSign, .func (PySem.W.fnOf "__init__" "BadSign.__init__" (defArgs s_e_BadSign) (defBody s_e_BadSign) (defScope s_e_BadSign) .none kV_e_BadSign dc_e_BadSign pm_e_BadSign an_e_BadSign cd_e_BadSign ct_e_BadSign), sl_e_BadSign⟩)
    (c_e_BadSign : PySem.W.codeIn K cd_e_BadSign "BadSign.__init__" = true)
    (k_e_BadSign : PySem.W.keepIn K (.ref f_e_BadSign) = true)
    (tI_BadSign : PySem.W.typeIn K (.ref f_e_BadSign) = some (.type "function"))
    : ∃ fd : FuncData, (∀ (s : Shared) (v : Value), BindsTo s fd ⟨[v], []⟩ [("_law_script", v)]) ∧ ∀ base : Heap, K.In base → base.Ns mainGlobals mg → FnOk P w K mg base CX0 7 fa fd ["_law_script"] (SpL (w1 (rScr K)) rBool (fun x => m_law x)) := by
  have e := hfa.symm.trans (PySem.W.mg_of X G a_law)
  cases e
  have FD_Region___init : FunD K "__init__" "Region.__init__" (defArgs s_Region___init) (defBody s_Region___init) (defScope s_Region___init) [V.non, V.non, V.ref e_Region___init_2] [] f_Region___init (PySem.W.fnOf "__init__" "Region.__init__" (defArgs s_Region___init) (defBody s_Region___init) (defScope s_Region___init) (.ref T_Region___init) kV_Region___init dc_Region___init pm_Region___init an_Region___init cd_Region___init ct_Region___init) := ⟨⟨_, _, _, _, _, _, _, _, _, _, rfl, l_Region___init, c_Region___init, .inr ⟨List.cons_ne_nil _ _, T_Region___init, _, [Value.none, Value.none, Value.ref e_Region___init_2], _, rfl, lT_Region___init, rfl, (.cons rfl (.cons rfl (.cons rfl .nil)))⟩, .inl rfl⟩, k_Region___init⟩
  obtain ⟨z_Region___init_0, v_Region___init_0, n_Region___init_0⟩ := FD_Region___init.binds1 (ps := ["self", "low", "high", "without"]) 1 0 (List.cons_ne_nil _ _) rfl (fun T kV doc pm an cdv ct us its l1 l2 => match us, its, l1, l2 with | [_], [_, _, _], _, _ => ⟨_, rfl, rfl⟩)
  obtain ⟨z_Region___init_2, v_Region___init_2, n_Region___init_2⟩ := FD_Region___init.binds1 (ps := ["self", "low", "high", "without"]) 3 2 (List.cons_ne_nil _ _) rfl (fun T kV doc pm an cdv ct us its l1 l2 => match us, its, l1, l2 with | [_, _, _], [_, _, _], _, _ => ⟨_, rfl, rfl⟩)
  obtain ⟨z_Region___init_3, v_Region___init_3, n_Region___init_3⟩ := FD_Region___init.binds1 (ps := ["self", "low", "high", "without"]) 4 3 (List.cons_ne_nil _ _) rfl (fun T kV doc pm an cdv ct us its l1 l2 => match us, its, l1, l2 with | [_, _, _, _], [_, _, _], _, _ => ⟨_, rfl, rfl⟩)
  have T : Txt K mg { f_between := f_between, d_between := PySem.W.fnOf "between" "between" (defArgs s_between) (defBody s_between) (defScope s_between) .none kV_between dc_between pm_between an_between cd_between ct_between, f_one_form := f_one_form, d_one_form := PySem.W.fnOf "one_form" "one_form" (defArgs s_one_form) (defBody s_one_form) (defScope s_one_form) .none kV_one_form dc_one_form pm_one_form an_one_form cd_one_form ct_one_form, f_size_of := f_size_of, d_size_of := PySem.W.fnOf "size_of" "size_of" (defArgs s_size_of) (defBody s_size_of) (defScope s_size_of) .none kV_size_of dc_size_of pm_size_of an_size_of cd_size_of ct_size_of, f_Region___init := f_Region___init, d_Region___init := PySem.W.fnOf "__init__" "Region.__init__" (defArgs s_Region___init) (defBody s_Region___init) (defScope s_Region___init) (.ref T_Region___init) kV_Region___init dc_Region___init pm_Region___init an_Region___init cd_Region___init ct_Region___init, e_Region___init_2 := e_Region___init_2, z_Region___init_0 := z_Region___init_0, z_Region___init_2 := z_Region___init_2, z_Region___init_3 := z_Region___init_3, f_meet := f_meet, d_meet := PySem.W.fnOf "meet" "meet" (defArgs s_meet) (defBody s_meet) (defScope s_meet) .none kV_meet dc_meet pm_meet an_meet cd_meet ct_meet, f_Region___contains := f_Region___contains, d_Region___contains := PySem.W.fnOf "__contains__" "Region.__contains__" (defArgs s_Region___contains) (defBody s_Region___contains) (defScope s_Region___contains) .none kV_Region___contains dc_Region___contains pm_Region___contains an_Region___contains cd_Region___contains ct_Region___contains, f_Region___and := f_Region___and, d_Region___and := PySem.W.fnOf "__and__" "Region.__and__" (defArgs s_Region___and) (defBody s_Region___and) (defScope s_Region___and) .none kV_Region___and dc_Region___and pm_Region___and an_Region___and cd_Region___and ct_Region___and, f_Region___eq := f_Region___eq, d_Region___eq := PySem.W.fnOf "__eq__" "Region.__eq__" (defArgs s_Region___eq) (defBody s_Region___eq) (defScope s_Region___eq) .none kV_Region___eq dc_Region___eq pm_Region___eq an_Region___eq cd_Region___eq ct_Region___eq, f_Region___bool := f_Region___bool, d_Region___bool := PySem.W.fnOf "__bool__" "Region.__bool__" (defArgs s_Region___bool) (defBody s_Region___bool) (defScope s_Region___bool) .none kV_Region___bool dc_Region___bool pm_Region___bool an_Region___bool cd_Region___bool ct_Region___bool, f_Region_within := f_Region_within, d_Region_within := PySem.W.fnOf "within" "Region.within" (defArgs s_Region_within) (defBody s_Region_within) (defScope s_Region_within) .none kV_Region_within dc_Region_within pm_Region_within an_Region_within cd_Region_within ct_Region_within, f_Region_of := f_Region_of, d_Region_of := PySem.W.fnOf "of" "Region.of" (defArgs s_Region_of) (defBody s_Region_of) (defScope s_Region_of) .none kV_Region_of dc_Region_of pm_Region_of an_Region_of cd_Region_of ct_Region_of, p_Region_of := p_Region_of, f_l_stands := f_l_stands, d_l_stands := PySem.W.fnOf "_law_stands" "_law_stands" (defArgs s_l_stands) (defBody s_l_stands) (defScope s_l_stands) .none kV_l_stands dc_l_stands pm_l_stands an_l_stands cd_l_stands ct_l_stands, f_l_all := f_l_all, d_l_all := PySem.W.fnOf "_law_all" "_law_all" (defArgs s_l_all) (defBody s_l_all) (defScope s_l_all) .none kV_l_all dc_l_all pm_l_all an_l_all cd_l_all ct_l_all, f_l_conditions := f_l_conditions, d_l_conditions := PySem.W.fnOf "_law_conditions" "_law_conditions" (defArgs s_l_conditions) (defBody s_l_conditions) (defScope s_l_conditions) .none kV_l_conditions dc_l_conditions pm_l_conditions an_l_conditions cd_l_conditions ct_l_conditions, f_l_values := f_l_values, d_l_values := PySem.W.fnOf "_law_values" "_law_values" (defArgs s_l_values) (defBody s_l_values) (defScope s_l_values) .none kV_l_values dc_l_values pm_l_values an_l_values cd_l_values ct_l_values, f_l_least := f_l_least, d_l_least := PySem.W.fnOf "_law_least" "_law_least" (defArgs s_l_least) (defBody s_l_least) (defScope s_l_least) .none kV_l_least dc_l_least pm_l_least an_l_least cd_l_least ct_l_least, f_l_greatest := f_l_greatest, d_l_greatest := PySem.W.fnOf "_law_greatest" "_law_greatest" (defArgs s_l_greatest) (defBody s_l_greatest) (defScope s_l_greatest) .none kV_l_greatest dc_l_greatest pm_l_greatest an_l_greatest cd_l_greatest ct_l_greatest, f_l_formed := f_l_formed, d_l_formed := PySem.W.fnOf "_law_formed" "_law_formed" (defArgs s_l_formed) (defBody s_l_formed) (defScope s_l_formed) .none kV_l_formed dc_l_formed pm_l_formed an_l_formed cd_l_formed ct_l_formed, f_law := fa, d_law := PySem.W.fnOf "law" "law" (defArgs s_law) (defBody s_law) (defScope s_law) .none kV_law dc_law pm_law an_law cd_law ct_law, C_Region := C_Region, C_BadSign := C_BadSign, f_e_BadSign := f_e_BadSign, d_e_BadSign := PySem.W.fnOf "__init__" "BadSign.__init__" (defArgs s_e_BadSign) (defBody s_e_BadSign) (defScope s_e_BadSign) .none kV_e_BadSign dc_e_BadSign pm_e_BadSign an_e_BadSign cd_e_BadSign ct_e_BadSign } := { F_between := fun_mk (st := s_between) l_between c_between k_between, g_between := PySem.W.mg_of X G a_between, n_between := (fun_mk (st := s_between) l_between c_between k_between).binds (ps := ["low", "high", "number"]) fun _ _ _ _ _ _ us hl => match us, hl with | [_, _, _], _ => rfl, F_one_form := fun_mk (st := s_one_form) l_one_form c_one_form k_one_form, g_one_form := PySem.W.mg_of X G a_one_form, n_one_form := (fun_mk (st := s_one_form) l_one_form c_one_form k_one_form).binds (ps := ["low", "high", "without"]) fun _ _ _ _ _ _ us hl => match us, hl with | [_, _, _], _ => rfl, F_size_of := fun_mk (st := s_size_of) l_size_of c_size_of k_size_of, g_size_of := PySem.W.mg_of X G a_size_of, n_size_of := (fun_mk (st := s_size_of) l_size_of c_size_of k_size_of).binds (ps := ["low", "high", "without"]) fun _ _ _ _ _ _ us hl => match us, hl with | [_, _, _], _ => rfl, F_Region___init := FD_Region___init, t_Region___init_2 := ⟨_, _, le_Region___init_2, rfl, rfl⟩, n_Region___init_0 := n_Region___init_0, v_Region___init_0 := v_Region___init_0, n_Region___init_2 := n_Region___init_2, v_Region___init_2 := v_Region___init_2, n_Region___init_3 := n_Region___init_3, v_Region___init_3 := v_Region___init_3, F_meet := fun_mk (st := s_meet) l_meet c_meet k_meet, g_meet := PySem.W.mg_of X G a_meet, n_meet := (fun_mk (st := s_meet) l_meet c_meet k_meet).binds (ps := ["regions"]) fun _ _ _ _ _ _ us hl => match us, hl with | [_], _ => rfl, F_Region___contains := fun_mk (st := s_Region___contains) l_Region___contains c_Region___contains k_Region___contains, n_Region___contains := (fun_mk (st := s_Region___contains) l_Region___contains c_Region___contains k_Region___contains).binds (ps := ["self", "x"]) fun _ _ _ _ _ _ us hl => match us, hl with | [_, _], _ => rfl, F_Region___and := fun_mk (st := s_Region___and) l_Region___and c_Region___and k_Region___and, n_Region___and := (fun_mk (st := s_Region___and) l_Region___and c_Region___and k_Region___and).binds (ps := ["self", "other"]) fun _ _ _ _ _ _ us hl => match us, hl with | [_, _], _ => rfl, F_Region___eq := fun_mk (st := s_Region___eq) l_Region___eq c_Region___eq k_Region___eq, n_Region___eq := (fun_mk (st := s_Region___eq) l_Region___eq c_Region___eq k_Region___eq).binds (ps := ["self", "other"]) fun _ _ _ _ _ _ us hl => match us, hl with | [_, _], _ => rfl, F_Region___bool := fun_mk (st := s_Region___bool) l_Region___bool c_Region___bool k_Region___bool, n_Region___bool := (fun_mk (st := s_Region___bool) l_Region___bool c_Region___bool k_Region___bool).binds (ps := ["self"]) fun _ _ _ _ _ _ us hl => match us, hl with | [_], _ => rfl, F_Region_within := fun_mk (st := s_Region_within) l_Region_within c_Region_within k_Region_within, n_Region_within := (fun_mk (st := s_Region_within) l_Region_within c_Region_within k_Region_within).binds (ps := ["self", "other"]) fun _ _ _ _ _ _ us hl => match us, hl with | [_, _], _ => rfl, F_Region_of := fun_mk (st := s_Region_of) l_Region_of c_Region_of k_Region_of, sm_Region_of := ⟨sp_Region_of, ⟨_, a_Region_of⟩, k_Region_of⟩, n_Region_of := (fun_mk (st := s_Region_of) l_Region_of c_Region_of k_Region_of).binds (ps := ["sign", "number"]) fun _ _ _ _ _ _ us hl => match us, hl with | [_, _], _ => rfl, F_l_stands := fun_mk (st := s_l_stands) l_l_stands c_l_stands k_l_stands, g_l_stands := PySem.W.mg_of X G a_l_stands, n_l_stands := (fun_mk (st := s_l_stands) l_l_stands c_l_stands k_l_stands).binds (ps := ["_law_value", "_law_sign", "_law_number"]) fun _ _ _ _ _ _ us hl => match us, hl with | [_, _, _], _ => rfl, F_l_all := fun_mk (st := s_l_all) l_l_all c_l_all k_l_all, g_l_all := PySem.W.mg_of X G a_l_all, n_l_all := (fun_mk (st := s_l_all) l_l_all c_l_all k_l_all).binds (ps := ["_law_conditions_here", "_law_value"]) fun _ _ _ _ _ _ us hl => match us, hl with | [_, _], _ => rfl, F_l_conditions := fun_mk (st := s_l_conditions) l_l_conditions c_l_conditions k_l_conditions, g_l_conditions := PySem.W.mg_of X G a_l_conditions, n_l_conditions := (fun_mk (st := s_l_conditions) l_l_conditions c_l_conditions k_l_conditions).binds (ps := ["_law_script"]) fun _ _ _ _ _ _ us hl => match us, hl with | [_], _ => rfl, F_l_values := fun_mk (st := s_l_values) l_l_values c_l_values k_l_values, g_l_values := PySem.W.mg_of X G a_l_values, n_l_values := (fun_mk (st := s_l_values) l_l_values c_l_values k_l_values).binds (ps := ["_law_conditions_here"]) fun _ _ _ _ _ _ us hl => match us, hl with | [_], _ => rfl, F_l_least := fun_mk (st := s_l_least) l_l_least c_l_least k_l_least, g_l_least := PySem.W.mg_of X G a_l_least, n_l_least := (fun_mk (st := s_l_least) l_l_least c_l_least k_l_least).binds (ps := ["_law_conditions_here"]) fun _ _ _ _ _ _ us hl => match us, hl with | [_], _ => rfl, F_l_greatest := fun_mk (st := s_l_greatest) l_l_greatest c_l_greatest k_l_greatest, g_l_greatest := PySem.W.mg_of X G a_l_greatest, n_l_greatest := (fun_mk (st := s_l_greatest) l_l_greatest c_l_greatest k_l_greatest).binds (ps := ["_law_conditions_here"]) fun _ _ _ _ _ _ us hl => match us, hl with | [_], _ => rfl, F_l_formed := fun_mk (st := s_l_formed) l_l_formed c_l_formed k_l_formed, g_l_formed := PySem.W.mg_of X G a_l_formed, n_l_formed := (fun_mk (st := s_l_formed) l_l_formed c_l_formed k_l_formed).binds (ps := ["_law_region", "_law_conditions_here"]) fun _ _ _ _ _ _ us hl => match us, hl with | [_, _], _ => rfl, F_law := fun_mk (st := s_law) l_law c_law k_law, g_law := PySem.W.mg_of X G a_law, n_law := (fun_mk (st := s_law) l_law c_law k_law).binds (ps := ["_law_script"]) fun _ _ _ _ _ _ us hl => match us, hl with | [_], _ => rfl, b_bool := PySem.W.mg_none_of X G z_bool, b_int := PySem.W.mg_none_of X G z_int, b_isinstance := PySem.W.mg_none_of X G z_isinstance, b_len := PySem.W.mg_none_of X G z_len, b_max := PySem.W.mg_none_of X G z_max, b_min := PySem.W.mg_none_of X G z_min, b_range := PySem.W.mg_none_of X G z_range, b_set := PySem.W.mg_none_of X G z_set, b_sorted := PySem.W.mg_none_of X G z_sorted, b_tuple := PySem.W.mg_none_of X G z_tuple, g_Region := PySem.W.mg_of X G aC_Region, cl_Region := ⟨pg_Region, hd_Region, po_Region, sa_Region⟩, na_Region_low := na_Region_low, na_Region_high := na_Region_high, na_Region_without := na_Region_without, na_Region_size := na_Region_size, na_Region_value := na_Region_value, na_Region__gaps := na_Region__gaps, M_Region := ⟨mk_Region, a_Region___init, i_Region___init, kc_Region⟩, ct_Region := ⟨⟨pg_Region, hd_Region, po_Region, sa_Region⟩, ca_Region, cn_, ct_, cm_Region⟩, q_Region_Region := qq_Region_Region, me_Region___eq := ⟨a_Region___eq, i_Region___eq, k_Region___eq⟩, nf_Region_Region := qnf_Region_Region, g_BadSign := PySem.W.mg_of X G aC_BadSign, me_Region___bool := ⟨a_Region___bool, i_Region___bool, k_Region___bool⟩, cr_Region := ⟨rd_Region, gt_Region⟩, me_Region___and := ⟨a_Region___and, i_Region___and, k_Region___and⟩, sf_Region := qsf_Region, me_Region_within := ⟨a_Region_within, i_Region_within, k_Region_within⟩, me_Region___contains := ⟨a_Region___contains, i_Region___contains, k_Region___contains⟩, na_BadSign_sign := na_BadSign_sign, x_BadSign := ⟨⟨_, _, _, _, _, _, _, _, _, _, _, _, _, _, _, xl_BadSign, rv_BadSign⟩, sa_BadSign, ex_BadSign, ty_BadSign, kc_BadSign⟩, F_e_BadSign := fun_mk (st := s_e_BadSign) l_e_BadSign c_e_BadSign k_e_BadSign, i_BadSign := a_e_BadSign, t_BadSign := tI_BadSign, n_e_BadSign := (fun_mk (st := s_e_BadSign) l_e_BadSign c_e_BadSign k_e_BadSign).binds (ps := ["self", "sign"]) fun _ _ _ _ _ _ us hl => match us, hl with | [_, _], _ => rfl }
  exact ⟨_, fun s v => .of_eq rfl, fun base _ _ => ok_law T⟩
end Law
open PySem PySem.W PyProof.Rows
set_option maxRecDepth 100000 in
set_option maxHeartbeats 0 in
theorem PySem.Challenge.cw_shownwrites_k07_whole_conditions_meet_holds : PySem.Challenge.rw_shownwrites_k07_whole_conditions_meet.Holds := by
  w_on; o_law; k_head; (case hw => w_witness2)
  k_fill
  refine L2.walk_of (n := 63) (k := 7) (x := "_law_script") (CX := fun _ => L2.CX0) (sp := fun w => G.SpL (G.w1 (G.rScr _)) G.rBool (fun x => Law.m_law x)) rfl (by decide) rfl ⟨rfl, by decide, by decide⟩ (fun w h Y => PySem.W.kIn_of Y) ?F (fun w H a ns hl _ hS => ⟨H, ns, true, L2.Same.refl _, ⟨_, rfl, a, rfl, hS⟩, Law.law_true ns hl, fun H2 B2 v P k => k⟩) fun _ _ _ _ _ z => z
  case F =>
    intro w mg fa h KX G hmg
    refine' Law.all_mk KX G hmg ?aC_Region ?aC_BadSign ?a_between ?l_between ?c_between ?k_between ?a_one_form ?l_one_form ?c_one_form ?k_one_form ?a_size_of ?l_size_of ?c_size_of ?k_size_of ?a_Region___init ?l_Region___init ?c_Region___init ?k_Region___init ?lT_Region___init ?le_Region___init_2 ?i_Region___init ?a_meet ?l_meet ?c_meet ?k_meet ?a_Region___contains ?l_Region___contains ?c_Region___contains ?k_Region___contains ?i_Region___contains ?a_Region___and ?l_Region___and ?c_Region___and ?k_Region___and ?i_Region___and ?a_Region___eq ?l_Region___eq ?c_Region___eq ?k_Region___eq ?i_Region___eq ?a_Region___bool ?l_Region___bool ?c_Region___bool ?k_Region___bool ?i_Region___bool ?a_Region_within ?l_Region_within ?c_Region_within ?k_Region_within ?i_Region_within ?sp_Region_of ?a_Region_of ?l_Region_of ?c_Region_of ?k_Region_of ?a_l_stands ?l_l_stands ?c_l_stands ?k_l_stands ?a_l_all ?l_l_all ?c_l_all ?k_l_all ?a_l_conditions ?l_l_conditions ?c_l_conditions ?k_l_conditions ?a_l_values ?l_l_values ?c_l_values ?k_l_values ?a_l_least ?l_l_least ?c_l_least ?k_l_least ?a_l_greatest ?l_l_greatest ?c_l_greatest ?k_l_greatest ?a_l_formed ?l_l_formed ?c_l_formed ?k_l_formed ?a_law ?l_law ?c_law ?k_law ?z_bool ?z_int ?z_isinstance ?z_len ?z_max ?z_min ?z_range ?z_set ?z_sorted ?z_tuple ?pg_Region ?hd_Region ?po_Region ?sa_Region ?na_Region_low ?na_Region_high ?na_Region_without ?na_Region_size ?na_Region_value ?na_Region__gaps ?mk_Region ?kc_Region ?ca_Region ?cn_ ?ct_ ?cm_Region ?qq_Region_Region ?qnf_Region_Region ?rd_Region ?gt_Region ?qsf_Region ?na_BadSign_sign ?xl_BadSign ?rv_BadSign ?sa_BadSign ?ex_BadSign ?ty_BadSign ?kc_BadSign ?a_e_BadSign ?l_e_BadSign ?c_e_BadSign ?k_e_BadSign ?tI_BadSign
    (case aC_Region => first | k_is | rfl)
    (case aC_BadSign => first | k_is | rfl)
    (case a_between => first | k_is | rfl)
    (case l_between => first | k_is | rfl)
    (case c_between => first | k_is | rfl)
    (case k_between => first | k_is | rfl)
    (case a_one_form => first | k_is | rfl)
    (case l_one_form => first | k_is | rfl)
    (case c_one_form => first | k_is | rfl)
    (case k_one_form => first | k_is | rfl)
    (case a_size_of => first | k_is | rfl)
    (case l_size_of => first | k_is | rfl)
    (case c_size_of => first | k_is | rfl)
    (case k_size_of => first | k_is | rfl)
    (case a_Region___init => first | k_is | rfl)
    (case l_Region___init => first | k_is | rfl)
    (case c_Region___init => first | k_is | rfl)
    (case k_Region___init => first | k_is | rfl)
    (case lT_Region___init => first | k_is | rfl)
    (case le_Region___init_2 => first | k_is | rfl)
    (case i_Region___init => first | k_is | rfl)
    (case a_meet => first | k_is | rfl)
    (case l_meet => first | k_is | rfl)
    (case c_meet => first | k_is | rfl)
    (case k_meet => first | k_is | rfl)
    (case a_Region___contains => first | k_is | rfl)
    (case l_Region___contains => first | k_is | rfl)
    (case c_Region___contains => first | k_is | rfl)
    (case k_Region___contains => first | k_is | rfl)
    (case i_Region___contains => first | k_is | rfl)
    (case a_Region___and => first | k_is | rfl)
    (case l_Region___and => first | k_is | rfl)
    (case c_Region___and => first | k_is | rfl)
    (case k_Region___and => first | k_is | rfl)
    (case i_Region___and => first | k_is | rfl)
    (case a_Region___eq => first | k_is | rfl)
    (case l_Region___eq => first | k_is | rfl)
    (case c_Region___eq => first | k_is | rfl)
    (case k_Region___eq => first | k_is | rfl)
    (case i_Region___eq => first | k_is | rfl)
    (case a_Region___bool => first | k_is | rfl)
    (case l_Region___bool => first | k_is | rfl)
    (case c_Region___bool => first | k_is | rfl)
    (case k_Region___bool => first | k_is | rfl)
    (case i_Region___bool => first | k_is | rfl)
    (case a_Region_within => first | k_is | rfl)
    (case l_Region_within => first | k_is | rfl)
    (case c_Region_within => first | k_is | rfl)
    (case k_Region_within => first | k_is | rfl)
    (case i_Region_within => first | k_is | rfl)
    (case sp_Region_of => first | k_is | rfl)
    (case a_Region_of => first | k_is | rfl)
    (case l_Region_of => first | k_is | rfl)
    (case c_Region_of => first | k_is | rfl)
    (case k_Region_of => first | k_is | rfl)
    (case a_l_stands => first | k_is | rfl)
    (case l_l_stands => first | k_is | rfl)
    (case c_l_stands => first | k_is | rfl)
    (case k_l_stands => first | k_is | rfl)
    (case a_l_all => first | k_is | rfl)
    (case l_l_all => first | k_is | rfl)
    (case c_l_all => first | k_is | rfl)
    (case k_l_all => first | k_is | rfl)
    (case a_l_conditions => first | k_is | rfl)
    (case l_l_conditions => first | k_is | rfl)
    (case c_l_conditions => first | k_is | rfl)
    (case k_l_conditions => first | k_is | rfl)
    (case a_l_values => first | k_is | rfl)
    (case l_l_values => first | k_is | rfl)
    (case c_l_values => first | k_is | rfl)
    (case k_l_values => first | k_is | rfl)
    (case a_l_least => first | k_is | rfl)
    (case l_l_least => first | k_is | rfl)
    (case c_l_least => first | k_is | rfl)
    (case k_l_least => first | k_is | rfl)
    (case a_l_greatest => first | k_is | rfl)
    (case l_l_greatest => first | k_is | rfl)
    (case c_l_greatest => first | k_is | rfl)
    (case k_l_greatest => first | k_is | rfl)
    (case a_l_formed => first | k_is | rfl)
    (case l_l_formed => first | k_is | rfl)
    (case c_l_formed => first | k_is | rfl)
    (case k_l_formed => first | k_is | rfl)
    (case a_law => first | k_is | rfl)
    (case l_law => first | k_is | rfl)
    (case c_law => first | k_is | rfl)
    (case k_law => first | k_is | rfl)
    (case z_bool => first | k_is | rfl)
    (case z_int => first | k_is | rfl)
    (case z_isinstance => first | k_is | rfl)
    (case z_len => first | k_is | rfl)
    (case z_max => first | k_is | rfl)
    (case z_min => first | k_is | rfl)
    (case z_range => first | k_is | rfl)
    (case z_set => first | k_is | rfl)
    (case z_sorted => first | k_is | rfl)
    (case z_tuple => first | k_is | rfl)
    (case pg_Region => first | k_is | rfl)
    (case hd_Region => first | k_is | rfl)
    (case po_Region => first | k_is | rfl)
    (case sa_Region => first | k_is | rfl)
    (case na_Region_low => first | k_is | rfl)
    (case na_Region_high => first | k_is | rfl)
    (case na_Region_without => first | k_is | rfl)
    (case na_Region_size => first | k_is | rfl)
    (case na_Region_value => first | k_is | rfl)
    (case na_Region__gaps => first | k_is | rfl)
    (case mk_Region => first | k_is | rfl)
    (case kc_Region => first | k_is | rfl)
    (case ca_Region => first | k_is | rfl)
    (case cn_ => first | k_is | rfl)
    (case ct_ => first | k_is | rfl)
    (case cm_Region => first | k_is | rfl)
    (case qq_Region_Region => first | k_is | rfl)
    (case qnf_Region_Region => first | k_is | rfl)
    (case rd_Region => first | k_is | rfl)
    (case gt_Region => first | k_is | rfl)
    (case qsf_Region => first | k_is | rfl)
    (case na_BadSign_sign => first | k_is | rfl)
    (case xl_BadSign => first | k_is | rfl)
    (case rv_BadSign => first | k_is | rfl)
    (case sa_BadSign => first | k_is | rfl)
    (case ex_BadSign => first | k_is | rfl)
    (case ty_BadSign => first | k_is | rfl)
    (case kc_BadSign => first | k_is | rfl)
    (case a_e_BadSign => first | k_is | rfl)
    (case l_e_BadSign => first | k_is | rfl)
    (case c_e_BadSign => first | k_is | rfl)
    (case k_e_BadSign => first | k_is | rfl)
    (case tI_BadSign => first | k_is | rfl)

